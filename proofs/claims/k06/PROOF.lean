import PyProof.Rows.All
import Wide.All
import OpenK.AllK
import Wide.FinOn
import Lean
import PyProof.EqAt
import PyProof.EqKinds
import PyProof.TupleCall
import PySem.Challenge.RW_ferry_k06_read
set_option Elab.async false
set_option linter.all false
set_option maxRecDepth 100000
namespace L2
open PySem PySem.Spec PyProof.Rows
noncomputable abbrev Key:=Sum Int Str
noncomputable def keyIs:Key→Value→Bool
 | .inl k,v=>Value.isInt k v
 | .inr x,v=>Value.isStrOf x v
noncomputable def keyH (w:World):Key→Int
 | .inl k=>hashInt k
 | .inr x=>hashStr w x
theorem keyIs_shape:∀ {k:Key} {v:Value},keyIs k v=true→(∃ i t,k=Sum.inl i∧v=Value.int i t) ∨ (∃ x t,k=Sum.inr x∧v=Value.str x t)
 | .inl i,v,h=>by
  obtain ⟨t,e⟩:=Value.isInt_shape (k:=i) (v:=v) h
  exact .inl ⟨i,t,rfl,e⟩
 | .inr x,v,h=>by
  obtain ⟨t,e⟩:=Value.isStrOf_shape (x:=x) (v:=v) h
  exact .inr ⟨x,t,rfl,e⟩
theorem keyIs_int (i:Int) (t:Tok):keyIs (.inl i) (.int i t)=true:=by simp [keyIs,Value.isInt]
theorem keyIs_str (x:Str) (t:Tok):keyIs (.inr x) (.str x t)=true:=by simp [keyIs,Value.isStrOf]
theorem key_ll (a b:Int):decide ((Sum.inl a:Key)=Sum.inl b)=(a == b):=by
 by_cases e:a=b
 ·subst e; simp
 ·have h:¬ (Sum.inl a:Key)=Sum.inl b:=fun q=>e (Sum.inl.inj q)
  rw [decide_eq_false h]
  exact (beq_eq_false_iff_ne.mpr e).symm
theorem key_rr (a b:Str):decide ((Sum.inr a:Key)=Sum.inr b)=decide (a=b):=by
 by_cases e:a=b
 ·subst e; simp
 ·have h:¬ (Sum.inr a:Key)=Sum.inr b:=fun q=>e (Sum.inr.inj q)
  rw [decide_eq_false h,decide_eq_false e]
theorem key_lr (a:Int) (b:Str):decide ((Sum.inl a:Key)=Sum.inr b)=false:=decide_eq_false (fun q=>nomatch q)
theorem key_rl (a:Str) (b:Int):decide ((Sum.inr a:Key)=Sum.inl b)=false:=decide_eq_false (fun q=>nomatch q)
noncomputable def mixKind (prog:Program) (w:World):PySem.KeyKind prog w Key where
 is:=keyIs
 hash:=keyH w
 inj:=fun v a b ha hb=>by
  rcases keyIs_shape ha with ⟨i,t,rfl,rfl⟩ | ⟨x,t,rfl,rfl⟩
  ·rcases keyIs_shape hb with ⟨j,u,rfl,e⟩ | ⟨y,u,rfl,e⟩
   ·injection e with e1 _; rw [e1]
   ·exact nomatch e
  ·rcases keyIs_shape hb with ⟨j,u,rfl,e⟩ | ⟨y,u,rfl,e⟩
   ·exact nomatch e
   ·injection e with e1 _; rw [e1]
 byValue:=fun k v h=>by
  rcases keyIs_shape h with ⟨i,t,rfl,rfl⟩ | ⟨x,t,rfl,rfl⟩ <;> rfl
 pyHash:=fun hv h=>by
  rcases keyIs_shape hv with ⟨i,t,rfl,rfl⟩ | ⟨x,t,rfl,rfl⟩
  ·exact wpAny_pyHash_int h
  ·exact wpAny_pyHash_str h
 eqBool:=fun hu hv h=>by
  rcases keyIs_shape hu with ⟨i,t,rfl,rfl⟩ | ⟨x,t,rfl,rfl⟩
  ·rcases keyIs_shape hv with ⟨j,u,rfl,rfl⟩ | ⟨y,u,rfl,rfl⟩
   ·rw [key_ll] at h; exact wpAny_eqBool_int h
   ·rw [key_lr] at h; exact SeqAt.EqAt.int_str i t y u _ _ _ _ h
  ·rcases keyIs_shape hv with ⟨j,u,rfl,rfl⟩ | ⟨y,u,rfl,rfl⟩
   ·rw [key_rl] at h; exact SeqAt.EqAt.str_int x t j u _ _ _ _ h
   ·rw [key_rr] at h; exact wpAny_eqBool_str h
 «strs»:=fun k x t v h=>by
  rcases keyIs_shape h with ⟨i,u,rfl,e⟩ | ⟨y,u,rfl,e⟩
  ·exact nomatch e
  ·injection e with e1 _
   subst e1
   cases v <;> rfl
theorem mixKind_int (prog:Program) (w:World) (i:Int) (t:Tok):(mixKind prog w).is (.inl i) (.int i t)=true:=keyIs_int i t
theorem mixKind_str (prog:Program) (w:World) (x:Str) (t:Tok):(mixKind prog w).is (.inr x) (.str x t)=true:=keyIs_str x t
end L2
namespace L2
open PySem PySem.Spec PyProof.Rows
inductive V where
 | non | bl (b:Bool) | int (i:Int) | str (x:Str) | byt (b:Array UInt8) | flt (b:UInt64) | ref (a:Addr) | ty (n:String)
 deriving DecidableEq
noncomputable def RelV:V→Value→Prop
 | .non,u=>u=Value.none
 | .bl b,u=>u=Value.bool b
 | .int i,u=>∃ t,u=Value.int i t
 | .str x,u=>∃ t,u=Value.str x t
 | .byt b,u=>∃ t,u=Value.bytes b t
 | .flt b,u=>∃ t,u=Value.float b t
 | .ref a,u=>u=Value.ref a
 | .ty n,u=>u=Value.type n
noncomputable abbrev Vals:List V→List Value→Prop:=Paired RelV
theorem Vals.length {xs:List V} {us:List Value} (r:Vals xs us):xs.length=us.length:=Paired.length r
theorem Vals.get:∀ {xs:List V} {us:List Value} {i:Nat} {x:V},Vals xs us→xs[i]?=some x→∃ u,us[i]?=some u∧RelV x u
 | _,_,_,_,.nil,e=>by simp at e
 | _,_,0,_,.cons r _,e=>by simp at e; subst e; exact ⟨_,rfl,r⟩
 | _,_,i+1,x,.cons _ t,e=>by
  obtain ⟨u,h1,h2⟩:=Vals.get (i:=i) (x:=x) t (by simpa using e)
  exact ⟨u,by simpa using h1,h2⟩
theorem Vals.append:∀ {xs ys:List V} {us ws:List Value},Vals xs us→Vals ys ws→Vals (xs++ys) (us++ws)
 | _,_,_,_,.nil,s=>s
 | _,_,_,_,.cons r t,s=>.cons r (Vals.append t s)
theorem Vals.take:∀ {xs:List V} {us:List Value} (n:Nat),Vals xs us→Vals (xs.take n) (us.take n)
 | _,_,0,_=>.nil
 | _,_,_+1,.nil=>.nil
 | _,_,n+1,.cons r t=>.cons r (Vals.take n t)
theorem Vals.drop:∀ {xs:List V} {us:List Value} (n:Nat),Vals xs us→Vals (xs.drop n) (us.drop n)
 | _,_,0,r=>r
 | _,_,_+1,.nil=>.nil
 | _,_,n+1,.cons _ t=>Vals.drop n t
noncomputable def RelO:Option V→Option Value→Prop
 | some v,some u=>RelV v u
 | none,none=>True
 | _,_=>False
noncomputable def KV {κ:Type}:List (κ × V)→List (κ × Value)→Prop:=Paired fun (p:κ × V) (q:κ × Value)=>p.1=q.1∧RelV p.2 q.2
noncomputable def kV:Key→V
 | .inl i=>.int i
 | .inr x=>.str x
inductive HO where
 | lst (xs:List V)
 | tup (xs:List V)
 | dK (kvs:List (Key × V)) | dT (kvs:List (List Key × V))
 | set (S:Int→Bool) (n:Nat)
 | ins (C dx:Addr) (fs:List (Str × V))
 | own (x:Addr)
 | xd (fs:List (Str × V))
 | met (f x:Addr)
 | rng (lo hi:Int)
 | frz (o:Obj) (u:HO)
 | tbl (ps:Array Value)
 | ext (φ:Heap→Prop)
noncomputable abbrev Hp:=Addr→Option HO
noncomputable def upd (H:Hp) (a:Addr) (o:HO):Hp:=fun b=>if b=a then some o else H b
theorem upd_same {H:Hp} {a:Addr} {o:HO}:upd H a o a=some o:=by unfold upd; rw [if_pos rfl]
theorem upd_ne {H:Hp} {a b:Addr} {o:HO} (h:b ≠ a):upd H a o b=H b:=by unfold upd; rw [if_neg h]
theorem ne_of_none {H:Hp} {a b:Addr} {o:HO} (h:H a=some o) (h':H b=none):a ≠ b:=by
 intro e; subst e; rw [h] at h'; cases h'
section
variable (P:Program) (w:World)
noncomputable def ObjOk (H : Hp) (h : Heap) (a : Addr) : HO → Prop
  | .lst xs => xs.length ≤ sizeLine ∧ ∃ (its : List Value) (n : Nat), Vals xs its ∧ h.get? a = some { cls := .type "list", data := .seq its.toArray n }
  | .tup xs => xs.length ≤ sizeLine ∧ ∃ its : List Value, Vals xs its ∧ IsTup h a its.toArray
  | .dK kvs => kvs.length ≤ sizeLine ∧ (a == sysModules) = false ∧ ∃ vs, KV kvs vs ∧ h.DictOf (mixKind P w) a vs
  | .dT kvs => kvs.length ≤ sizeLine ∧ (a == sysModules) = false ∧ ∃ xs : List (List Key × Addr × Value),
      Paired (fun (p : List Key × V) (q : List Key × Addr × Value) => p.1 = q.1 ∧ H q.2.1 = some (.tup (p.1.map kV)) ∧ RelV p.2 q.2.2) kvs xs ∧
      ∃ o es ep, h.get? a = some o ∧ o.ExactDict ∧ o.data = .dict es ep ∧ es.toList = xs.map (entryOfKey (tupleKind (mixKind P w))) ∧ (xs.map (·.1)).Nodup
  | .set S n => h.SetOf (intKind P w) a S n
  | .ins C dx fs => H dx = some (.own a) ∧ fs.length ≤ 1000 ∧ dx ≠ a ∧ h.get? a = some (PySem.W.instObj C dx) ∧
      ∃ mA, h.Ns1 dx mA ∧ (∀ f, RelO (fs.lookup f) (mA f)) ∧ PySem.Within mA (fs.map (·.1))
  | .own _ => ∃ o, h.get? a = some o
  | .xd fs => ∃ mA, h.Ns1 a mA ∧ ∀ f, RelO (fs.lookup f) (mA f)
  | .rng lo hi => ∃ t u v, h.get? a = some { cls := .type "range", data := .fields #[.int lo t, .int hi u, .int 1 v] }
  | .frz o u => h.get? a = some o ∧ ObjOk H h a u
  | .tbl ps => h.get? a = some { cls := .none, data := .fields ps }
  | .met f x => h.get? a = some (PySem.W.methodObj (.ref f) (.ref x))
  | .ext φ => φ h ∧ (∃ o, h.get? a = some o) ∧ ∀ h1 h2 : Heap, φ h1 → (∀ o, h1.get? a = some o → h2.get? a = some o) → φ h2
noncomputable def HOk (H:Hp) (h:Heap):Prop:=∀ a o,H a=some o→ObjOk P w H h a o
end
section
variable {P:Program} {w:World} {H H':Hp} {h h':Heap} {a:Addr} {o:HO}
theorem ObjOk.lt (x:ObjOk P w H h a o):a < h.objs.size:=by
 cases o with
 | lst xs=>obtain ⟨_,_,_,_,e⟩:=x; exact Heap.lt_size e
 | tup xs=>obtain ⟨_,_,_,p⟩:=x; exact p.lt
 | dK kvs=>obtain ⟨_,_,_,_,o,_,_,e,_⟩:=x; exact Heap.lt_size e
 | dT kvs=>obtain ⟨_,_,_,_,o,_,_,e,_⟩:=x; exact Heap.lt_size e
 | set S n=>obtain ⟨o,_,_,_,e,_⟩:=x; exact Heap.lt_size e
 | ins C dx fs=>obtain ⟨_,_,_,e,_⟩:=x; exact Heap.lt_size e
 | own y=>obtain ⟨_,e⟩:=x; exact Heap.lt_size e
 | xd fs=>obtain ⟨_,⟨_,_,_,e,_⟩,_⟩:=x; exact Heap.lt_size e
 | rng lo hi=>obtain ⟨_,_,_,e⟩:=x; exact Heap.lt_size e
 | frz ob u=>obtain ⟨e,_⟩:=x; exact Heap.lt_size e
 | tbl ps=>exact Heap.lt_size (show h.get? a=some _ from x)
 | met f y=>exact Heap.lt_size (show h.get? a=some _ from x)
 | ext φ=>obtain ⟨_,⟨_,e⟩,_⟩:=x; exact Heap.lt_size e
theorem Paired.mapP {α β:Type} {F G:α→β→Prop}:∀ {l₁:List α} {l₂:List β},Paired F l₁ l₂→(∀ a b,F a b→G a b)→Paired G l₁ l₂
 | _,_,.nil,_=>.nil
 | _,_,.cons r t,f=>.cons (f _ _ r) (Paired.mapP t f)
theorem ObjOk.stay (x : ObjOk P w H h a o) (k : ∀ b u, (b = a ∨ H b = some (.own a)) → h.get? b = some u → h'.get? b = some u)
    (ho : ∀ b, H b = some (.own a) → H' b = some (.own a)) (ht : ∀ b xs, H b = some (.tup xs) → H' b = some (.tup xs)) : ObjOk P w H' h' a o := by
  induction o with
  | lst xs => obtain ⟨z, its, n, r, e⟩ := x; exact ⟨z, its, n, r, k _ _ (.inl rfl) e⟩
  | tup xs => obtain ⟨z, its, r, ob, e, c⟩ := x; exact ⟨z, its, r, ob, k _ _ (.inl rfl) e, c⟩
  | dK kvs => obtain ⟨z, y, vs, r, ob, es, ep, e, c⟩ := x; exact ⟨z, y, vs, r, ob, es, ep, k _ _ (.inl rfl) e, c⟩
  | dT kvs =>
    obtain ⟨z, y, xs, r, ob, es, ep, e, c⟩ := x
    exact ⟨z, y, xs, Paired.mapP r fun p q z => ⟨z.1, ht _ _ z.2.1, z.2.2⟩, ob, es, ep, k _ _ (.inl rfl) e, c⟩
  | set S n => obtain ⟨ob, es, ep, t, e, c⟩ := x; exact ⟨ob, es, ep, t, k _ _ (.inl rfl) e, c⟩
  | ins C dx fs =>
    obtain ⟨d, z, ne, e, mA, ⟨od, es, ep, e2, c⟩, r⟩ := x
    exact ⟨ho _ d, z, ne, k _ _ (.inl rfl) e, mA, ⟨od, es, ep, k _ _ (.inr d) e2, c⟩, r⟩
  | own y => obtain ⟨ob, e⟩ := x; exact ⟨ob, k _ _ (.inl rfl) e⟩
  | xd fs => obtain ⟨mA, ⟨od, es, ep, e, c⟩, r⟩ := x; exact ⟨mA, ⟨od, es, ep, k _ _ (.inl rfl) e, c⟩, r⟩
  | rng lo hi => obtain ⟨t, u, v, e⟩ := x; exact ⟨t, u, v, k _ _ (.inl rfl) e⟩
  | frz ob u ih => obtain ⟨e, q⟩ := x; exact ⟨k _ _ (.inl rfl) e, ih q⟩
  | tbl ps =>
    have e : h.get? a = some { cls := .none, data := .fields ps } := x
    show h'.get? a = some { cls := .none, data := .fields ps }
    exact k a _ (.inl rfl) e
  | met f y =>
    have e : h.get? a = some (PySem.W.methodObj (.ref f) (.ref y)) := x
    show h'.get? a = some (PySem.W.methodObj (.ref f) (.ref y))
    exact k a _ (.inl rfl) e
  | ext φ => obtain ⟨p, ⟨o, e⟩, st⟩ := x; exact ⟨st _ _ p fun o q => k _ _ (.inl rfl) q, ⟨o, k _ _ (.inl rfl) e⟩, st⟩
theorem HOk.lt (x:HOk P w H h) (e:H a=some o):a < h.objs.size:=(x a o e).lt
theorem HOk.fresh (x:HOk P w H h) (e:h.objs.size≤a):H a=none:=by
 cases q:H a with
 | none=>rfl
 | some u=>exact absurd (Nat.lt_of_lt_of_le (x.lt q) e) (Nat.lt_irrefl _)
theorem HOk.kept (x:HOk P w H h) (k:∀ b u,h.get? b=some u→h'.get? b=some u):HOk P w H h':=fun a o e =>
 (x a o e).stay (fun b u _ q=>k b u q) (fun _ q=>q) fun _ _ q=>q
theorem HOk.laid (x:HOk P w H h) (k:∀ b u,h.get? b=some u→h'.get? b=some u) (hp:h.objs.size≤a) (new:ObjOk P w (upd H a o) h' a o):HOk P w (upd H a o) h':=fun b u e=>by
 have hn:=x.fresh hp
 by_cases hb:b=a
 ·subst hb; rw [upd_same] at e; cases e; exact new
 ·rw [upd_ne hb] at e
  exact (x b u e).stay (fun c v _ q=>k c v q) (fun c q=>by rw [upd_ne (ne_of_none q hn)]; exact q) fun c xs q=>by rw [upd_ne (ne_of_none q hn)]; exact q
end
noncomputable def Rd (H:Hp) (a:Addr) (u:HO):Prop:=H a=some u ∨ ∃ o,H a=some (.frz o u)
theorem Rd.ok {P:Program} {w:World} {H:Hp} {h:Heap} {a:Addr} {u:HO} (r:Rd H a u) (x:HOk P w H h):ObjOk P w H h a u:=by
 rcases r with r | ⟨o,r⟩
 ·exact x a u r
 ·obtain ⟨_,q⟩:=x a _ r
  exact q
noncomputable def Mut:Option HO→Prop
 | some (.lst _)=>True
 | some (.dK _)=>True
 | some (.dT _)=>True
 | some (.set _ _)=>True
 | some (.ins _ _ _)=>True
 | some (.ext _)=>True
 | _=>False
section
variable {P:Program} {w:World} {H:Hp} {h h':Heap} {x e:Addr} {o':HO}
theorem HOk.write (ok : HOk P w H h) (mu : Mut (H x)) (he : e = x ∨ H e = some (.own x)) (k : ∀ b u, b ≠ e → h.get? b = some u → h'.get? b = some u) (heo : ∃ u, h'.get? e = some u)
    (new : ObjOk P w (upd H x o') h' x o') : HOk P w (upd H x o') h' := fun b u q => by
  have nown : ∀ c y, H c = some (.own y) → c ≠ x := fun c y r z => by subst z; rw [r] at mu; exact mu
  have ntup : ∀ c xs, H c = some (.tup xs) → c ≠ x := fun c xs r z => by subst z; rw [r] at mu; exact mu
  by_cases hb : b = x
  · subst hb; rw [upd_same] at q; cases q; exact new
  · rw [upd_ne hb] at q
    by_cases hbe : b = e
    · have q' : H b = some (.own x) := by
        rcases he with z | z
        · exact absurd (hbe.trans z) hb
        · rw [hbe]; exact z
      rw [q] at q'; cases q'
      obtain ⟨v, hv⟩ := heo
      exact ⟨v, by rw [hbe]; exact hv⟩
    · refine (ok b u q).stay (fun c v hc r => k c v ?_ r) (fun c r => by rw [upd_ne (nown c b r)]; exact r) fun c xs r => by rw [upd_ne (ntup c xs r)]; exact r
      rcases hc with rfl | hc
      · exact hbe
      · rintro rfl
        rcases he with z | z
        · exact nown c b hc z
        · rw [hc] at z; cases z; exact hb rfl
end
structure Un (fs ex:List Addr) (H H':Hp) (h h':Heap):Prop where
 keep:∀ b o,h.get? b=some o→H b=none→b ∉ fs→b ∉ ex→h'.get? b=some o
 slot:∀ b o,h.get? b=some o→H b=none→b ∈ fs→b ∉ ex→∃ sl,h'.get? b=some { o with slots:=sl }
 free:∀ b o,h.get? b=some o→H b=none→b ∉ ex→H' b=none
 there:∀ b o,h.get? b=some o→b ∉ ex→∃ o',h'.get? b=some o'
 tups:∀ b xs,H b=some (.tup xs)→H' b=some (.tup xs)
 frzs:∀ b o u,H b=some (.frz o u)→H' b=some (.frz o u)
 tbls:∀ b ps,H b=some (.tbl ps)→∃ more,H' b=some (.tbl (ps++more))
section
variable {fs fs' ex ex':List Addr} {H H1 H2:Hp} {h h1 h2 h':Heap} {a x e:Addr} {o:HO}
theorem Un.any (u:Un fs ex H H1 h h1) {b:Addr} {ob:Obj} (q:h.get? b=some ob) (n:H b=none) (hx:b ∉ ex):∃ sl,h1.get? b=some { ob with slots:=sl }:=by
 by_cases hb:b ∈ fs
 ·exact u.slot b ob q n hb hx
 ·exact ⟨ob.slots,u.keep b ob q n hb hx⟩
theorem Un.trans (a:Un fs ex H H1 h h1) (b:Un fs ex H1 H2 h1 h2):Un fs ex H H2 h h2 where
 keep:=fun c ob q n hc hx=>b.keep c ob (a.keep c ob q n hc hx) (a.free c ob q n hx) hc hx
 slot:=fun c ob q n hc hx=>by
  obtain ⟨sl,e1⟩:=a.slot c ob q n hc hx
  obtain ⟨sl',e2⟩:=b.slot c _ e1 (a.free c ob q n hx) hc hx
  exact ⟨sl',e2⟩
 free:=fun c ob q n hx=>by
  obtain ⟨o',e1⟩:=a.there c ob q hx
  exact b.free c o' e1 (a.free c ob q n hx) hx
 there:=fun c ob q hx=>by
  obtain ⟨o',e1⟩:=a.there c ob q hx
  exact b.there c o' e1 hx
 tups:=fun c xs q=>b.tups c xs (a.tups c xs q)
 frzs:=fun c ob xs q=>b.frzs c ob xs (a.frzs c ob xs q)
 tbls:=fun c ps q=>by
  obtain ⟨m1,e1⟩:=a.tbls c ps q
  obtain ⟨m2,e2⟩:=b.tbls c _ e1
  exact ⟨m1++m2,by rw [e2,Array.append_assoc]⟩
theorem Un.kept (k:∀ b u,h.get? b=some u→h'.get? b=some u):Un fs ex H H h h' :=
 ⟨fun b ob q _ _ _=>k b ob q,fun b ob q _ _ _=>⟨ob.slots,k b ob q⟩,fun _ _ _ n _=>n,fun b ob q _=>⟨ob,k b ob q⟩,fun _ _ q=>q,fun _ _ _ q=>q,fun _ ps q=>⟨#[],by rw [q]; simp⟩⟩
theorem Un.refl:Un fs ex H H h h:=Un.kept fun _ _ q=>q
theorem Un.laid (k:∀ b u,h.get? b=some u→h'.get? b=some u) (hp:h.objs.size≤a) (hn:H a=none):Un fs ex H (upd H a o) h h' where
 keep:=fun b u q _ _ _=>k b u q
 slot:=fun b u q _ _ _=>⟨u.slots,k b u q⟩
 free:=fun b u q n _=>by rw [upd_ne (Nat.ne_of_lt (Nat.lt_of_lt_of_le (Heap.lt_size q) hp))]; exact n
 there:=fun b u q _=>⟨u,k b u q⟩
 tups:=fun b xs q=>by rw [upd_ne (ne_of_none q hn)]; exact q
 frzs:=fun b u xs q=>by rw [upd_ne (ne_of_none q hn)]; exact q
 tbls:=fun b ps q=>⟨#[],by rw [upd_ne (ne_of_none q hn),q]; simp⟩
theorem Un.write (mu:Mut (H x)) (he:e=x ∨ H e=some (.own x)) (k:∀ b u,b ≠ e→h.get? b=some u→h'.get? b=some u) (heo:∃ u,h'.get? e=some u):Un fs ex H (upd H x o) h h':=by
 have hx:∀ b,H b=none→b ≠ x:=fun b n z=>by subst z; rw [n] at mu; exact mu
 have hb:∀ b,H b=none→b ≠ e:=fun b n z=>by
  subst z
  rcases he with r | r
  ·exact hx b n r
  ·rw [n] at r; cases r
 have hm:∀ b u,H b=some u→¬ Mut (some u)→b ≠ x:=fun b u q nm z=>by subst z; rw [q] at mu; exact nm mu
 refine ⟨fun b u q n _ _=>k b u (hb b n) q,fun b u q n _ _=>⟨u.slots,k b u (hb b n) q⟩,fun b u q n _=>by rw [upd_ne (hx b n)]; exact n,fun b u q _=>?_,
  fun b xs q=>by rw [upd_ne (hm b _ q fun z=>z)]; exact q,fun b u xs q=>by rw [upd_ne (hm b _ q fun z=>z)]; exact q,fun b ps q=>⟨#[],by rw [upd_ne (hm b _ q fun z=>z),q]; simp⟩⟩
 by_cases hbe:b=e
 ·subst hbe; exact heo
 ·exact ⟨u,k b u hbe q⟩
theorem Un.mono (u:Un fs ex H H1 h h1) (hs:∀ b ∈ fs,b ∈ fs') (hx:∀ b ∈ ex,b ∈ ex'):Un fs' ex' H H1 h h1 :=
 ⟨fun b ob q n hb he=>u.keep b ob q n (fun z=>hb (hs b z)) fun z=>he (hx b z),fun _ _ q n _ he=>u.any q n fun z=>he (hx _ z),fun b ob q n he=>u.free b ob q n fun z=>he (hx b z),fun b ob q he=>u.there b ob q fun z=>he (hx b z),u.tups,u.frzs,u.tbls⟩
end
noncomputable def trk (h:Heap) (H:Hp):List Addr:=(List.range h.objs.size).filter fun a=>(H a).isSome
noncomputable def hidT (h:Heap) (H:Hp):Heap:=PySem.W.hideAll h (trk h H)
theorem hidT_size (h:Heap) (H:Hp):(hidT h H).objs.size=h.objs.size:=PySem.W.hideAll_size _ _
theorem hidT_get {h:Heap} {H:Hp} {b:Addr} {o:Obj} (e:h.get? b=some o) (n:H b=none):(hidT h H).get? b=some o :=
 PySem.W.hideAll_get _ e fun hm=>by
  have q:(H b).isSome=true:=(List.mem_filter.mp hm).2
  rw [n] at q; simp at q
theorem of_hidT {h:Heap} {H:Hp} {b:Addr} {o:Obj} (e:(hidT h H).get? b=some o):h.get? b=some o∧H b=none:=by
 have e':h.get? b=some o:=PySem.W.of_hideAll (trk h H) e
 refine ⟨e',?_⟩
 cases q:H b with
 | none=>rfl
 | some x =>
  have hm:b ∈ trk h H:=List.mem_filter.mpr ⟨List.mem_range.mpr (Heap.lt_size e'),by simp [q]⟩
  have z:(hidT h H).get? b=none:=PySem.W.hideAll_none (trk h H) hm
  rw [z] at e; cases e
noncomputable def allNews (g h:Heap) (L:Addr):List (Addr × Obj):=(List.range h.objs.size).filterMap fun a=>if a=L ∨ (g.get? a).isSome=true then none else (h.get? a).map fun o=>(a,o)
noncomputable def rest (g h:Heap) (L d:Addr):List (Addr × Obj):=(allNews g h L).filter fun p=>decide (p.1 ≠ d)
end L2
namespace L2
open PySem PySem.Spec PyProof.Rows
structure Mod (K:PySem.W.Frag) (mg:Str→Option Value) (base:Heap):Prop where
 kin:K.In base
 glob:base.Ns mainGlobals mg
 blt:∃ mb,base.Ns builtinsNs mb∧∀ x:Str,x ≠ "__name__"→mb x=bootBuiltins x
 nolimit:base.NoLimit
structure Cx where
 prog:Program
 w:World
 K:PySem.W.Frag
 mg:Str→Option Value
 base:Heap
 A:Around
 N:List Str
 s₀:Shared
 H₀:Hp
 env:Env
 outer:List Env
 stack:List Env
 ex:List Addr
 fn:Str→Bool
 calm:Bool
 pn:List (Addr × Obj)
 xe:Value→Shared→Prop
noncomputable def frs (l:List Env):List Addr:=l.filterMap (·.frame)
noncomputable abbrev Cx.fs (X:Cx):List Addr:=frs X.outer
noncomputable def Vis (sc:Scope) (x:Str):Prop:=sc.names.lookup x=some .local ∨ sc.names.lookup x=some .cell ∨ sc.names.lookup x=some .free
noncomputable def Loc (sc:Scope) (x:Str):Prop:=sc.names.lookup x=some .local ∨ sc.names.lookup x=some .cell
noncomputable def Look (env:Env) (h:Heap) (m:Str→Option Value) (x:Str) (u:Value):Prop :=
 (env.kindOf x=some .local∧m x=some u) ∨ ((env.kindOf x=some .cell ∨ env.kindOf x=some .free)∧∃ c,env.cells.lookup x=some c∧h.IsCell c (some u))
structure Cx.Ok (X:Cx):Prop where
 mod:Mod X.K X.mg X.base
 kind:X.env.scope.kind=.function
 glob:X.env.globals=mainGlobals
 blt:X.env.builtins=builtinsNs
 above:X.s₀.heap.objs.size≤X.env.locals
 inj:∀ x y c,X.env.cells.lookup x=some c→X.env.cells.lookup y=some c→x=y
 has:∀ x,(X.env.kindOf x=some .cell ∨ X.env.kindOf x=some .free)→∃ c,X.env.cells.lookup x=some c
 cab:∀ x c,X.fn x=true→X.env.cells.lookup x=some c→X.s₀.heap.objs.size≤c
 hd:X.calm=true→X.A.handled=none
 frames:X.A.frames=some X.stack
 stk:X.stack=X.outer ∨ (X.stack=X.env::X.outer∧X.env.frame=some X.env.locals)
 exf:∀ b ∈ X.ex,b ≠ X.env.locals∧∀ x c,X.env.cells.lookup x=some c→c ≠ b
 bs:∀ b o,X.base.get? b=some o→X.s₀.heap.get? b=some o∧X.H₀ b=none
 bsz:X.base.objs.size≤X.s₀.heap.objs.size
 noex:∀ b o,X.base.get? b=some o→b ∉ X.ex
 exfs:∀ b ∈ X.ex,b ∉ X.fs
 funs:X.s₀.heap.FunFrames X.base X.outer
 frf:∀ b ∈ X.fs,X.H₀ b=none
structure Inv (X:Cx) (pins:List (Addr × Obj)) (σ:List (Option V)) (H:Hp) (s:Shared):Prop where
 ok:X.Ok
 os:s.os=X.s₀.os
 bare:AllBare s.gens
 base:Un X.fs X.ex X.H₀ H X.s₀.heap s.heap
 loc:∃ m,s.heap.Ns X.env.locals m∧∀ (i:Nat) (x:Str) (v:V),X.N[i]?=some x→σ[i]?=some (some v)→Vis X.env.scope x→∃ u,RelV v u∧Look X.env s.heap m x u
 cell:∀ x c,X.env.cells.lookup x=some c→∃ v,s.heap.IsCell c v
 free:H X.env.locals=none
 freeC:∀ x c,X.env.cells.lookup x=some c→H c=none
 pin:∀ p ∈ X.pn++pins,s.heap.get? p.1=some p.2∧H p.1=none∧p.1 ≠ X.env.locals∧p.1 ∉ X.fs∧∀ v,p.2.data ≠ .cell v
 hok:HOk X.prog X.w H s.heap
 len:σ.length=X.N.length
section
variable {X:Cx} {pins:List (Addr × Obj)} {σ:List (Option V)} {H H':Hp} {s:Shared} {h':Heap}
theorem Cx.Ok.nofr (ok:X.Ok) {b:Addr} {o:Obj} (e:X.base.get? b=some o):b ∉ X.fs:=fun hb=>by
 have:=(ok.funs.mem hb).1
 rw [e] at this; cases this
theorem Inv.bs (I:Inv X pins σ H s):∀ b o,X.base.get? b=some o→s.heap.get? b=some o∧H b=none:=fun b o e =>
 ⟨I.base.keep b o (I.ok.bs b o e).1 (I.ok.bs b o e).2 (I.ok.nofr e) (I.ok.noex b o e),I.base.free b o (I.ok.bs b o e).1 (I.ok.bs b o e).2 (I.ok.noex b o e)⟩
theorem Inv.bk (I:Inv X pins σ H s):∀ b o,X.base.get? b=some o→s.heap.get? b=some o:=fun b o e=>(I.bs b o e).1
theorem Inv.mod (I:Inv X pins σ H s):Mod X.K X.mg X.base:=I.ok.mod
theorem Inv.kIn (I:Inv X pins σ H s):X.K.In s.heap:=I.ok.mod.kin.keeps I.bk
theorem Inv.lt (I:Inv X pins σ H s):X.env.locals < s.heap.objs.size:=let ⟨_,hn,_⟩:=I.loc; hn.lt
theorem Inv.sz (I:Inv X pins σ H s):X.s₀.heap.objs.size≤s.heap.objs.size:=Nat.le_trans I.ok.above (Nat.le_of_lt I.lt)
theorem Inv.nofs (I:Inv X pins σ H s) {a:Addr} (h:s.heap.objs.size≤a):a ∉ X.fs:=fun hb=>by
 obtain ⟨_,o,ho,_⟩:=I.ok.funs.mem hb
 exact absurd (Nat.lt_of_lt_of_le (Heap.lt_size ho) (Nat.le_trans I.sz h)) (Nat.lt_irrefl _)
theorem Inv.cne (I:Inv X pins σ H s):∀ x c,X.env.cells.lookup x=some c→c ≠ X.env.locals:=fun x c e z=>by
 obtain ⟨v,o,ho,hd⟩:=I.cell x c e
 obtain ⟨m,⟨o',es,ep,ho',hd',_⟩,_⟩:=I.loc
 rw [z,ho'] at ho; cases ho; rw [hd'] at hd; cases hd
theorem Inv.funs (I:Inv X pins σ H s):s.heap.FunFrames X.base X.outer:=by
 have all:∀ (l:List Env),(∀ b ∈ frs l,b ∈ X.fs)→X.s₀.heap.FunFrames X.base l→s.heap.FunFrames X.base l:=by
  intro l
  induction l with
  | nil=>intro _ _; trivial
  | cons env r ih =>
   intro hs hl
   obtain ⟨hk,⟨L,o,hf,hn,ho,hd⟩,hr⟩:=hl
   have hL:L ∈ X.fs:=hs L (by unfold frs; rw [List.filterMap_cons,hf]; exact List.mem_cons_self)
   obtain ⟨sl,e⟩:=I.base.slot L o ho (I.ok.frf L hL) hL fun z=>I.ok.exfs L z hL
   exact ⟨hk,⟨L,_,hf,hn,e,hd⟩,ih (fun b hb=>hs b (by unfold frs; rw [List.filterMap_cons,hf]; exact List.mem_cons_of_mem _ hb)) hr⟩
 exact all X.outer (fun _ hb=>hb) I.ok.funs
theorem Inv.stack (I:Inv X pins σ H s):s.heap.FunFrames X.base X.stack:=by
 rcases I.ok.stk with e | ⟨e,hf⟩
 ·rw [e]; exact I.funs
 ·rw [e]
  obtain ⟨m,hn,_⟩:=I.loc
  refine .cons (by rw [I.ok.kind]; decide) hf hn ?_ I.funs
  exact Heap.get?_none_of_le (Nat.le_trans I.ok.bsz I.ok.above)
theorem Inv.stkSub (I:Inv X pins σ H s):∀ b ∈ frs X.stack,b ∈ X.env.locals::X.fs:=fun b hb=>by
 rcases I.ok.stk with e | ⟨e,hf⟩
 ·rw [e] at hb; exact List.mem_cons_of_mem _ hb
 ·rw [e] at hb
  unfold frs at hb
  rw [List.filterMap_cons,hf] at hb
  exact hb
theorem Inv.stkFree (I:Inv X pins σ H s):∀ b ∈ frs X.stack,H b=none:=fun b hb=>by
 rcases List.mem_cons.mp (I.stkSub b hb) with e | hb
 ·rw [e]; exact I.free
 ·obtain ⟨_,o,ho,_⟩:=I.ok.funs.mem hb
  exact I.base.free b o ho (I.ok.frf b hb) fun z=>I.ok.exfs b z hb
theorem Inv.step {g' : Array GenState} {t' : Nat} {d' : Drawn} {ch : List Addr} (I : Inv X pins σ H s)
    (hch : ∀ b ∈ ch, (b ∈ X.ex ∨ X.s₀.heap.objs.size ≤ b) ∧ b ≠ X.env.locals ∧ (∀ x c, X.env.cells.lookup x = some c → c ≠ b) ∧ ∀ p ∈ X.pn ++ pins, p.1 ≠ b)
    (keep : ∀ b o, b ≠ X.env.locals → b ∉ X.fs → b ∉ ch → s.heap.get? b = some o → H b = none → h'.get? b = some o)
    (slot : ∀ b o, b ≠ X.env.locals → b ∈ X.fs → b ∉ ch → s.heap.get? b = some o → H b = none → ∃ sl, h'.get? b = some { o with slots := sl }) (free : ∀ b o, b ∉ ch → s.heap.get? b = some o → H b = none → H' b = none)
    (there : ∀ b o, b ∉ ch → s.heap.get? b = some o → ∃ o', h'.get? b = some o')
    (tups : ∀ b xs, H b = some (.tup xs) → H' b = some (.tup xs)) (frzs : ∀ b o u, H b = some (.frz o u) → H' b = some (.frz o u)) (tbls : ∀ b ps, H b = some (.tbl ps) → ∃ more, H' b = some (.tbl (ps ++ more)))
    (ns : ∀ m, s.heap.Ns X.env.locals m → h'.Ns X.env.locals m) (hok : HOk X.prog X.w H' h') (hg : AllBare g') :
    Inv X pins σ H' { s with heap := h', gens := g', drawn := d', toks := t' } := by
  have neL : ∀ b o, X.s₀.heap.get? b = some o → b ≠ X.env.locals := fun b o e => Nat.ne_of_lt (Nat.lt_of_lt_of_le (Heap.lt_size e) I.ok.above)
  have neC : ∀ b o, X.s₀.heap.get? b = some o → b ∉ X.ex → b ∉ ch := fun b o e hx hb => by
    rcases (hch b hb).1 with z | z
    · exact hx z
    · exact absurd (Nat.lt_of_lt_of_le (Heap.lt_size e) z) (Nat.lt_irrefl _)
  have cellK : ∀ x c, X.env.cells.lookup x = some c → ∀ v, s.heap.IsCell c v → h'.IsCell c v := fun x c e v ⟨o, ho, hd⟩ => by
    have nch : c ∉ ch := fun z => (hch c z).2.2.1 x c e rfl
    by_cases hc : c ∈ X.fs
    · obtain ⟨sl, q⟩ := slot c o (I.cne x c e) hc nch ho (I.freeC x c e)
      exact ⟨_, q, hd⟩
    · exact ⟨o, keep c o (I.cne x c e) hc nch ho (I.freeC x c e), hd⟩
  refine ⟨I.ok, I.os, hg, ⟨fun b o e n hb hx => ?_, fun b o e n hb hx => ?_, fun b o e n hx => ?_, fun b o e hx => ?_, fun b xs e => tups b xs (I.base.tups b xs e), fun b o xs e => frzs b o xs (I.base.frzs b o xs e), fun b ps e => ?_⟩, ?_, fun x c e => ?_, ?_, fun x c e => ?_, fun p hp => ?_, hok, I.len⟩
  · exact keep b o (neL b o e) hb (neC b o e hx) (I.base.keep b o e n hb hx) (I.base.free b o e n hx)
  · obtain ⟨sl, e1⟩ := I.base.slot b o e n hb hx
    obtain ⟨sl', e2⟩ := slot b _ (neL b o e) hb (neC b o e hx) e1 (I.base.free b o e n hx)
    exact ⟨sl', e2⟩
  · obtain ⟨o', e1⟩ := I.base.there b o e hx
    exact free b o' (neC b o e hx) e1 (I.base.free b o e n hx)
  · obtain ⟨o', e1⟩ := I.base.there b o e hx
    exact there b o' (neC b o e hx) e1
  · obtain ⟨m1, e1⟩ := I.base.tbls b ps e
    obtain ⟨m2, e2⟩ := tbls b _ e1
    exact ⟨m1 ++ m2, by rw [e2, Array.append_assoc]⟩
  · obtain ⟨m, hn, hl⟩ := I.loc
    refine ⟨m, ns m hn, fun i x v e1 e2 e3 => ?_⟩
    obtain ⟨u, r, l⟩ := hl i x v e1 e2 e3
    refine ⟨u, r, ?_⟩
    rcases l with l | ⟨k, c, e, z⟩
    · exact .inl l
    · exact .inr ⟨k, c, e, cellK x c e _ z⟩
  · obtain ⟨v, z⟩ := I.cell x c e
    exact ⟨v, cellK x c e v z⟩
  · obtain ⟨m, ⟨o, _, _, ho, _⟩, _⟩ := I.loc
    exact free _ o (fun z => (hch _ z).2.1 rfl) ho I.free
  · obtain ⟨v, o, ho, hd⟩ := I.cell x c e
    exact free c o (fun z => (hch c z).2.2.1 x c e rfl) ho (I.freeC x c e)
  · obtain ⟨e, n, ne, nf, d⟩ := I.pin p hp
    have nch : p.1 ∉ ch := fun z => (hch p.1 z).2.2.2 p hp rfl
    exact ⟨keep p.1 p.2 ne nf nch e n, free p.1 p.2 nch e n, ne, nf, d⟩
theorem Inv.un {t':Nat} (I:Inv X pins σ H s) (u:Un X.fs [] H H' s.heap h') (hok:HOk X.prog X.w H' h'):Inv X pins σ H' { s with heap:=h',toks:=t' }:=by
 obtain ⟨m,⟨o,es,ep,ho,r⟩,_⟩:=id I.loc
 obtain ⟨sl,hL⟩:=u.any ho I.free (by simp)
 exact I.step (g':=s.gens) (d':=s.drawn) (ch:=[]) (fun _ z=>nomatch z) (fun b o _ hb _ e n=>u.keep b o e n hb (by simp)) (fun b o _ hb _ e n=>u.slot b o e n hb (by simp)) (fun b o _ e n=>u.free b o e n (by simp)) (fun b o _ e=>u.there b o e (by simp)) u.tups u.frzs u.tbls (fun m' hm=>by
  obtain ⟨o',es',ep',ho',r'⟩:=hm
  rw [ho] at ho'; cases ho'
  exact ⟨_,es',ep',hL,r'⟩) hok I.bare
theorem Inv.call {g' : Array GenState} {t' : Nat} {d' : Drawn} {ch : List Addr} (I : Inv X pins σ H s) (u : Un (frs X.stack) ch H H' s.heap h') (hok : HOk X.prog X.w H' h') (hg : AllBare g')
    (hch : ∀ b ∈ ch, (b ∈ X.ex ∨ X.s₀.heap.objs.size ≤ b) ∧ b ≠ X.env.locals ∧ (∀ x c, X.env.cells.lookup x = some c → c ≠ b) ∧ ∀ p ∈ X.pn ++ pins, p.1 ≠ b) :
    Inv X pins σ H' { s with heap := h', gens := g', drawn := d', toks := t' } := by
  obtain ⟨m, ⟨o, es, ep, ho, r⟩, _⟩ := id I.loc
  obtain ⟨sl, hL⟩ := u.any ho I.free fun z => (hch _ z).2.1 rfl
  exact I.step (ch := ch) hch (fun b o hL hb hc e n => u.keep b o e n (fun z => (List.mem_cons.mp (I.stkSub b z)).elim hL hb) hc) (fun b o _ _ hc e n => u.any e n hc) (fun b o hc e n => u.free b o e n hc) (fun b o hc e => u.there b o e hc) u.tups u.frzs u.tbls (fun m' hm => by
    obtain ⟨o', es', ep', ho', r'⟩ := hm
    rw [ho] at ho'; cases ho'
    exact ⟨_, es', ep', hL, r'⟩) hok hg
theorem Inv.turned {t' : Nat} {it : Addr} (I : Inv X pins σ H s) (k : ∀ b o, b ≠ it → s.heap.get? b = some o → h'.get? b = some o) (hn : H it = none) (hL : it ≠ X.env.locals)
    (h1 : it ∈ X.ex ∨ X.s₀.heap.objs.size ≤ it) (h2 : ∀ x c, X.env.cells.lookup x = some c → c ≠ it) (h3 : ∀ p ∈ X.pn ++ pins, p.1 ≠ it) : Inv X pins σ H { s with heap := h', toks := t' } := by
  have nit : ∀ b u, H b = some u → b ≠ it := fun b u e z => by rw [z, hn] at e; cases e
  refine I.step (g' := s.gens) (d' := s.drawn) (ch := [it]) (fun b hb => ?_) (fun b o _ _ hc e _ => k b o (fun z => hc (by simp [z])) e) (fun b o _ _ hc e _ => ⟨o.slots, k b o (fun z => hc (by simp [z])) e⟩) (fun _ _ _ _ n => n)
    (fun b o hc e => ⟨o, k b o (fun z => hc (by simp [z])) e⟩) (fun _ _ e => e) (fun _ _ _ e => e) (fun b ps e => ⟨#[], by rw [e]; simp⟩) (fun m hm => ?_) (fun b u e => ?_) I.bare
  · have e : b = it := by simpa using hb
    subst e
    exact ⟨h1, hL, h2, h3⟩
  · obtain ⟨o, es, ep, ho, r⟩ := hm
    exact ⟨o, es, ep, k _ o (Ne.symm hL) ho, r⟩
  · refine (I.hok b u e).stay (fun c v hc q => k c v ?_ q) (fun _ q => q) fun _ _ q => q
    rcases hc with z | z
    · rw [z]; exact nit b u e
    · exact nit c _ z
theorem Inv.tok (I:Inv X pins σ H s) (t:Nat):Inv X pins σ H { s with toks:=t }:=I.un (h':=s.heap) (t':=t) Un.refl I.hok
theorem Inv.kept {t':Nat} (I:Inv X pins σ H s) (k:∀ b u,s.heap.get? b=some u→h'.get? b=some u):Inv X pins σ H { s with heap:=h',toks:=t' }:=I.un (Un.kept k) (I.hok.kept k)
theorem Inv.laid {a : Addr} {o : HO} {t' : Nat} (I : Inv X pins σ H s) (k : ∀ b u, s.heap.get? b = some u → h'.get? b = some u) (hp : s.heap.objs.size ≤ a) (new : ObjOk X.prog X.w (upd H a o) h' a o) :
    Inv X pins σ (upd H a o) { s with heap := h', toks := t' } := I.un (Un.laid k hp (I.hok.fresh hp)) (I.hok.laid k hp new)
theorem Inv.write {x e : Addr} {o : HO} {t' : Nat} (I : Inv X pins σ H s) (mu : Mut (H x)) (he : e = x ∨ H e = some (.own x)) (k : ∀ b u, b ≠ e → s.heap.get? b = some u → h'.get? b = some u) (heo : ∃ u, h'.get? e = some u)
    (new : ObjOk X.prog X.w (upd H x o) h' x o) : Inv X pins σ (upd H x o) { s with heap := h', toks := t' } := I.un (Un.write mu he k heo) (I.hok.write mu he k heo new)
theorem Inv.pins_of {pins':List (Addr × Obj)} (I:Inv X pins σ H s) (h:∀ p ∈ pins',s.heap.get? p.1=some p.2∧H p.1=none∧p.1 ≠ X.env.locals∧p.1 ∉ X.fs∧∀ v,p.2.data ≠ .cell v):Inv X pins' σ H s :=
 ⟨I.ok,I.os,I.bare,I.base,I.loc,I.cell,I.free,I.freeC,fun p hp=>(List.mem_append.mp hp).elim (fun z=>I.pin p (List.mem_append_left _ z)) (h p),I.hok,I.len⟩
theorem nodup_ix {N:List Str} (hN:N.Nodup) {i j:Nat} {x:Str} (a:N[i]?=some x) (b:N[j]?=some x):i=j:=by
 obtain ⟨h1,e1⟩:=List.getElem?_eq_some_iff.mp a
 obtain ⟨h2,e2⟩:=List.getElem?_eq_some_iff.mp b
 exact (List.getElem_inj hN).mp (e1.trans e2.symm)
theorem store_ok2 {M : Model} {A : Around} {E : Value → Shared → Prop} {i : Nat} {x : Str} {v : V} {u : Value} {Q : Unit → Shared → Prop} (I : Inv X pins σ H s) (hN : X.N.Nodup) (hi : X.N[i]? = some x) (hx : Loc X.env.scope x) (r : RelV v u)
    (h : ∀ s', Inv X pins (σ.set i (some v)) H s' → (∃ a, Heap.SameBut a s.heap s'.heap ∧ (a = X.env.locals ∨ X.env.cells.lookup x = some a)) → Q () s') (hf : X.fn x = true ∨ X.env.scope.names.lookup x = some .local := by first | exact .inl rfl | exact .inr rfl | assumption) : wpAny M A (storeName X.env x u) Q E s := by
  obtain ⟨m, hn, hl⟩ := id I.loc
  have hcls : (X.env.scope.kind == .class || (X.env.scope.kind == .module && X.env.locals != X.env.globals)) = false := by rw [I.ok.kind]; rfl
  have hiσ : i < σ.length := by rw [I.len]; exact (List.getElem?_eq_some_iff.mp hi).1
  have cne := I.cne
  have tracked : ∀ {a : Addr} {h' : Heap}, (∃ o, s.heap.get? a = some o ∧ H a = none) → Heap.SameBut a s.heap h' → HOk X.prog X.w H h' := fun {a h'} ha hs b ob e => by
    obtain ⟨_, _, hfree⟩ := ha
    refine (I.hok b ob e).stay (fun c w' hc q => (hs.2 c ?_).trans q) (fun _ q => q) fun _ _ q => q
    rintro rfl
    rcases hc with rfl | hc
    · rw [hfree] at e; cases e
    · rw [hfree] at hc; cases hc
  rcases hx with hk | hk
  · refine wpAny_storeName_local hk hn (fun h' hn' hs => ?_) hcls
    obtain ⟨oL, _, _, hoL, _⟩ := id hn
    refine h _ ⟨I.ok, I.os, I.bare, ⟨fun b o e n hb hx => ?_, fun b o e n hb hx => ?_, I.base.free, fun b o e hx => ?_, I.base.tups, I.base.frzs, I.base.tbls⟩, ⟨_, hn', fun j y v' e1 e2 e3 => ?_⟩, fun y c e => ?_, I.free, I.freeC, fun p hp => ?_, tracked ⟨oL, hoL, I.free⟩ hs, by simpa using I.len⟩ ⟨_, hs, .inl rfl⟩
    · exact (hs.2 b (Nat.ne_of_lt (Nat.lt_of_lt_of_le (Heap.lt_size e) I.ok.above))).trans (I.base.keep b o e n hb hx)
    · obtain ⟨sl, e1⟩ := I.base.slot b o e n hb hx
      exact ⟨sl, (hs.2 b (Nat.ne_of_lt (Nat.lt_of_lt_of_le (Heap.lt_size e) I.ok.above))).trans e1⟩
    · obtain ⟨o', e1⟩ := I.base.there b o e hx
      exact ⟨o', (hs.2 b (Nat.ne_of_lt (Nat.lt_of_lt_of_le (Heap.lt_size e) I.ok.above))).trans e1⟩
    · by_cases hj : j = i
      · subst hj
        rw [hi] at e1; cases e1
        rw [List.getElem?_set_self hiσ] at e2
        cases e2
        exact ⟨u, r, .inl ⟨hk, by simp⟩⟩
      · rw [List.getElem?_set_ne (Ne.symm hj)] at e2
        obtain ⟨u', r', q⟩ := hl j y v' e1 e2 e3
        refine ⟨u', r', ?_⟩
        rcases q with ⟨k, e⟩ | ⟨k, c, e, z⟩
        · refine .inl ⟨k, ?_⟩
          have : y ≠ x := fun e => hj (nodup_ix hN e1 (e ▸ hi))
          simp [this, e]
        · exact .inr ⟨k, c, e, z.sameBut hs (cne y c e)⟩
    · obtain ⟨w', z⟩ := I.cell y c e
      exact ⟨w', z.sameBut hs (cne y c e)⟩
    · obtain ⟨e, n, ne, nf, d⟩ := I.pin p hp
      exact ⟨(hs.2 p.1 ne).trans e, n, ne, nf, d⟩
  · have hfn : X.fn x = true := by
      rcases hf with z | z
      · exact z
      · rw [z] at hk; cases hk
    obtain ⟨c, hc⟩ := I.ok.has x (.inl hk)
    obtain ⟨w', z⟩ := I.cell x c hc
    refine wpAny_storeName_cell I.ok.kind hk hc z (fun h' hc' hs => ?_)
    obtain ⟨oc, hoc, hocd⟩ := id z
    refine h { s with heap := h' } ⟨I.ok, I.os, I.bare, ⟨fun b o e n hb hx => ?_, fun b o e n hb hx => ?_, I.base.free, fun b o e hx => ?_, I.base.tups, I.base.frzs, I.base.tbls⟩, ⟨m, hn.sameBut hs (Ne.symm (cne x c hc)), fun j y v' e1 e2 e3 => ?_⟩, fun y c' e => ?_, I.free, I.freeC, fun p hp => ?_, tracked ⟨oc, hoc, I.freeC x c hc⟩ hs, by simpa using I.len⟩ ⟨c, hs, .inr hc⟩
    · exact (hs.2 b (Nat.ne_of_lt (Nat.lt_of_lt_of_le (Heap.lt_size e) (I.ok.cab x c hfn hc)))).trans (I.base.keep b o e n hb hx)
    · obtain ⟨sl, e1⟩ := I.base.slot b o e n hb hx
      exact ⟨sl, (hs.2 b (Nat.ne_of_lt (Nat.lt_of_lt_of_le (Heap.lt_size e) (I.ok.cab x c hfn hc)))).trans e1⟩
    · obtain ⟨o', e1⟩ := I.base.there b o e hx
      exact ⟨o', (hs.2 b (Nat.ne_of_lt (Nat.lt_of_lt_of_le (Heap.lt_size e) (I.ok.cab x c hfn hc)))).trans e1⟩
    · by_cases hj : j = i
      · subst hj
        rw [hi] at e1; cases e1
        rw [List.getElem?_set_self hiσ] at e2
        cases e2
        exact ⟨u, r, .inr ⟨.inl hk, c, hc, hc'⟩⟩
      · rw [List.getElem?_set_ne (Ne.symm hj)] at e2
        obtain ⟨u', r', q⟩ := hl j y v' e1 e2 e3
        refine ⟨u', r', ?_⟩
        rcases q with q | ⟨k, c', e, z'⟩
        · exact .inl q
        · refine .inr ⟨k, c', e, z'.sameBut hs ?_⟩
          rintro rfl
          exact hj (nodup_ix hN e1 (I.ok.inj _ _ _ e hc ▸ hi))
    · by_cases hcc : c' = c
      · subst hcc; exact ⟨_, hc'⟩
      · obtain ⟨w2, z2⟩ := I.cell y c' e
        exact ⟨w2, z2.sameBut hs hcc⟩
    · obtain ⟨e, n, ne, nf, d⟩ := I.pin p hp
      refine ⟨(hs.2 p.1 ?_).trans e, n, ne, nf, d⟩
      intro q
      rw [q, hoc] at e
      have q' : oc = p.2 := Option.some.inj e
      exact d w' (by rw [← q']; exact hocd)
theorem store_ok {M : Model} {A : Around} {E : Value → Shared → Prop} {i : Nat} {x : Str} {v : V} {u : Value} {Q : Unit → Shared → Prop} (I : Inv X pins σ H s) (hN : X.N.Nodup) (hi : X.N[i]? = some x) (hx : Loc X.env.scope x) (r : RelV v u)
    (h : ∀ s', Inv X pins (σ.set i (some v)) H s' → Q () s') (hf : X.fn x = true ∨ X.env.scope.names.lookup x = some .local := by first | exact .inl rfl | exact .inr rfl | assumption) : wpAny M A (storeName X.env x u) Q E s :=
  store_ok2 I hN hi hx r (fun s' I' _ => h s' I') hf
theorem Inv.call' {s' : Shared} {ch : List Addr} (I : Inv X pins σ H s) (ho : s'.os = s.os) (u : Un (frs X.stack) ch H H' s.heap s'.heap) (hok : HOk X.prog X.w H' s'.heap) (hg : AllBare s'.gens)
    (hch : ∀ b ∈ ch, (b ∈ X.ex ∨ X.s₀.heap.objs.size ≤ b) ∧ b ≠ X.env.locals ∧ (∀ x c, X.env.cells.lookup x = some c → c ≠ b) ∧ ∀ p ∈ X.pn ++ pins, p.1 ≠ b) : Inv X pins σ H' s' := by
  obtain ⟨h', g', d', t', o'⟩ := s'
  have e : o' = s.os := ho
  subst e
  exact I.call (g' := g') (t' := t') (d' := d') u hok hg hch
end
noncomputable abbrev XK:=Value→Option Addr→Hp→Prop
noncomputable abbrev St:=List (Option V)
noncomputable abbrev VK:=V→Hp→Prop
noncomputable abbrev TE:=St→Hp→VK→Prop
noncomputable abbrev TT:=St→Hp→(Bool→Hp→Prop)→Prop
noncomputable abbrev TA:=St→Hp→(List V→Hp→Prop)→Prop
structure Ends where
 nx:St→Hp→Prop
 rt:VK
 bk:St→Hp→Prop:=fun _ _=>False
 ct:St→Hp→Prop:=fun _ _=>False
noncomputable abbrev TS:=Ends→St→Hp→Prop
noncomputable def EP (X:Cx) (pins:List (Addr × Obj)) (σ:St) (Q:VK) (u:Value) (s':Shared):Prop:=∃ v H',Inv X pins σ H' s'∧RelV v u∧Q v H'
noncomputable def TP (X:Cx) (pins:List (Addr × Obj)) (σ:St) (Q:Bool→Hp→Prop) (b:Bool) (s':Shared):Prop:=∃ H',Inv X pins σ H' s'∧Q b H'
noncomputable def AP (X:Cx) (pins:List (Addr × Obj)) (σ:St) (Q:List V→Hp→Prop) (us:List Value) (s':Shared):Prop:=∃ vs H',Inv X pins σ H' s'∧Vals vs us∧Q vs H'
noncomputable def SP (X:Cx) (pins:List (Addr × Obj)) (D:Ends) (f:Flow) (s':Shared):Prop :=
 match f with
 | .next=>∃ σ' H',Inv X pins σ' H' s'∧D.nx σ' H'
 | .brk=>∃ σ' H',Inv X pins σ' H' s'∧D.bk σ' H'
 | .cont=>∃ σ' H',Inv X pins σ' H' s'∧D.ct σ' H'
 | .ret u=>∃ v σ' H',Inv X pins σ' H' s'∧RelV v u∧D.rt v H'
noncomputable def PE (X:Cx) (e:Expr) (t:TE):Prop :=
 ∀ (pins:List (Addr × Obj)) (s:Shared) (σ:St) (H:Hp) (Q:VK),Inv X pins σ H s→t σ H Q→wpAny (model X.prog X.w) X.A (eval e X.env) (EP X pins σ Q) X.xe s
noncomputable def PT (X:Cx) (e:Expr) (t:TT):Prop :=
 ∀ (pins:List (Addr × Obj)) (s:Shared) (σ:St) (H:Hp) (Q:Bool→Hp→Prop),Inv X pins σ H s→t σ H Q→wpAny (model X.prog X.w) X.A (isTrue e X.env (eval e X.env)) (TP X pins σ Q) X.xe s
noncomputable def PW (X:Cx) (e:Expr) (t:TT):Prop :=
 ∀ (whole:Sem Value) (pins:List (Addr × Obj)) (s:Shared) (σ:St) (H:Hp) (Q:Bool→Hp→Prop),Inv X pins σ H s→t σ H Q→wpAny (model X.prog X.w) X.A (isTrue e X.env whole) (TP X pins σ Q) X.xe s
theorem PW.pt {X:Cx} {e:Expr} {t:TT} (h:PW X e t):PT X e t:=h _
noncomputable def PA (X:Cx) (es:List Expr) (t:TA):Prop :=
 ∀ (pos:Pos) (pins:List (Addr × Obj)) (s:Shared) (σ:St) (H:Hp) (Q:List V→Hp→Prop),Inv X pins σ H s→t σ H Q→wpAny (model X.prog X.w) X.A (spliced (backTo pos (starEach es X.env))) (AP X pins σ Q) X.xe s
noncomputable def PS (X:Cx) (st:Stmt) (t:TS):Prop :=
 ∀ (pins:List (Addr × Obj)) (s:Shared) (σ:St) (H:Hp) (D:Ends),Inv X pins σ H s→t D σ H→wpAny (model X.prog X.w) X.A (exec st X.env) (SP X pins D) X.xe s
noncomputable def PSs (X:Cx) (st:List Stmt) (t:TS):Prop :=
 ∀ (pins:List (Addr × Obj)) (s:Shared) (σ:St) (H:Hp) (D:Ends),Inv X pins σ H s→t D σ H→wpAny (model X.prog X.w) X.A (execs st X.env) (SP X pins D) X.xe s
theorem thn {α:Type} {t:Sem α} {Q Q':α→Shared→Prop} {M:Model} {A:Around} {E:Value→Shared→Prop} {s:Shared} (h:wpAny M A t Q E s) (hQ:∀ a s,Q a s→Q' a s):wpAny M A t Q' E s:=wpAny_mono h hQ fun _ _ x=>x
end L2
namespace L2
open PySem PySem.Spec PyProof.Rows
section
variable {X:Cx}
noncomputable def tVar (i:Nat):TE:=fun σ H Q=>∃ v,σ[i]?=some (some v)∧Q v H
noncomputable def tC (v:V):TE:=fun _ H Q=>Q v H
theorem pe_var {i:Nat} {x:Str} {pos:Pos} (hN:X.N[i]?=some x) (hv:Vis X.env.scope x) (hd:(x == ("__debug__":Str))=false:=by decide) (hcd:(x == ("__classdict__":Str))=false:=by decide):PE X (.Name x pos) (tVar i):=by
 intro pins s σ H Q I h
 obtain ⟨v,e,h⟩:=h
 obtain ⟨m,hn,hl⟩:=I.loc
 obtain ⟨u,r,l⟩:=hl i x v hN e hv
 have fin:EP X pins σ Q u s:=⟨v,H,I,r,h⟩
 rcases l with ⟨hk,hm⟩ | ⟨hk,c,hc,hcell⟩
 ·exact wpAny_Name (wpAny_loadName_local I.ok.kind hk hn hm fin) hd
 ·rcases hk with hk | hk
  ·exact wpAny_Name (wpAny_loadName_cell I.ok.kind hk hc hcell fin) hd
  ·exact wpAny_Name (wpAny_loadName_free I.ok.kind hk hc hcell fin hcd) hd
theorem pe_int {i j pos}:PE X (.Constant (.int i) j pos) (tC (.int i)):=fun _ _ _ H _ I h=>wpAny_Constant_int ⟨.int i,H,I.tok _,⟨_,rfl⟩,h⟩
theorem pe_bl {b j pos}:PE X (.Constant (.bool b) j pos) (tC (.bl b)):=fun _ _ _ H _ I h=>Constant_bool ⟨.bl b,H,I,rfl,h⟩
theorem pe_non {j pos}:PE X (.Constant .none j pos) (tC .non):=fun _ _ _ H _ I h=>Constant_none ⟨.non,H,I,rfl,h⟩
theorem pe_str {x j pos}:PE X (.Constant (.str x) j pos) (tC (.str x)):=fun _ _ _ H _ I h=>Calls.Constant_str ⟨.str x,H,I.tok _,⟨_,rfl⟩,h⟩
noncomputable def Gl (X:Cx) (x:Str):Prop:=X.env.kindOf x=some .globalImplicit
theorem ld_glob {E : Value → Shared → Prop} {pins : List (Addr × Obj)} {s : Shared} {σ : St} {H : Hp} {x : Str} {u : Value} {pos : Pos} {Q : Value → Shared → Prop} (I : Inv X pins σ H s) (hg : Gl X x) (hm : X.mg x = some u) (h : Q u s)
    (hd : (x == ("__debug__" : Str)) = false := by decide) : wpAny (model X.prog X.w) X.A (eval (.Name x pos) X.env) Q E s :=
  Calls.Name_function_global I.ok.kind hg (Calls.loadGlobal_global (by rw [I.ok.glob]; exact I.mod.glob.keeps I.bk) hm h) hd
theorem ld_blt {E : Value → Shared → Prop} {pins : List (Addr × Obj)} {s : Shared} {σ : St} {H : Hp} {x : Str} {u : Value} {pos : Pos} {Q : Value → Shared → Prop} (I : Inv X pins σ H s) (hg : Gl X x) (hm : X.mg x = none) (hv : bootBuiltins x = some u) (h : Q u s)
    (hn : x ≠ "__name__" := by decide) (hd : (x == ("__debug__" : Str)) = false := by decide) : wpAny (model X.prog X.w) X.A (eval (.Name x pos) X.env) Q E s := by
  obtain ⟨mb, h1, h2⟩ := I.mod.blt
  exact Calls.Name_function_global I.ok.kind hg (Calls.loadGlobal_builtin (by rw [I.ok.glob]; exact I.mod.glob.keeps I.bk) hm (by rw [I.ok.blt]; exact h1.keeps I.bk) ((h2 x hn).trans hv) h) hd
theorem pe_glob {x:Str} {v:V} {u:Value} {pos:Pos} (hg:Gl X x) (hm:X.mg x=some u) (r:RelV v u) (hd:(x == ("__debug__":Str))=false:=by decide):PE X (.Name x pos) (tC v) :=
 fun _ _ _ H _ I h=>ld_glob I hg hm ⟨v,H,I,r,h⟩ hd
theorem pe_bltn {x:Str} {v:V} {u:Value} {pos:Pos} (hg:Gl X x) (hm:X.mg x=none) (hv:bootBuiltins x=some u) (r:RelV v u) (hn:x ≠ "__name__":=by decide) (hd:(x == ("__debug__":Str))=false:=by decide):PE X (.Name x pos) (tC v) :=
 fun _ _ _ H _ I h=>ld_blt I hg hm hv ⟨v,H,I,r,h⟩ hn hd
variable {a b:Expr} {ta tb:TE} {pos:Pos}
noncomputable def PC (X:Cx) (op:CmpOp) (a b:Expr) (t:TE):Prop :=
 ∀ (pins:List (Addr × Obj)) (s:Shared) (σ:St) (H:Hp) (Q:VK),Inv X pins σ H s→t σ H Q →
  wpAny (model X.prog X.w) X.A (eval a X.env) (fun v s₁=>wpAny (model X.prog X.w) X.A (eval b X.env) (fun u s₂=>wpAny (model X.prog X.w) X.A (compareOp op v u) (EP X pins σ Q) X.xe s₂) X.xe s₁) X.xe s
theorem nobehind (b:Expr) {op:CmpOp} (h:op ≠ .In) (h2:op ≠ .NotIn):behindInMarks op b=false:=by
 have e1:(op == CmpOp.In)=false:=by cases op <;> first | rfl | exact absurd rfl h
 have e2:(op == CmpOp.NotIn)=false:=by cases op <;> first | rfl | exact absurd rfl h2
 cases b <;> simp [behindInMarks,e1,e2]
noncomputable def tIsN (ta:TE):TE:=fun σ H Q=>ta σ H fun x H1=>Q (.bl (decide (x=.non))) H1
noncomputable def tNotN (ta:TE):TE:=fun σ H Q=>ta σ H fun x H1=>Q (.bl (!decide (x=.non))) H1
theorem RelV.none_iff {x:V} {v:Value} (r:RelV x v):(v == Value.none)=decide (x=.non):=by
 cases x with
 | non=>cases r; rfl
 | bl _=>cases r; rfl
 | int _=>obtain ⟨t,rfl⟩:=r; rfl
 | str _=>obtain ⟨t,rfl⟩:=r; rfl
 | byt _=>obtain ⟨t,rfl⟩:=r; rfl
 | flt _=>obtain ⟨t,rfl⟩:=r; rfl
 | ref _=>cases r; rfl
 | ty _=>cases r; rfl
theorem pc_isN {j pos'} (ha:PE X a ta):PC X .Is a (.Constant .none j pos') (tIsN ta):=by
 intro pins s σ H Q I h
 refine thn (ha pins s σ H _ I h) fun v s1 ⟨x,H1,I1,r1,q1⟩=>?_
 exact Constant_none (is_none_gen ⟨.bl _,H1,I1,by rw [r1.none_iff]; rfl,q1⟩)
theorem pc_notN {j pos'} (ha:PE X a ta):PC X .IsNot a (.Constant .none j pos') (tNotN ta):=by
 intro pins s σ H Q I h
 refine thn (ha pins s σ H _ I h) fun v s1 ⟨x,H1,I1,r1,q1⟩=>?_
 exact Constant_none (isnot_none_gen ⟨.bl _,H1,I1,by rw [r1.none_iff]; rfl,q1⟩)
noncomputable def tB (t:TE):TT:=fun σ H Q=>t σ H fun x H1=>∃ c,x=.bl c∧Q c H1
theorem pe_cmp {op:CmpOp} {t:TE} (h:PC X op a b t) (h1:behindInMarks op b=false:=by first | exact nobehind _ (by decide) (by decide) | rfl):PE X (.Compare a [op] [b] pos) t:=fun pins s σ H Q I hw=>wpAny_Compare1 (h pins s σ H Q I hw) h1
theorem pt_cmp {op:CmpOp} {t:TE} (h:PC X op a b t) (h1:behindInMarks op b=false:=by first | exact nobehind _ (by decide) (by decide) | rfl):PT X (.Compare a [op] [b] pos) (tB t):=by
 intro pins s σ H Q I hw
 refine wpAny_isTrue_Compare1 (thn (h pins s σ H _ I hw) fun v s1 h1=>thn h1 fun u s2 h2=>thn h2 fun c s3 ⟨x,H1,I1,r1,q1⟩=>?_) h1
 obtain ⟨d,rfl,q⟩:=q1
 cases r1
 exact wpAny_truthy_bool ⟨H1,I1,q⟩
variable {tA tB':TT} {rest:List Expr}
noncomputable def tAnd (t u:TT):TT:=fun σ H Q=>t σ H fun c H1=>if c=true then u σ H1 Q else Q false H1
noncomputable def tOr (t u:TT):TT:=fun σ H Q=>t σ H fun c H1=>if c=true then Q true H1 else u σ H1 Q
noncomputable def tNot (t:TT):TT:=fun σ H Q=>t σ H fun c H1=>Q (!c) H1
theorem pw_and1 (ha:PT X a tA):PW X (.BoolOp .And [a] pos) tA:=by
 intro wh pins s σ H Q I h
 refine isTrue_and (thn (ha pins s σ H Q I h) fun c s1 e=>?_)
 cases c with
 | true=>exact isTrue_and_nil e
 | false=>exact e
theorem pw_or1 (ha:PT X a tA):PW X (.BoolOp .Or [a] pos) tA:=by
 intro wh pins s σ H Q I h
 refine isTrue_or (thn (ha pins s σ H Q I h) fun c s1 e=>?_)
 cases c with
 | false=>exact isTrue_or_nil e
 | true=>exact e
theorem pw_and (ha:PT X a tA) (hb:PW X (.BoolOp .And (b::rest) pos) tB'):PW X (.BoolOp .And (a::b::rest) pos) (tAnd tA tB'):=by
 intro wh pins s σ H Q I h
 refine isTrue_and (thn (ha pins s σ H _ I h) fun c s1 ⟨H1,I1,q1⟩=>?_)
 cases c with
 | true=>exact hb wh pins s1 σ H1 Q I1 q1
 | false=>exact ⟨H1,I1,q1⟩
theorem pw_or (ha:PT X a tA) (hb:PW X (.BoolOp .Or (b::rest) pos) tB'):PW X (.BoolOp .Or (a::b::rest) pos) (tOr tA tB'):=by
 intro wh pins s σ H Q I h
 refine isTrue_or (thn (ha pins s σ H _ I h) fun c s1 ⟨H1,I1,q1⟩=>?_)
 cases c with
 | true=>exact ⟨H1,I1,q1⟩
 | false=>exact hb wh pins s1 σ H1 Q I1 q1
theorem pt_not (ha:PT X a tA):PT X (.UnaryOp .Not a pos) (tNot tA):=by
 intro pins s σ H Q I h
 exact isTrue_not (ha pins s σ H (fun c H1=>Q (!c) H1) I h)
noncomputable def tAndV (ta tb:TE):TE:=fun σ H Q=>ta σ H fun x H1=>∃ c,x=.bl c∧if c=true then tb σ H1 Q else Q (.bl false) H1
noncomputable def tOrV (ta tb:TE):TE:=fun σ H Q=>ta σ H fun x H1=>∃ c,x=.bl c∧if c=true then Q (.bl true) H1 else tb σ H1 Q
theorem pe_one {op} {t:TE} (h:PE X a t):PE X (.BoolOp op [a] pos) t:=fun pins s σ H Q I hw=>BoolOp_one (h pins s σ H Q I hw)
theorem pe_and (ha:PE X a ta) (hb:PE X (.BoolOp .And (b::rest) pos) tb):PE X (.BoolOp .And (a::b::rest) pos) (tAndV ta tb):=by
 intro pins s σ H Q I h
 refine BoolOp_and (thn (ha pins s σ H _ I h) fun v s1 ⟨x,H1,I1,r1,q1⟩=>?_)
 obtain ⟨c,rfl,q1⟩:=q1
 cases r1
 refine wpAny_truthy_bool ?_
 cases c with
 | true=>exact hb pins s1 σ H1 Q I1 q1
 | false=>exact ⟨.bl false,H1,I1,rfl,q1⟩
theorem pe_or (ha:PE X a ta) (hb:PE X (.BoolOp .Or (b::rest) pos) tb):PE X (.BoolOp .Or (a::b::rest) pos) (tOrV ta tb):=by
 intro pins s σ H Q I h
 refine BoolOp_or (thn (ha pins s σ H _ I h) fun v s1 ⟨x,H1,I1,r1,q1⟩=>?_)
 obtain ⟨c,rfl,q1⟩:=q1
 cases r1
 refine wpAny_truthy_bool ?_
 cases c with
 | false=>exact hb pins s1 σ H1 Q I1 q1
 | true=>exact ⟨.bl true,H1,I1,rfl,q1⟩
noncomputable def tIf (t:TT) (ta tb:TE):TE:=fun σ H Q=>t σ H fun c H1=>if c=true then ta σ H1 Q else tb σ H1 Q
theorem pe_ifExp {c:Expr} (hc:PT X c tA) (ha:PE X a ta) (hb:PE X b tb):PE X (.IfExp c a b pos) (tIf tA ta tb):=by
 intro pins s σ H Q I h
 refine wpAny_IfExp (thn (hc pins s σ H _ I h) fun d s1 ⟨H1,I1,q1⟩=>?_)
 cases d with
 | true=>exact ha pins s1 σ H1 Q I1 q1
 | false=>exact hb pins s1 σ H1 Q I1 q1
end
end L2
namespace L2
open PySem PySem.Spec PyProof.Rows
noncomputable def SqL (K:PySem.W.Frag) (H:Hp) (a:Addr) (xs:List V):Prop :=
 Rd H a (.lst xs) ∨
  ∃ (o:Obj) (its:Array Value) (n:Nat),K.lookup a=some o∧o.cls=.type "list"∧o.dict=none∧o.data=.seq its n∧its.size≤sizeLine∧Vals xs its.toList
noncomputable def SqT (K:PySem.W.Frag) (H:Hp) (a:Addr) (xs:List V):Prop :=
 Rd H a (.tup xs) ∨
  ∃ (o:Obj) (its:Array Value) (n:Nat),K.lookup a=some o∧o.cls=.type "tuple"∧o.data=.seq its n∧its.size≤sizeLine∧Vals xs its.toList
noncomputable def absV:Value→Option V
 | .none=>some .non
 | .bool b=>some (.bl b)
 | .int i _=>some (.int i)
 | .str x _=>some (.str x)
 | .bytes b _=>some (.byt b)
 | .float b _=>some (.flt b)
 | .ref a=>some (.ref a)
 | .type n=>some (.ty n)
 | _=>none
theorem RelV.abs {x:V} {u:Value} (r:RelV x u):absV u=some x:=by
 cases x with
 | non=>cases r; rfl
 | bl _=>cases r; rfl
 | int _=>obtain ⟨t,rfl⟩:=r; rfl
 | str _=>obtain ⟨t,rfl⟩:=r; rfl
 | byt _=>obtain ⟨t,rfl⟩:=r; rfl
 | flt _=>obtain ⟨t,rfl⟩:=r; rfl
 | ref _=>cases r; rfl
 | ty _=>cases r; rfl
theorem RelV.inj {x y:V} {u:Value} (r:RelV x u) (q:RelV y u):x=y:=Option.some.inj (r.abs.symm.trans q.abs)
theorem Vals.inj:∀ {xs ys:List V} {us:List Value},Vals xs us→Vals ys us→xs=ys
 | _,_,_,.nil,.nil=>rfl
 | _,_,_,.cons r t,.cons r' t'=>by rw [r.inj r',Vals.inj t t']
section
variable {X:Cx} {pins:List (Addr × Obj)} {σ:St} {H:Hp} {s:Shared} {a:Addr} {xs ys:List V}
theorem SqL.of {K:PySem.W.Frag} (h:H a=some (.lst xs)):SqL K H a xs:=.inl (.inl h)
theorem SqT.of {K:PySem.W.Frag} (h:H a=some (.tup xs)):SqT K H a xs:=.inl (.inl h)
theorem Inv.list (I:Inv X pins σ H s) (h:SqL X.K H a xs):∃ its:List Value,Vals xs its∧PlainL s.heap a its.toArray∧xs.length≤sizeLine:=by
 rcases h with h | ⟨o,its,n,hk,hc,hd,hs,hz,r⟩
 ·obtain ⟨z,its,n,r,e⟩:=h.ok I.hok
  exact ⟨its,r,⟨_,n,e,rfl,rfl,rfl⟩,z⟩
 ·refine ⟨its.toList,r,⟨o,n,I.kIn a o hk,hc,hd,by simpa using hs⟩,?_⟩
  have e:=r.length
  simp only [Array.length_toList] at e
  omega
theorem Inv.tuple (I:Inv X pins σ H s) (h:SqT X.K H a xs):∃ its:List Value,Vals xs its∧IsTup s.heap a its.toArray∧xs.length≤sizeLine:=by
 rcases h with h | ⟨o,its,n,hk,hc,hs,hz,r⟩
 ·obtain ⟨z,its,r,p⟩:=h.ok I.hok
  exact ⟨its,r,p,z⟩
 ·refine ⟨its.toList,r,⟨o,I.kIn a o hk,hc,n,by simpa using hs⟩,?_⟩
  have e:=r.length
  simp only [Array.length_toList] at e
  omega
theorem Inv.list_inj (I:Inv X pins σ H s) (h:SqL X.K H a xs) (h':SqL X.K H a ys):xs=ys:=by
 obtain ⟨its,r,⟨o,n,e,_,_,d⟩,_⟩:=I.list h
 obtain ⟨its',r',⟨o',n',e',_,_,d'⟩,_⟩:=I.list h'
 rw [e] at e'; cases e'
 rw [d] at d'
 injection d' with d1 _
 have:its=its':=by simpa using congrArg Array.toList d1
 subst this
 exact r.inj r'
theorem Inv.tuple_inj (I:Inv X pins σ H s) (h:SqT X.K H a xs) (h':SqT X.K H a ys):xs=ys:=by
 obtain ⟨its,r,⟨o,e,_,n,d⟩,_⟩:=I.tuple h
 obtain ⟨its',r',⟨o',e',_,n',d'⟩,_⟩:=I.tuple h'
 rw [e] at e'; cases e'
 rw [d] at d'
 injection d' with d1 _
 have:its=its':=by simpa using congrArg Array.toList d1
 subst this
 exact r.inj r'
end
noncomputable abbrev Cx.wish (X:Cx) (E:Value→Shared→Prop):Cx:={ X with xe:=E }
noncomputable abbrev Cx.nox (X:Cx):Cx:=X.wish fun _ _=>False
theorem Cx.Ok.wish {X:Cx} (ok:X.Ok) (E:Value→Shared→Prop):(X.wish E).Ok :=
 ⟨ok.mod,ok.kind,ok.glob,ok.blt,ok.above,ok.inj,ok.has,ok.cab,ok.hd,ok.frames,ok.stk,ok.exf,ok.bs,ok.bsz,ok.noex,ok.exfs,ok.funs,ok.frf⟩
theorem Cx.Ok.unwish {X:Cx} {E:Value→Shared→Prop} (ok:(X.wish E).Ok):X.Ok :=
 ⟨ok.mod,ok.kind,ok.glob,ok.blt,ok.above,ok.inj,ok.has,ok.cab,ok.hd,ok.frames,ok.stk,ok.exf,ok.bs,ok.bsz,ok.noex,ok.exfs,ok.funs,ok.frf⟩
section
variable {X:Cx} {pins:List (Addr × Obj)} {σ:St} {H:Hp} {s:Shared} {E:Value→Shared→Prop}
theorem Inv.wish (I:Inv X pins σ H s) (E:Value→Shared→Prop):Inv (X.wish E) pins σ H s:=⟨I.ok.wish E,I.os,I.bare,I.base,I.loc,I.cell,I.free,I.freeC,I.pin,I.hok,I.len⟩
theorem Inv.unwish (I:Inv (X.wish E) pins σ H s):Inv X pins σ H s:=⟨I.ok.unwish,I.os,I.bare,I.base,I.loc,I.cell,I.free,I.freeC,I.pin,I.hok,I.len⟩
theorem SP.unwish {D:Ends} {f:Flow} {s':Shared} (h:SP (X.wish E) pins D f s'):SP X pins D f s':=by
 cases f with
 | next=>obtain ⟨σ',H',I,q⟩:=h; exact ⟨σ',H',I.unwish,q⟩
 | brk=>obtain ⟨σ',H',I,q⟩:=h; exact ⟨σ',H',I.unwish,q⟩
 | cont=>obtain ⟨σ',H',I,q⟩:=h; exact ⟨σ',H',I.unwish,q⟩
 | ret u=>obtain ⟨v,σ',H',I,r,q⟩:=h; exact ⟨v,σ',H',I.unwish,r,q⟩
end
section
variable {X:Cx} {st:Stmt} {rest:List Stmt} {t u:TS} {e:Expr} {te:TE} {pos:Pos}
noncomputable def tNext:TS:=fun D σ H=>D.nx σ H
noncomputable def tSeq (t u:TS):TS:=fun D σ H=>t { D with nx:=u D } σ H
theorem pss_nil:PSs X [] tNext:=fun _ _ σ H _ I h=>wpAny_execs_nil ⟨σ,H,I,h⟩
theorem pss_cons (h1:PS X st t) (h2:PSs X rest u):PSs X (st::rest) (tSeq t u):=by
 intro pins s σ H D I h
 refine wpAny_execs_cons (thn (h1 pins s σ H { D with nx:=u D } I h) fun f s1 q=>?_)
 cases f with
 | next =>
  obtain ⟨σ',H',I',q⟩:=q
  exact h2 pins s1 σ' H' D I' q
 | ret v=>exact q
 | brk=>exact q
 | cont=>exact q
theorem pss_one (h1:PS X st t):PSs X [st] t:=by
 intro pins s σ H D I h
 refine wpAny_execs_cons (thn (h1 pins s σ H D I h) fun f s1 q=>?_)
 cases f with
 | next=>exact wpAny_execs_nil q
 | ret v=>exact q
 | brk=>exact q
 | cont=>exact q
noncomputable def tBreak:TS:=fun D σ H=>D.bk σ H
noncomputable def tCont:TS:=fun D σ H=>D.ct σ H
theorem ps_pass:PS X (.Pass pos) tNext:=fun _ _ σ H _ I h=>wpAny_Pass ⟨σ,H,I,h⟩
theorem ps_break:PS X (.Break pos) tBreak:=fun _ _ σ H _ I h=>wpAny_Break ⟨σ,H,I,h⟩
theorem ps_continue:PS X (.Continue pos) tCont:=fun _ _ σ H _ I h=>wpAny_Continue ⟨σ,H,I,h⟩
theorem Inv.quiet {pins:List (Addr × Obj)} {σ:St} {H:Hp} {s:Shared} (I:Inv X pins σ H s):interactive X.env=false:=by simp [interactive,I.ok.kind]
noncomputable def tDrop (te:TE):TS:=fun D σ H=>te σ H fun _ H1=>D.nx σ H1
theorem ps_expr (he:PE X e te) (hs:swapsWith e none pos.line X.env=pure false:=by rfl):PS X (.Expr e pos) (tDrop te):=by
 intro pins s σ H D I h
 exact wpAny_Expr_any (thn (he pins s σ H _ I h) fun v s1 ⟨x,H1,I1,r1,q1⟩=>⟨σ,H1,I1,q1⟩) I.quiet hs
noncomputable def tRet (te:TE):TS:=fun D σ H=>te σ H D.rt
theorem ps_ret (he:PE X e te):PS X (.Return (some e) pos) (tRet te):=by
 intro pins s σ H D I h
 exact wpAny_Return_some (thn (he pins s σ H _ I h) fun v s1 ⟨x,H1,I1,r1,q1⟩=>⟨x,σ,H1,I1,r1,q1⟩)
noncomputable def tRetN:TS:=fun D _ H=>D.rt .non H
theorem ps_retN:PS X (.Return none pos) tRetN:=fun _ _ σ H _ I h=>wpAny_Return_none ⟨.non,σ,H,I,rfl,h⟩
noncomputable def tIfS (c:TT) (t u:TS):TS:=fun D σ H=>c σ H fun b H1=>if b=true then t D σ H1 else u D σ H1
theorem ps_if {c:Expr} {a b:List Stmt} {tc:TT} (hc:PT X c tc) (ha:PSs X a t) (hb:PSs X b u):PS X (.If c a b pos) (tIfS tc t u):=by
 intro pins s σ H D I h
 refine wpAny_If (thn (hc pins s σ H _ I h) fun d s1 ⟨H1,I1,q1⟩=>?_)
 cases d with
 | true=>exact ha pins s1 σ H1 D I1 q1
 | false=>exact hb pins s1 σ H1 D I1 q1
end
noncomputable abbrev TG:=V→St→Hp→(St→Hp→Prop)→Prop
noncomputable def PG (X:Cx) (target:Expr) (t:TG):Prop :=
 ∀ (pins:List (Addr × Obj)) (s:Shared) (σ:St) (H:Hp) (v:V) (u:Value) (Q:St→Hp→Prop),Inv X pins σ H s→RelV v u→t v σ H Q →
  wpAny (model X.prog X.w) X.A (assign target X.env u) (fun _ s'=>∃ σ' H',Inv X pins σ' H' s'∧Q σ' H') X.xe s
section
variable {X:Cx} {pos:Pos}
noncomputable def gName (i:Nat):TG:=fun v σ H Q=>Q (σ.set i (some v)) H
theorem pg_name {i:Nat} {x:Str} (hN:X.N.Nodup) (hi:X.N[i]?=some x) (hx:Loc X.env.scope x) (hf:X.fn x=true ∨ X.env.scope.names.lookup x=some .local:=by first | exact .inl rfl | exact .inr rfl | assumption):PG X (.Name x pos) (gName i):=by
 intro pins s σ H v u Q I r h
 exact wpAny_assign_Name (store_ok I hN hi hx r (fun s' I'=>⟨_,H,I',h⟩) hf)
noncomputable def tAsg (te:TE) (g:TG):TS:=fun D σ H=>te σ H fun x H1=>g x σ H1 D.nx
theorem ps_set {i : Nat} {x : Str} {e : Expr} {te : TE} {pos' : Pos} (hN : X.N.Nodup) (hi : X.N[i]? = some x) (hx : Loc X.env.scope x) (he : PE X e te) (hs : swapsWith e (some (.Name x pos')) pos.line X.env = pure false := by rfl) (hf : X.fn x = true ∨ X.env.scope.names.lookup x = some .local := by first | exact .inl rfl | exact .inr rfl | assumption) :
    PS X (.Assign [.Name x pos'] e pos) (tAsg te (gName i)) := by
  intro pins s σ H D I h
  refine wpAny_Assign_Name (thn (he pins s σ H _ I h) fun v s1 ⟨y, H1, I1, r1, q1⟩ => ?_) hs
  exact store_ok I1 hN hi hx r1 (fun s2 I2 => ⟨_, H1, I2, q1⟩) hf
end
section
variable {X:Cx} {pos:Pos}
end
structure It where
 go:Nat→Hp→Prop
 yld:Nat→Hp→V→Hp→Prop
 stop:Nat→Hp→Prop
noncomputable def FpOk (X:Cx) (pins:List (Addr × Obj)) (H:Hp) (b:Addr):Prop :=
 H b=none∧b ≠ X.env.locals∧b ∉ X.fs∧(b ∈ X.ex ∨ X.s₀.heap.objs.size≤b)∧(∀ x c,X.env.cells.lookup x=some c→c ≠ b)∧∀ p ∈ X.pn++pins,p.1 ≠ b
theorem Inv.fpOk {X:Cx} {pins:List (Addr × Obj)} {σ:St} {H H':Hp} {s:Shared} {b:Addr} (I:Inv X pins σ H s) (hb:s.heap.objs.size≤b) (hn:H' b=none):FpOk X pins H' b:=by
 refine ⟨hn,Nat.ne_of_gt (Nat.lt_of_lt_of_le I.lt hb),I.nofs hb,.inr (Nat.le_trans I.sz hb),fun x c e z=>?_,fun p hp z=>?_⟩
 ·obtain ⟨v,q⟩:=I.cell x c e
  exact absurd (Nat.lt_of_lt_of_le q.lt (by rw [z]; exact hb)) (Nat.lt_irrefl _)
 ·exact absurd (Nat.lt_of_lt_of_le (Heap.lt_size (I.pin p hp).1) (by rw [z]; exact hb)) (Nat.lt_irrefl _)
structure Turn (P:Program) (w:World) (K:PySem.W.Frag) (tg:Expr) (J:It) (fp:List Addr) (it:Addr) (tn:Nat→Heap→Prop):Prop where
 mem:it ∈ fp
 obj:∀ i h,tn i h→∀ b ∈ fp,∃ o,h.get? b=some o∧∀ v,o.data ≠ .cell v
 keep:∀ i h h',tn i h→(∀ b ∈ fp,∀ o,h.get? b=some o→h'.get? b=some o)→tn i h'
 item:∀ (X:Cx),X.prog=P→X.w=w→X.K=K→X.calm=true→∀ (i:Nat) (pins:List (Addr × Obj)) (s:Shared) (σ:St) (H:Hp) (E:Value→Shared→Prop),Inv X pins σ H s→(∀ b ∈ fp,FpOk X pins H b)→tn i s.heap→J.go i H →
  wpAny (model P w) X.A (pyNext (.ref it)) (fun r s1=>∃ u,r=some u ∧
   wpAny (model P w) X.A (letOwnedTupleGo tg (.ref it) u) (fun _ s2=>∃ x H',Inv X pins σ H' s2∧RelV x u∧J.yld i H x H'∧tn (i+1) s2.heap∧∀ b ∈ fp,H' b=none) E s1) E s
 done:∀ (X:Cx),X.prog=P→X.w=w→X.K=K→X.calm=true→∀ (i:Nat) (pins:List (Addr × Obj)) (s:Shared) (σ:St) (H:Hp) (E:Value→Shared→Prop),Inv X pins σ H s→(∀ b ∈ fp,FpOk X pins H b)→tn i s.heap→J.stop i H →
  wpAny (model P w) X.A (pyNext (.ref it)) (fun r s1=>r=none∧Inv X pins σ H s1) E s
 self:∀ (A:Around) (i:Nat) (s:Shared) (Q:Value→Shared→Prop) (E:Value→Shared→Prop),tn i s.heap→Q (.ref it) s→wpAny (model P w) A (pyIter (.ref it)) Q E s
noncomputable abbrev TI:=St→Hp→(It→Hp→Prop)→Prop
noncomputable def PIE (X:Cx) (pins:List (Addr × Obj)) (σ:St) (tg:Expr) (R:It→Hp→Prop) (itv:Value) (s2:Shared):Prop :=
 ∃ (it:Addr) (fp:List Addr) (tn:Nat→Heap→Prop) (J:It) (H':Hp),itv=.ref it∧Inv X pins σ H' s2∧Turn X.prog X.w X.K tg J fp it tn∧tn 0 s2.heap∧(∀ b ∈ fp,FpOk X pins H' b)∧R J H'
noncomputable def PI (X:Cx) (tg iter:Expr) (wi:TI):Prop :=
 ∀ (pins:List (Addr × Obj)) (s:Shared) (σ:St) (H:Hp) (R:It→Hp→Prop),Inv X pins σ H s→wi σ H R →
  wpAny (model X.prog X.w) X.A (eval iter X.env) (fun v s1=>wpAny (model X.prog X.w) X.A (pyIter v) (PIE X pins σ tg R) X.xe s1) X.xe s
theorem go_of {M : Model} {A : Around} {E : Value → Shared → Prop} {s : Shared} {tg : Expr} {it : Addr} {u : Value} {o : Obj} {n : String} {vs : Array Value} {Q : Unit → Shared → Prop} (ho : s.heap.get? it = some o) (hc : o.cls = .type n) (hd : o.data = .fields vs)
    (hn : ["enumerate", "zip", "dict_itemiterator", "dict_reverseitemiterator", "odict_iterator", "itertools.zip_longest", "itertools.pairwise"].contains n = false) (hQ : Q () s) : wpAny M A (letOwnedTupleGo tg (.ref it) u) Q E s := by
  unfold letOwnedTupleGo
  cases tg <;> first
    | exact wpAny_pure hQ
    | (cases u <;> first
        | exact wpAny_pure hQ
        | (refine wpAny_bind (wpAny_load ho ?_)
           rw [hc, hd]
           show wpAny M A (if (["enumerate", "zip", "dict_itemiterator", "dict_reverseitemiterator", "odict_iterator", "itertools.zip_longest", "itertools.pairwise"].contains n && vs[0]? == some (rawInt _)) = true then _ else _) Q E s
           rw [if_neg (by intro h; rw [hn, Bool.false_and] at h; cases h)]
           exact wpAny_pure hQ))
noncomputable def Itl (K:PySem.W.Frag) (a:Addr):It :=
 ⟨fun i H=>∃ xs x,SqL K H a xs∧xs[i]?=some x,fun i H x H'=>H'=H∧∀ xs,SqL K H a xs→xs[i]?=some x,fun i H=>∃ xs,SqL K H a xs∧xs.length≤i⟩
noncomputable def Itt (K:PySem.W.Frag) (a:Addr):It :=
 ⟨fun i H=>∃ xs x,SqT K H a xs∧xs[i]?=some x,fun i H x H'=>H'=H∧∀ xs,SqT K H a xs→xs[i]?=some x,fun i H=>∃ xs,SqT K H a xs∧xs.length≤i⟩
noncomputable def Itr (lo:Int) (n:Nat):It:=⟨fun i _=>i < n,fun i H x H'=>H'=H∧x=.int (lo+i),fun i _=>n≤i⟩
theorem turn_list {P:Program} {w:World} {K:PySem.W.Frag} {tg:Expr} (a it:Addr):Turn P w K tg (Itl K a) [it] it (fun i h=>h.IsListIter it a i) where
 mem:=by simp
 obj:=fun i h st b hb=>by
  have e:b=it:=by simpa using hb
  subst e
  obtain ⟨o,e,c,d⟩:=st
  exact ⟨o,e,fun v z=>by rw [d] at z; cases z⟩
 keep:=fun i h h' st k=>st.at fun o e=>k it (by simp) o e
 item:=by
  intro X hP hw hK hc i pins s σ H E I hf st hg
  subst hP hw hK
  obtain ⟨xs,x,hq,hx⟩:=hg
  obtain ⟨its,rv,p,hz⟩:=I.list hq
  obtain ⟨u,hu,ru⟩:=rv.get hx
  obtain ⟨f0,f1,f2,f3,f4,f5⟩:=hf it (by simp)
  refine wpAny_pyNext_list_item st p.isList (x:=u) (by simpa using hu) fun h' st' sb=>?_
  have I1:Inv X pins σ H { s with heap:=h' }:=I.turned (t':=s.toks) (fun b o hb e=>(sb.2 b hb).trans e) f0 f1 f3 f4 f5
  obtain ⟨o,e,c,d⟩:=id st'
  exact ⟨u,rfl,go_of (s:={ s with heap:=h' }) e c d (by decide) ⟨x,H,I1,ru,⟨rfl,fun ys hy=>by rw [I.list_inj hy hq]; exact hx⟩,st',fun b hb=>(hf b hb).1⟩⟩
 done:=by
  intro X hP hw hK hc i pins s σ H E I hf st hg
  subst hP hw hK
  obtain ⟨xs,hq,hx⟩:=hg
  obtain ⟨its,rv,p,hz⟩:=I.list hq
  obtain ⟨f0,f1,f2,f3,f4,f5⟩:=hf it (by simp)
  have hl:=rv.length
  exact wpAny_pyNext_list_end (I.ok.hd hc) st p.isList (by simp; omega) fun h' eb=>⟨rfl,I.turned (t':=s.toks) (fun b o hb e=>eb b o hb e) f0 f1 f3 f4 f5⟩
 self:=fun _ _ _ _ _ st h=>wpAny_pyIter_listiter st h
theorem turn_tuple {P:Program} {w:World} {K:PySem.W.Frag} {tg:Expr} (a it:Addr):Turn P w K tg (Itt K a) [it] it (fun i h=>h.IsTupleIter it a i) where
 mem:=by simp
 obj:=fun i h st b hb=>by
  have e:b=it:=by simpa using hb
  subst e
  obtain ⟨o,e,c,d⟩:=st
  exact ⟨o,e,fun v z=>by rw [d] at z; cases z⟩
 keep:=fun i h h' st k=>st.at fun o e=>k it (by simp) o e
 item:=by
  intro X hP hw hK hc i pins s σ H E I hf st hg
  subst hP hw hK
  obtain ⟨xs,x,hq,hx⟩:=hg
  obtain ⟨its,rv,p,hz⟩:=I.tuple hq
  obtain ⟨u,hu,ru⟩:=rv.get hx
  obtain ⟨f0,f1,f2,f3,f4,f5⟩:=hf it (by simp)
  refine wpAny_pyNext_tuple_item st (show s.heap.IsTuple a its.toArray from p) (x:=u) (by simpa using hu) fun h' st' sb=>?_
  have I1:Inv X pins σ H { s with heap:=h' }:=I.turned (t':=s.toks) (fun b o hb e=>(sb.2 b hb).trans e) f0 f1 f3 f4 f5
  obtain ⟨o,e,c,d⟩:=id st'
  exact ⟨u,rfl,go_of (s:={ s with heap:=h' }) e c d (by decide) ⟨x,H,I1,ru,⟨rfl,fun ys hy=>by rw [I.tuple_inj hy hq]; exact hx⟩,st',fun b hb=>(hf b hb).1⟩⟩
 done:=by
  intro X hP hw hK hc i pins s σ H E I hf st hg
  subst hP hw hK
  obtain ⟨xs,hq,hx⟩:=hg
  obtain ⟨its,rv,p,hz⟩:=I.tuple hq
  obtain ⟨f0,f1,f2,f3,f4,f5⟩:=hf it (by simp)
  have hl:=rv.length
  exact wpAny_pyNext_tuple_end (I.ok.hd hc) st (show s.heap.IsTuple a its.toArray from p) (by simp; omega) fun h' eb=>⟨rfl,I.turned (t':=s.toks) (fun b o hb e=>eb b o hb e) f0 f1 f3 f4 f5⟩
 self:=fun _ _ _ _ _ st h=>wpAny_pyIter_tupleiter st h
theorem turn_range {P:Program} {w:World} {K:PySem.W.Frag} {tg:Expr} (it:Addr) (lo:Int) (n:Nat):Turn P w K tg (Itr lo n) [it] it (fun i h=>IsRangeIter h it (lo+(i:Nat) * 1) ((n:Int) - (i:Nat)) 1) where
 mem:=by simp
 obj:=fun i h st b hb=>by
  have e:b=it:=by simpa using hb
  subst e
  exact ⟨_,st,fun v z=>by
   have z':Data.fields _=Data.cell v:=z
   cases z'⟩
 keep:=fun i h h' st k=>k it (by simp) _ st
 item:=by
  intro X hP hw hK hc i pins s σ H E I hf st hg
  subst hP hw hK
  obtain ⟨f0,f1,f2,f3,f4,f5⟩:=hf it (by simp)
  have W:=Walks.range (prog:=X.prog) (w:=X.w) (I.ok.hd hc) it lo 1 n
  refine W.item i s _ _ hg st fun v h' tk hv st' kk=>?_
  obtain ⟨t,rfl⟩:=hv
  have I1:Inv X pins σ H { s with heap:=h',toks:=tk }:=I.turned (fun b o hb e=>kk b o (by simpa using hb) e) f0 f1 f3 f4 f5
  refine ⟨_,rfl,go_of (s:={ s with heap:=h',toks:=tk }) (n:="range_iterator") st' rfl rfl (by decide) ⟨.int (lo+i),H,I1,⟨t,?_⟩,⟨rfl,rfl⟩,st',fun b hb=>(hf b hb).1⟩⟩
  rw [Int.mul_one]
 done:=by
  intro X hP hw hK hc i pins s σ H E I hf st hg
  subst hP hw hK
  obtain ⟨f0,f1,f2,f3,f4,f5⟩:=hf it (by simp)
  exact wpAny_pyNext_range_end (I.ok.hd hc) st (by have:n≤i:=hg; omega) fun h' eb=>⟨rfl,I.turned (t':=s.toks) (fun b o hb e=>eb b o hb e) f0 f1 f3 f4 f5⟩
 self:=fun _ _ _ _ _ st h=>wpAny_pyIter_rangeiter st h
end L2
namespace L2
open PySem PySem.Spec PyProof.Rows
section
variable {X:Cx} {tg:Expr}
theorem range_it {pins : List (Addr × Obj)} {σ : St} {H : Hp} {s : Shared} {R : It → Hp → Prop} {E : Value → Shared → Prop} {lo hi : Int} {t u v : Tok} {tk : Nat} (I : Inv X pins σ H s) (h1 : -(2 ^ 62) ≤ lo) (h2 : lo < 2 ^ 62) (h3 : -(2 ^ 62) ≤ hi) (h4 : hi < 2 ^ 62)
    (q : R (Itr lo (hi - lo).toNat) H) : wpAny (model X.prog X.w) X.A (pyIter (.ref s.heap.objs.size)) (PIE X pins σ tg R) E { s with heap := s.heap.push { cls := .type "range", data := .fields #[.int lo t, .int hi u, .int 1 v] }, toks := tk } := by
  refine wpAny_pyIter_range (IsRange.new ..) (small_one h1 h2 h3 h4) ?_
  have I1 : Inv X pins σ H { s with heap := s.heap.push { cls := .type "range", data := .fields #[.int lo t, .int hi u, .int 1 v] }, toks := tk } := I.kept fun b o e => Heap.get?_push_of_some _ e
  refine ⟨(s.heap.push { cls := .type "range", data := .fields #[.int lo t, .int hi u, .int 1 v] }).objs.size, [(s.heap.push { cls := .type "range", data := .fields #[.int lo t, .int hi u, .int 1 v] }).objs.size], _, _, H, rfl,
    I1.kept (t' := tk) fun b o e => Heap.get?_push_of_some _ e, turn_range _ lo (hi - lo).toNat, ?_, fun b hb => ?_, q⟩
  · have e1 : lo + ((0 : Nat) : Int) * 1 = lo := by simp
    have e2 : (((hi - lo).toNat : Nat) : Int) - ((0 : Nat) : Int) = Builtin.Range.rangeSize lo hi 1 := by rw [rangeSize_one]; split <;> omega
    show IsRangeIter _ _ (lo + ((0 : Nat) : Int) * 1) ((((hi - lo).toNat : Nat) : Int) - ((0 : Nat) : Int)) 1
    rw [e1, e2]
    exact Heap.get?_push_size _ rfl
  · have e : b = (s.heap.push { cls := .type "range", data := .fields #[.int lo t, .int hi u, .int 1 v] }).objs.size := by simpa using hb
    subst e
    exact I1.fpOk (Nat.le_refl _) (I1.hok.fresh (Nat.le_refl _))
noncomputable def iRng1 (ta:TA):TI:=fun σ H R=>ta σ H fun vs H1=>∃ j:Int,vs=[.int j]∧-(2 ^ 62)≤j∧j < 2 ^ 62∧R (Itr 0 j.toNat) H1
noncomputable def iRng2 (ta:TA):TI:=fun σ H R=>ta σ H fun vs H1=>∃ i j:Int,vs=[.int i,.int j]∧(-(2 ^ 62)≤i∧i < 2 ^ 62∧-(2 ^ 62)≤j∧j < 2 ^ 62)∧R (Itr i (j - i).toNat) H1
theorem pi_range1 {a:Expr} {ta:TA} {p pos:Pos} (hg:Gl X "range") (hm:X.mg "range"=none) (ha:PA X [a] ta) (hs:starEach [a] X.env=[(false,eval a X.env)]:=by rfl):PI X tg (.Call (.Name "range" p) [a] [] pos) (iRng1 ta):=by
 intro pins s σ H R I h
 refine Call_ (ld_blt I hg hm boot_range (PyProof.Rows.callWith_type1 (thn (ha pos pins s σ H _ I h) fun us s1 ⟨vs,H1,I1,r1,q1⟩=>?_) hs rfl))
 obtain ⟨j,e,q1,q2,q⟩:=q1
 subst e
 cases r1 with
 | cons r rr =>
  cases rr
  obtain ⟨t,rfl⟩:=r
  exact call_range_1 (range_it I1 (by omega) (by omega) q1 q2 (by simpa using q))
theorem pi_range2 {a b : Expr} {ta : TA} {p pos : Pos} (hg : Gl X "range") (hm : X.mg "range" = none) (ha : PA X [a, b] ta) (hs : starEach [a, b] X.env = [(false, eval a X.env), (false, eval b X.env)] := by rfl) (hs2 : starEach [b] X.env = [(false, eval b X.env)] := by rfl) :
    PI X tg (.Call (.Name "range" p) [a, b] [] pos) (iRng2 ta) := by
  intro pins s σ H R I h
  refine Call_ (ld_blt I hg hm boot_range (PyProof.Rows.callWith_type1 (thn (ha pos pins s σ H _ I h) fun us s1 ⟨vs, H1, I1, r1, q1⟩ => ?_) (by rw [hs, hs2]) (by rw [hs2]; rfl)))
  obtain ⟨i, j, e, ⟨q1, q2, q3, q4⟩, q⟩ := q1
  subst e
  cases r1 with
  | cons r rr =>
    cases rr with
    | cons r' rr =>
      cases rr
      obtain ⟨t, rfl⟩ := r
      obtain ⟨t', rfl⟩ := r'
      exact call_range_2 (range_it I1 q1 q2 q3 q4 q)
noncomputable def tFor (wi:TI) (g:TG) (tb:TS):TS:=fun D σ H=>wi σ H fun J H1=>∃ W:Nat→Nat→St→Hp→Prop,(∃ m,W 0 m σ H1)∧∀ i m σ H,W i m σ H →
 (J.stop i H∧D.nx σ H) ∨ (J.go i H∧∃ N:St→Hp→Prop,(∀ σ' H',N σ' H'→∃ m',m' < m∧W (i+1) m' σ' H')∧∀ x H',J.yld i H x H'→g x σ H' fun σ2 H2=>tb { D with nx:=N,ct:=N,bk:=D.nx } σ2 H2)
noncomputable def pinsAt (fp:List Addr) (h:Heap):List (Addr × Obj):=fp.filterMap fun b=>(h.get? b).map fun o=>(b,o)
theorem mem_pinsAt {fp:List Addr} {h:Heap} {b:Addr} {o:Obj} (hb:b ∈ fp) (e:h.get? b=some o):(b,o) ∈ pinsAt fp h:=List.mem_filterMap.mpr ⟨b,hb,by rw [e]; rfl⟩
theorem of_pinsAt {fp:List Addr} {h:Heap} {p:Addr × Obj} (hp:p ∈ pinsAt fp h):p.1 ∈ fp∧h.get? p.1=some p.2:=by
 obtain ⟨b,hb,e⟩:=List.mem_filterMap.mp hp
 cases q:h.get? b with
 | none=>rw [q] at e; cases e
 | some o =>
  rw [q] at e
  have e':(b,o)=p:=Option.some.inj e
  subst e'
  exact ⟨hb,q⟩
theorem Inv.pinned {pins:List (Addr × Obj)} {σ:St} {H:Hp} {s:Shared} {fp:List Addr} (I:Inv X pins σ H s) (hf:∀ b ∈ fp,FpOk X pins H b) (ho:∀ b ∈ fp,∃ o,s.heap.get? b=some o∧∀ v,o.data ≠ .cell v):Inv X (pins++pinsAt fp s.heap) σ H s :=
 I.pins_of fun p hp=>(List.mem_append.mp hp).elim (fun z=>I.pin p (List.mem_append_right _ z)) fun z=>by
  obtain ⟨hb,e⟩:=of_pinsAt z
  obtain ⟨f0,f1,f2,_⟩:=hf p.1 hb
  obtain ⟨o,e',d⟩:=ho p.1 hb
  rw [e] at e'; cases e'
  exact ⟨e,f0,f1,f2,d⟩
theorem Inv.unpinned {pins pl:List (Addr × Obj)} {σ:St} {H:Hp} {s:Shared} (I:Inv X (pins++pl) σ H s):Inv X pins σ H s:=I.pins_of fun p hp=>I.pin p (List.mem_append_right _ (List.mem_append_left _ hp))
theorem ps_for {iter : Expr} {body : List Stmt} {wi : TI} {g : TG} {tb : TS} {pos : Pos} (hp : PassesOwn (model X.prog X.w) X.A X.env X.xe) (hc : X.calm = true) (hi : PI X tg iter wi) (hg : PG X tg g) (hb : PSs X body tb)
    (hs : ∀ x, foldedSetIterable iter X.env x = pure x := by intro _; rfl) : PS X (.For tg iter body [] pos) (tFor wi g tb) := by
  intro pins s σ H D I h
  refine wpAny_For (thn (hi pins s σ H _ I h) fun v s1 h1 => thn h1 fun itv s2 h2 => ?_) hs
  obtain ⟨it, fp, tn, J, H2, e, I2, T, st2, f2, W, ⟨m0, w0⟩, turn⟩ := h2
  subst e
  -- what stays true of the iterator's objects through the loop
  have stat : ∀ {H' : Hp}, (∀ b ∈ fp, H' b = none) → ∀ b ∈ fp, FpOk X pins H' b := fun hn b hb => ⟨hn b hb, (f2 b hb).2⟩
  refine codeAny_forLoop_any (fun n s' => ∃ i σ' H', Inv X pins σ' H' s' ∧ tn i s'.heap ∧ (∀ b ∈ fp, H' b = none) ∧ W i n σ' H') ?_ m0 ⟨0, σ, H2, I2, st2, fun b hb => (f2 b hb).1, w0⟩
  rintro n s3 ⟨i, σ3, H3, I3, st3, fr3, w3⟩
  rcases turn i n σ3 H3 w3 with ⟨stop, qn⟩ | ⟨go, N, hN, step⟩
  · refine wpAny_passesOwn hp (thn (T.done X rfl rfl rfl hc i pins s3 σ3 H3 X.xe I3 (stat fr3) st3 stop) fun r s4 ⟨hr, I4⟩ => ?_)
    subst hr
    exact wpAny_execs_nil ⟨σ3, H3, I4, qn⟩
  · refine wpAny_passesOwn hp (thn (T.item X rfl rfl rfl hc i pins s3 σ3 H3 X.xe I3 (stat fr3) st3 go) fun r s4 ⟨u, hr, h4⟩ => ?_)
    subst hr
    refine wpAny_passesOwn hp (thn h4 fun _ s5 ⟨x, H5, I5, r5, y5, st5, fr5⟩ => ?_)
    have I5' := I5.pinned (stat fr5) (T.obj _ _ st5)
    refine wpAny_passesOwn hp (thn (hg _ s5 σ3 H5 x u _ I5' r5 (step x H5 y5)) fun _ s6 ⟨σ6, H6, I6, q6⟩ => ?_)
    refine wpAny_passesOwn hp (thn (hb _ s6 σ6 H6 _ I6 q6) fun f s7 q7 => ?_)
    have again : ∀ {σ7 : St} {H7 : Hp}, Inv X (pins ++ pinsAt fp s5.heap) σ7 H7 s7 → N σ7 H7 → ∃ m, m < n ∧ ∃ i σ' H', Inv X pins σ' H' s7 ∧ tn i s7.heap ∧ (∀ b ∈ fp, H' b = none) ∧ W i m σ' H' := fun {σ7 H7} I7 n7 => by
      obtain ⟨m', hm, w7⟩ := hN σ7 H7 n7
      refine ⟨m', hm, i + 1, σ7, H7, I7.unpinned, T.keep _ _ _ st5 fun b hb o e => (I7.pin (b, o) (List.mem_append_right _ (List.mem_append_right _ (mem_pinsAt hb e)))).1, fun b hb => ?_, w7⟩
      obtain ⟨o, e, d⟩ := T.obj _ _ st5 b hb
      exact (I7.pin (b, o) (List.mem_append_right _ (List.mem_append_right _ (mem_pinsAt hb e)))).2.1
    cases f with
    | next => obtain ⟨σ7, H7, I7, n7⟩ := q7; exact again I7 n7
    | cont => obtain ⟨σ7, H7, I7, n7⟩ := q7; exact again I7 n7
    | brk => obtain ⟨σ7, H7, I7, q7⟩ := q7; exact ⟨σ7, H7, I7.unpinned, q7⟩
    | ret v => obtain ⟨x7, σ7, H7, I7, r7, q7⟩ := q7; exact ⟨x7, σ7, H7, I7.unpinned, r7, q7⟩
end
end L2
namespace L2
open PySem PySem.Spec PyProof.Rows
noncomputable abbrev R2:=V→V→Hp→VK→Prop
noncomputable def OpR (X:Cx) (f:Value→Value→Sem Value) (r:R2):Prop :=
 ∀ (pins:List (Addr × Obj)) (s:Shared) (σ:St) (H:Hp) (x y:V) (v u:Value) (Q:VK),Inv X pins σ H s→RelV x v→RelV y u→r x y H Q →
  wpAny (model X.prog X.w) X.A (f v u) (EP X pins σ Q) X.xe s
noncomputable def UnR (X:Cx) (f:Value→Sem Value) (r:V→Hp→VK→Prop):Prop :=
 ∀ (pins:List (Addr × Obj)) (s:Shared) (σ:St) (H:Hp) (x:V) (v:Value) (Q:VK),Inv X pins σ H s→RelV x v→r x H Q →
  wpAny (model X.prog X.w) X.A (f v) (EP X pins σ Q) X.xe s
noncomputable def CallR (X:Cx) (f:Value) (r:List V→Hp→VK→Prop):Prop :=
 ∀ (pins:List (Addr × Obj)) (s:Shared) (σ:St) (H:Hp) (xs:List V) (us:List Value) (Q:VK),Inv X pins σ H s→Vals xs us→r xs H Q →
  wpAny (model X.prog X.w) X.A (call f us) (EP X pins σ Q) X.xe s
noncomputable def TruR (X:Cx) (r:V→Hp→(Bool→Hp→Prop)→Prop):Prop :=
 ∀ (pins:List (Addr × Obj)) (s:Shared) (σ:St) (H:Hp) (x:V) (v:Value) (Q:Bool→Hp→Prop),Inv X pins σ H s→RelV x v→r x H Q →
  wpAny (model X.prog X.w) X.A (truthy v) (TP X pins σ Q) X.xe s
noncomputable def tOp (r:R2) (ta tb:TE):TE:=fun σ H Q=>ta σ H fun x H1=>tb σ H1 fun y H2=>r x y H2 Q
noncomputable def tUn (r:V→Hp→VK→Prop) (ta:TE):TE:=fun σ H Q=>ta σ H fun x H1=>r x H1 Q
noncomputable def rI (C:Int→Int→Prop) (g:Int→Int→V):R2:=fun x y H Q=>∃ i j,x=.int i∧y=.int j∧C i j∧Q (g i j) H
noncomputable def rI0 (g:Int→Int→V):R2:=fun x y H Q=>∃ i j,x=.int i∧y=.int j∧Q (g i j) H
noncomputable def rU (g:Int→V):V→Hp→VK→Prop:=fun x H Q=>∃ i,x=.int i∧Q (g i) H
section
variable {X:Cx} {a b c:Expr} {ta tb tc:TE} {pos:Pos}
theorem binT (ha : PE X a ta) (hb : PE X b tb) {pins : List (Addr × Obj)} {s : Shared} {σ : St} {H : Hp} {R : V → V → Hp → Prop} (I : Inv X pins σ H s)
    (h : ta σ H fun x H1 => tb σ H1 fun y H2 => R x y H2) {Q : Value → Shared → Prop} {f : Value → Value → Sem Value}
    (hf : ∀ v u s2 x y H2, Inv X pins σ H2 s2 → RelV x v → RelV y u → R x y H2 → wpAny (model X.prog X.w) X.A (f v u) Q X.xe s2) :
    wpAny (model X.prog X.w) X.A (eval a X.env) (fun v s₁ => wpAny (model X.prog X.w) X.A (eval b X.env) (fun u s₂ => wpAny (model X.prog X.w) X.A (f v u) Q X.xe s₂) X.xe s₁) X.xe s := by
  refine thn (ha pins s σ H _ I h) fun v s1 ⟨x, H1, I1, r1, q1⟩ => ?_
  refine thn (hb pins s1 σ H1 _ I1 q1) fun u s2 ⟨y, H2, I2, r2, q2⟩ => ?_
  exact hf v u s2 x y H2 I2 r1 r2 q2
theorem pe_op {op:Operator} {r:R2} (ho:OpR X (binaryOp op) r) (ha:PE X a ta) (hb:PE X b tb):PE X (.BinOp a op b pos) (tOp r ta tb):=by
 intro pins s σ H Q I h
 exact wpAny_BinOp (binT ha hb I h fun v u s2 x y H2 I2 rx ry q=>ho pins s2 σ H2 x y v u Q I2 rx ry q)
theorem pe_un {op:UnaryOp} {r:V→Hp→VK→Prop} (ho:UnR X (unaryOp op) r) (ha:PE X a ta):PE X (.UnaryOp op a pos) (tUn r ta):=by
 intro pins s σ H Q I h
 exact UnaryOp_ (thn (ha pins s σ H _ I h) fun v s1 ⟨x,H1,I1,r1,q1⟩=>ho pins s1 σ H1 x v Q I1 r1 q1)
theorem opI {f : Value → Value → Sem Value} {C : Int → Int → Prop} {g : Int → Int → Int}
    (rule : ∀ (i j : Int) (t u : Tok) (s : Shared) (Q : Value → Shared → Prop) (E : Value → Shared → Prop), C i j → Q (.int (g i j) s.toks) { s with toks := s.toks + 1 } → wpAny (model X.prog X.w) X.A (f (.int i t) (.int j u)) Q E s) :
    OpR X f (rI C fun i j => .int (g i j)) := by
  intro pins s σ H x y v u Q I rx ry h
  obtain ⟨i, j, rfl, rfl, hc, q⟩ := h
  obtain ⟨t, rfl⟩ := rx
  obtain ⟨t', rfl⟩ := ry
  exact rule i j t t' s _ _ hc ⟨.int (g i j), H, I.tok _, ⟨_, rfl⟩, q⟩
theorem opI0 {f : Value → Value → Sem Value} {g : Int → Int → Int}
    (rule : ∀ (i j : Int) (t u : Tok) (s : Shared) (Q : Value → Shared → Prop) (E : Value → Shared → Prop), Q (.int (g i j) s.toks) { s with toks := s.toks + 1 } → wpAny (model X.prog X.w) X.A (f (.int i t) (.int j u)) Q E s) :
    OpR X f (rI0 fun i j => .int (g i j)) := by
  intro pins s σ H x y v u Q I rx ry h
  obtain ⟨i, j, rfl, rfl, q⟩ := h
  obtain ⟨t, rfl⟩ := rx
  obtain ⟨t', rfl⟩ := ry
  exact rule i j t t' s _ _ ⟨.int (g i j), H, I.tok _, ⟨_, rfl⟩, q⟩
theorem opB0 {f : Value → Value → Sem Value} {g : Int → Int → Bool}
    (rule : ∀ (i j : Int) (t u : Tok) (s : Shared) (Q : Value → Shared → Prop) (E : Value → Shared → Prop), Q (.bool (g i j)) s → wpAny (model X.prog X.w) X.A (f (.int i t) (.int j u)) Q E s) :
    OpR X f (rI0 fun i j => .bl (g i j)) := by
  intro pins s σ H x y v u Q I rx ry h
  obtain ⟨i, j, rfl, rfl, q⟩ := h
  obtain ⟨t, rfl⟩ := rx
  obtain ⟨t', rfl⟩ := ry
  exact rule i j t t' s _ _ ⟨.bl (g i j), H, I, rfl, q⟩
noncomputable def CDiv (i j:Int):Prop:=0 < j∧j < 1073741824
noncomputable def CPow (i j:Int):Prop:=0≤j∧j≤1000000∧i.natAbs < 2 ^ 64
noncomputable def CMul (i j:Int):Prop:=(-(2 ^ 64) < i∧i < 2 ^ 64) ∨ (-(2 ^ 64) < j∧j < 2 ^ 64)
theorem CMul.ok {i j:Int} (h:CMul i j):IntMulOk i j:=by
 rcases h with ⟨h1,h2⟩ | ⟨h1,h2⟩
 ·exact .of_left (intBits_le_64 h1 h2)
 ·exact .of_right (intBits_le_64 h1 h2)
theorem op_add:OpR X (binaryOp .Add) (rI0 fun i j=>.int (i+j)):=opI0 fun _ _ _ _ _ _ _ q=>add_int q
theorem op_sub:OpR X (binaryOp .Sub) (rI0 fun i j=>.int (i - j)):=opI0 fun _ _ _ _ _ _ _ q=>sub_int q
theorem op_mul:OpR X (binaryOp .Mult) (rI CMul fun i j=>.int (i * j)):=opI fun _ _ _ _ _ _ _ hc q=>mul_int q hc.ok
theorem op_fdiv:OpR X (binaryOp .FloorDiv) (rI CDiv fun i j=>.int (i / j)):=opI fun i j _ _ _ _ _ hc q=>by
 have h1:(0:Int) < j:=hc.1
 have h2:j < 1073741824:=hc.2
 exact floordiv_int (by omega) (by rw [Int.fdiv_eq_ediv_of_nonneg i (by omega)]; exact q) (.inl (PyProof.noPylong_small (by omega)))
theorem op_mod:OpR X (binaryOp .Mod) (rI (fun _ j=>0 < j) fun i j=>.int (i % j)):=opI fun i j _ _ _ _ _ hc q=>by
 have h1:(0:Int) < j:=hc
 exact mod_int' (by omega) (by rw [Int.fmod_eq_emod_of_nonneg i (by omega)]; exact q)
theorem op_pow:OpR X (binaryOp .Pow) (rI CPow fun i j=>.int (i ^ j.toNat)):=opI fun _ _ _ _ _ _ _ hc q=>pow_int_small hc.1 hc.2.1 hc.2.2 q
theorem unI {f : Value → Sem Value} {g : Int → Int}
    (rule : ∀ (i : Int) (t : Tok) (s : Shared) (Q : Value → Shared → Prop) (E : Value → Shared → Prop), Q (.int (g i) s.toks) { s with toks := s.toks + 1 } → wpAny (model X.prog X.w) X.A (f (.int i t)) Q E s) :
    UnR X f (rU fun i => .int (g i)) := by
  intro pins s σ H x v Q I rx h
  obtain ⟨i, rfl, q⟩ := h
  obtain ⟨t, rfl⟩ := rx
  exact rule i t s _ _ ⟨.int (g i), H, I.tok _, ⟨_, rfl⟩, q⟩
theorem un_neg:UnR X (unaryOp .USub) (rU fun i=>.int (-i)):=unI fun _ _ _ _ _ q=>neg_int q
end
section
variable {X:Cx} {a b c:Expr} {ta tb tc:TE} {pos:Pos}
theorem op_lt:OpR X (compareOp .Lt) (rI0 fun i j=>.bl (decide (i < j))):=opB0 fun _ _ _ _ _ _ _ q=>lt_int q
theorem op_le:OpR X (compareOp .LtE) (rI0 fun i j=>.bl (decide (i≤j))):=opB0 fun _ _ _ _ _ _ _ q=>le_int q
theorem op_gt:OpR X (compareOp .Gt) (rI0 fun i j=>.bl (decide (j < i))):=opB0 fun _ _ _ _ _ _ _ q=>gt_int q
theorem op_ge:OpR X (compareOp .GtE) (rI0 fun i j=>.bl (decide (j≤i))):=opB0 fun _ _ _ _ _ _ _ q=>ge_int q
theorem nomark (b:Expr) {op:CmpOp} (h:op ≠ .In:=by decide) (h2:op ≠ .NotIn:=by decide):behindInMarks op b=false:=by
 have e1:(op == CmpOp.In)=false:=by cases op <;> first | rfl | exact absurd rfl h
 have e2:(op == CmpOp.NotIn)=false:=by cases op <;> first | rfl | exact absurd rfl h2
 cases b <;> simp [behindInMarks,e1,e2]
theorem pe_cmpR {op:CmpOp} {r:R2} (ho:OpR X (compareOp op) r) (ha:PE X a ta) (hb:PE X b tb) (hm:behindInMarks op b=false):PE X (.Compare a [op] [b] pos) (tOp r ta tb):=by
 intro pins s σ H Q I h
 exact wpAny_Compare1 (binT ha hb I h fun v u s2 x y H2 I2 rx ry q=>ho pins s2 σ H2 x y v u Q I2 rx ry q) hm
noncomputable def tTest (t:TE):TT:=fun σ H Q=>t σ H fun x H'=>∃ k,x=.bl k∧Q k H'
theorem pt_cmpR {op:CmpOp} {r:R2} (ho:OpR X (compareOp op) r) (ha:PE X a ta) (hb:PE X b tb) (hm:behindInMarks op b=false):PT X (.Compare a [op] [b] pos) (tTest (tOp r ta tb)):=by
 intro pins s σ H Q I h
 refine wpAny_isTrue_Compare1 (thn (ha pins s σ H _ I h) fun v s1 ⟨x,H1,I1,r1,q1⟩=>thn (hb pins s1 σ H1 _ I1 q1) fun u s2 ⟨y,H2,I2,r2,q2⟩ =>
  thn (ho pins s2 σ H2 x y v u _ I2 r1 r2 q2) fun c s3 ⟨z,H3,I3,r3,k,e,q3⟩=>?_) hm
 subst e
 cases r3
 exact wpAny_truthy_bool ⟨H3,I3,q3⟩
noncomputable def tChain (r r':R2) (ta tb tc:TE):TE:=fun σ H Q=>ta σ H fun x H1=>tb σ H1 fun y H2=>r x y H2 fun z H3=>∃ k,z=.bl k ∧
 (if k=true then tc σ H3 fun w' H4=>r' y w' H4 Q else Q (.bl false) H3)
theorem pe_chain {op op' : CmpOp} {r r' : R2} (ho : OpR X (compareOp op) r) (ho' : OpR X (compareOp op') r') (ha : PE X a ta) (hb : PE X b tb) (hc : PE X c tc)
    (hm : lastMarks [op, op'] [b, c] = false := by with_unfolding_all rfl) : PE X (.Compare a [op, op'] [b, c] pos) (tChain r r' ta tb tc) := by
  intro pins s σ H Q I h
  refine Compare_chain (thn (ha pins s σ H _ I h) fun v s1 ⟨x, H1, I1, r1, q1⟩ => chain_link (thn (hb pins s1 σ H1 _ I1 q1) fun u s2 ⟨y, H2, I2, r2, q2⟩ =>
    thn (ho pins s2 σ H2 x y v u _ I2 r1 r2 q2) fun d s3 ⟨z, H3, I3, r3, k, e, q3⟩ => ?_)) hm
  subst e
  cases r3
  refine wpAny_truthy_bool ?_
  cases k with
  | false => exact ite_ff ⟨.bl false, H3, I3, rfl, q3⟩
  | true => exact ite_tt (chain_last (thn (hc pins s3 σ H3 _ I3 q3) fun w' s4 ⟨z', H4, I4, r4, q4⟩ => ho' pins s4 σ H4 y z' u w' Q I4 r2 r4 q4))
theorem pt_chain {op op' : CmpOp} {r r' : R2} (ho : OpR X (compareOp op) r) (ho' : OpR X (compareOp op') r') (ha : PE X a ta) (hb : PE X b tb) (hc : PE X c tc)
    (hm : lastMarks [op, op'] [b, c] = false := by with_unfolding_all rfl) : PT X (.Compare a [op, op'] [b, c] pos) (tTest (tChain r r' ta tb tc)) := by
  intro pins s σ H Q I h
  refine isTrue_chain (thn (ha pins s σ H _ I h) fun v s1 ⟨x, H1, I1, r1, q1⟩ => test_link (thn (hb pins s1 σ H1 _ I1 q1) fun u s2 ⟨y, H2, I2, r2, q2⟩ =>
    thn (ho pins s2 σ H2 x y v u _ I2 r1 r2 q2) fun d s3 ⟨z, H3, I3, r3, k, e, q3⟩ => ?_)) hm
  subst e
  cases r3
  refine wpAny_truthy_bool ?_
  cases k with
  | false =>
    obtain ⟨k', e', q'⟩ := q3
    cases e'
    exact ite_ff ⟨H3, I3, q'⟩
  | true =>
    refine ite_tt (test_last (thn (hc pins s3 σ H3 _ I3 q3) fun w' s4 ⟨z', H4, I4, r4, q4⟩ => thn (ho' pins s4 σ H4 y z' u w' _ I4 r2 r4 q4) fun d' s5 ⟨z2, H5, I5, r5, k2, e2, q5⟩ => ?_))
    subst e2
    cases r5
    exact wpAny_truthy_bool ⟨H5, I5, q5⟩
noncomputable def TruV (K:PySem.W.Frag) (x:V) (H:Hp) (k:Bool):Prop :=
 match x with
 | .non=>k=false
 | .bl b=>k=b
 | .int i=>k=(i != 0)
 | .str y=>y.length≤sizeLine∧k=((y.length:Int) != 0)
 | .byt y=>y.size≤sizeLine∧k=((y.size:Int) != 0)
 | .ref p=>(∃ xs,SqL K H p xs∧k=!xs.isEmpty) ∨ (∃ xs,SqT K H p xs∧k=!xs.isEmpty) ∨ ∃ kvs,H p=some (.dK kvs)∧k=!kvs.isEmpty
 | _=>False
theorem isEmpty_kv {κ:Type} {kvs:List (κ × V)} {vs:List (κ × Value)} (r:KV kvs vs):(!vs.isEmpty)=!kvs.isEmpty:=by
 cases r <;> rfl
theorem isEmpty_of {xs:List V} {its:List Value} (r:Vals xs its):(!its.toArray.isEmpty)=!xs.isEmpty:=by
 cases r <;> simp
theorem line63:(sizeLine:Nat) < 2 ^ 63:=by rw [sizeLine_eq]; decide
theorem tru_ok:TruR X (fun x H Q=>∃ k,TruV X.K x H k∧Q k H):=by
 intro pins s σ H x v Q I rx h
 obtain ⟨k,e,q⟩:=h
 have hl:=line63
 have hs:sizeLine=16777216:=sizeLine_eq
 cases x with
 | non =>
  cases rx
  have e':k=false:=e
  subst e'
  exact truthy_none ⟨H,I,q⟩
 | bl b =>
  cases rx
  have e':k=b:=e
  subst e'
  exact wpAny_truthy_bool ⟨H,I,q⟩
 | int i =>
  obtain ⟨t,rfl⟩:=rx
  have e':k=(i != 0):=e
  subst e'
  exact PySem.P.truthy_int ⟨H,I,q⟩
 | str y =>
  obtain ⟨t,rfl⟩:=rx
  obtain ⟨hy,e'⟩:y.length≤sizeLine∧k=((y.length:Int) != 0):=e
  subst e'
  exact PySem.P.truthy_str (by omega) ⟨H,I.tok _,q⟩
 | byt y =>
  obtain ⟨t,rfl⟩:=rx
  obtain ⟨hy,e'⟩:y.size≤sizeLine∧k=((y.size:Int) != 0):=e
  subst e'
  exact PySem.W.truthy_bytes (by omega) ⟨H,I.tok _,q⟩
 | ref p =>
  cases rx
  have e':(∃ xs,SqL X.K H p xs∧k=!xs.isEmpty) ∨ (∃ xs,SqT X.K H p xs∧k=!xs.isEmpty) ∨ ∃ kvs,H p=some (.dK kvs)∧k=!kvs.isEmpty:=e
  rcases e' with ⟨xs,hx,e'⟩ | ⟨xs,hx,e'⟩ | ⟨kvs,hx,e'⟩
  ·subst e'
   obtain ⟨its,r,pl,hz⟩:=I.list hx
   have hlen:=r.length
   exact wpAny_truthy_list pl.isList (by simp only [List.size_toArray]; omega) ⟨H,I.tok _,by rw [isEmpty_of r]; exact q⟩
  ·subst e'
   obtain ⟨its,r,pl,hz⟩:=I.tuple hx
   have hlen:=r.length
   exact truthy_tuple pl (by simp only [List.size_toArray]; omega) ⟨H,I.tok _,by rw [isEmpty_of r]; exact q⟩
  ·subst e'
   obtain ⟨hz,hS,vs,r,m⟩:kvs.length≤sizeLine∧(p == sysModules)=false∧∃ vs,KV kvs vs∧s.heap.DictOf (mixKind X.prog X.w) p vs:=I.hok p _ hx
   have hlen:kvs.length=vs.length:=Paired.length r
   exact wpAny_truthy_dict hS m (by omega) ⟨H,I.tok _,by rw [isEmpty_kv r]; exact q⟩
 | _=>exact (show False from e).elim
theorem pt_truth (ha : PE X a ta) (he : ∀ whole, isTrue a X.env whole = (do let v ← whole; standAt a.pos; holding [v] (truthy v))) :
    PT X a (fun σ H Q => ta σ H fun x H' => ∃ k, TruV X.K x H' k ∧ Q k H') := by
  intro pins s σ H Q I h
  exact isTrue_plain (thn (ha pins s σ H _ I h) fun v s1 ⟨x, H1, I1, r1, q1⟩ => tru_ok pins s1 σ H1 x v Q I1 r1 q1) (he _)
theorem op_add_str:OpR X (binaryOp .Add) (fun x y H Q=>∃ i j,x=.str i∧y=.str j∧i.length+j.length≤sizeLine∧Q (.str (i++j)) H):=by
 intro pins s σ H x y v u Q I rx ry h
 obtain ⟨i,j,rfl,rfl,hz,q⟩:=h
 obtain ⟨t,rfl⟩:=rx
 obtain ⟨t',rfl⟩:=ry
 exact add_str (fun t' tk=>⟨.str (i++j),H,I.tok _,⟨_,rfl⟩,q⟩) hz
theorem vals1 {x:V} {us:List Value} (r:Vals [x] us):∃ u,us=[u]∧RelV x u:=by
 cases r with
 | cons r1 r2=>cases r2; exact ⟨_,rfl,r1⟩
theorem vals2 {x y:V} {us:List Value} (r:Vals [x,y] us):∃ u w',us=[u,w']∧RelV x u∧RelV y w':=by
 cases r with
 | cons r1 r2 =>
  cases r2 with
  | cons r3 r4=>cases r4; exact ⟨_,_,rfl,r1,r3⟩
theorem call_max2 (hc:X.calm=true):CallR X (.builtin "max") (fun xs H Q=>∃ i j,xs=[.int i,.int j]∧Q (.int (if j > i then j else i)) H):=by
 intro pins s σ H xs us Q I r h
 obtain ⟨i,j,rfl,q⟩:=h
 obtain ⟨u,w',rfl,⟨t,rfl⟩,⟨t',rfl⟩⟩:=vals2 r
 refine max_two_ints (I.ok.hd hc) fun h' tk k=>⟨_,H,I.kept k,?_,q⟩
 by_cases hj:j > i
 ·rw [if_pos hj,if_pos hj]; exact ⟨_,rfl⟩
 ·rw [if_neg hj,if_neg hj]; exact ⟨_,rfl⟩
theorem call_min2 (hc:X.calm=true):CallR X (.builtin "min") (fun xs H Q=>∃ i j,xs=[.int i,.int j]∧Q (.int (if j < i then j else i)) H):=by
 intro pins s σ H xs us Q I r h
 obtain ⟨i,j,rfl,q⟩:=h
 obtain ⟨u,w',rfl,⟨t,rfl⟩,⟨t',rfl⟩⟩:=vals2 r
 refine min_two_ints (I.ok.hd hc) fun h' tk k=>⟨_,H,I.kept k,?_,q⟩
 by_cases hj:j < i
 ·rw [if_pos hj,if_pos hj]; exact ⟨_,rfl⟩
 ·rw [if_neg hj,if_neg hj]; exact ⟨_,rfl⟩
theorem call_int1:CallR X (.type "int") (fun xs H Q=>(∃ i,xs=[.int i]∧Q (.int i) H) ∨ ∃ k,xs=[.bl k]∧Q (.int (if k then 1 else 0)) H):=by
 intro pins s σ H xs us Q I r h
 rcases h with ⟨i,rfl,q⟩ | ⟨k,rfl,q⟩
 ·obtain ⟨u,rfl,t,rfl⟩:=vals1 r
  exact call_int_int ⟨.int i,H,I,⟨_,rfl⟩,q⟩
 ·obtain ⟨u,rfl,r1⟩:=vals1 r
  cases r1
  exact call_int_bool ⟨.int (if k then 1 else 0),H,I.tok _,⟨_,rfl⟩,q⟩
theorem call_str_int:CallR X (.type "str") (fun xs H Q=>∃ i,xs=[.int i]∧i.natAbs.log2 < 1920∧Q (.str (toString i)) H):=by
 intro pins s σ H xs us Q I r h
 obtain ⟨i,rfl,hz,q⟩:=h
 obtain ⟨u,rfl,t,rfl⟩:=vals1 r
 exact PySem.P.str_of_int hz ⟨.str _,H,I.tok _,⟨_,rfl⟩,q⟩
theorem call_ord:CallR X (.builtin "ord") (fun xs H Q=>∃ x,xs=[.str x]∧x.length=1∧Q (.int (x.cps.getD 0 0:Nat)) H):=by
 intro pins s σ H xs us Q I r h
 obtain ⟨x,rfl,hz,q⟩:=h
 obtain ⟨u,rfl,t,rfl⟩:=vals1 r
 exact ord_of_one hz ⟨.int _,H,I.tok _,⟨_,rfl⟩,q⟩
noncomputable def LenV (K:PySem.W.Frag) (x:V) (H:Hp) (n:Nat):Prop :=
 match x with
 | .str y=>y.length≤sizeLine∧n=y.length
 | .byt y=>y.size≤sizeLine∧n=y.size
 | .ref p=>(∃ xs,SqL K H p xs∧n=xs.length) ∨ ∃ xs,SqT K H p xs∧n=xs.length
 | _=>False
theorem call_len:CallR X (.builtin "len") (fun xs H Q=>∃ x n,xs=[x]∧LenV X.K x H n∧Q (.int n) H):=by
 intro pins s σ H xs us Q I r h
 obtain ⟨x,n,rfl,e,q⟩:=h
 obtain ⟨u,rfl,rx⟩:=vals1 r
 have hl:=line63
 have hs:sizeLine=16777216:=sizeLine_eq
 cases x with
 | str y =>
  obtain ⟨t,rfl⟩:=rx
  obtain ⟨hy,e'⟩:y.length≤sizeLine∧n=y.length:=e
  subst e'
  exact len_str (by omega) ⟨.int _,H,I.tok _,⟨_,rfl⟩,q⟩
 | byt y =>
  obtain ⟨t,rfl⟩:=rx
  obtain ⟨hy,e'⟩:y.size≤sizeLine∧n=y.size:=e
  subst e'
  exact PySem.W.len_bytes (by omega) ⟨.int _,H,I.tok _,⟨_,rfl⟩,q⟩
 | ref p =>
  cases rx
  have e':(∃ xs,SqL X.K H p xs∧n=xs.length) ∨ ∃ xs,SqT X.K H p xs∧n=xs.length:=e
  rcases e' with ⟨xs,hx,e'⟩ | ⟨xs,hx,e'⟩
  ·subst e'
   obtain ⟨its,r',pl,hz⟩:=I.list hx
   have hlen:=r'.length
   exact Calls.call_len_list pl.isList (by simp only [List.size_toArray]; omega) ⟨.int xs.length,H,I.tok _,⟨_,by simp only [List.size_toArray]; rw [hlen]⟩,q⟩
  ·subst e'
   obtain ⟨its,r',pl,hz⟩:=I.tuple hx
   have hlen:=r'.length
   exact len_tuple pl (by simp only [List.size_toArray]; omega) ⟨.int xs.length,H,I.tok _,⟨_,by simp only [List.size_toArray]; rw [hlen]⟩,q⟩
 | _=>exact (show False from e).elim
end
end L2
namespace L2
open PySem PySem.Spec PyProof.Rows
section
variable {prog:Program} {w:World} {A:Around} {E:Value→Shared→Prop} {s:Shared} {K:PySem.W.Frag} {x dx C f:Addr} {mA:Str→Option Value} {name:Str} {v:Value}
end
theorem RelO.some_of {v:V} {o:Option Value} (r:RelO (some v) o):∃ u,o=some u∧RelV v u:=by
 cases o with
 | none=>exact (show False from r).elim
 | some u=>exact ⟨u,rfl,r⟩
section
variable {P:Program} {w:World} {H H':Hp} {h h':Heap} {a C dx:Addr} {fs fs':List (Str × V)}
end
structure Cls (K:PySem.W.Frag) (C:Addr):Prop where
 pg:PySem.W.plainGet K C Str.empty=true
 hd:PySem.W.hasDictIn K C=true
 po:PySem.W.plainOver K C=true
 sa:PySem.W.findIn K (.ref C) "__setattr__"=some (some (.builtin "object.__setattr__"))
noncomputable def NoAttr (K:PySem.W.Frag) (C:Addr) (f:Str):Prop:=PySem.W.findIn K (.ref C) f=some none
structure Meth (K:PySem.W.Frag) (C:Addr) (m:Str) (f:Addr):Prop where
 at_:PySem.W.findIn K (.ref C) m=some (some (.ref f))
 fn:PySem.W.isFn K (.ref f)=true
 kp:PySem.W.keepIn K (.ref f)=true
section
variable {X:Cx} {pins:List (Addr × Obj)} {σ:St} {H:Hp} {s:Shared} {a C dx:Addr} {fs:List (Str × V)} {f:Str} {v:V} {A:Around} {E:Value→Shared→Prop}
end
section
variable {X:Cx} {o e value:Expr} {f:Str} {pos pos' tpos:Pos} {ta tv:TE}
end
section
variable {X:Cx} {pins:List (Addr × Obj)} {σ:St} {H:Hp} {s:Shared} {A:Around} {E:Value→Shared→Prop} {Q:Value→Shared→Prop} {c:Value} {b:Bool}
end
end L2
namespace L2
open PySem PySem.Spec PyProof.Rows
structure Room (k:Nat) (A:Around):Prop where
 hd:A.handled=none
 dp:A.depth+3 * k+5 < recursionLimit
 un:A.units+16 * k+200 < cLine
theorem Room.mono {j k:Nat} {A:Around} (r:Room k A) (h:j≤k):Room j A:=⟨r.hd,by have:=r.dp; omega,by have:=r.un; omega⟩
theorem Room.deeper {k:Nat} {A:Around} (r:Room (k+1) A) (env:Env):Room k (A.deeper env) :=
 ⟨r.hd,by have:=r.dp; show A.depth+1+3 * k+5 < _; omega,by have:=r.un; show A.units+3+16 * k+200 < _; omega⟩
theorem Room.depth {k:Nat} {A:Around} (r:Room k A):A.depth < recursionLimit:=by have:=r.dp; omega
theorem Room.units {k:Nat} {A:Around} (r:Room k A):A.units+64 < cLine:=by have:=r.un; omega
noncomputable def tNil:TA:=fun _ H Q=>Q [] H
noncomputable def tCons (ta:TE) (tr:TA):TA:=fun σ H Q=>ta σ H fun x H1=>tr σ H1 fun xs H2=>Q (x::xs) H2
section
variable {X:Cx} {e:Expr} {es:List Expr} {te:TE} {t:TA} {pos:Pos}
theorem pa_nil:PA X [] tNil:=fun _ _ _ _ H Q I h=>Calls.spliced_nil ⟨[],H,I,.nil,h⟩
theorem pa_cons (ha:PE X e te) (hr:PA X es t) (hs:starEach (e::es) X.env=(false,eval e X.env)::starEach es X.env:=by rfl):PA X (e::es) (tCons te t):=by
 intro pos pins s σ H Q I h
 rw [hs]
 show wpAny _ _ (spliced ((false,eval e X.env)::backTo pos (starEach es X.env))) _ _ s
 refine Calls.spliced_cons (thn (ha pins s σ H _ I h) fun u s1 ⟨x,H1,I1,r1,q1⟩=>?_)
 exact thn (hr pos pins s1 σ H1 _ I1 q1) fun us s2 ⟨xs,H2,I2,r2,q2⟩=>⟨x::xs,H2,I2,.cons r1 r2,q2⟩
noncomputable def tTup (t:TA):TE:=fun σ H Q=>t σ H fun xs H1=>xs.length≤sizeLine∧∀ p,H1 p=none→Q (.ref p) (upd H1 p (.tup xs))
noncomputable def tLst (t:TA):TE:=fun σ H Q=>t σ H fun xs H1=>xs.length≤sizeLine∧∀ p,H1 p=none→Q (.ref p) (upd H1 p (.lst xs))
theorem pe_tup {x1} (h:PA X es t):PE X (.Tuple es x1 pos) (tTup t):=by
 intro pins s σ H Q I hq
 refine wpAny_Tuple_spliced (thn (h pos pins s σ H _ I hq) fun us s1 ⟨xs,H1,I1,r,z,q⟩=>⟨by rw [← r.length]; exact z,?_⟩)
 have hf:H1 s1.heap.objs.size=none:=I1.hok.fresh (Nat.le_refl _)
 refine ⟨.ref s1.heap.objs.size,upd H1 s1.heap.objs.size (.tup xs),I1.laid (t':=s1.toks) (fun b u e=>Heap.get?_push_of_some _ e) (Nat.le_refl _) ?_,rfl,q _ hf⟩
 exact ⟨z,us,r,⟨_,Heap.get?_push_size _ rfl,rfl,_,rfl⟩⟩
theorem pe_lst (h:PA X es t):PE X (.List es pos) (tLst t):=by
 intro pins s σ H Q I hq
 refine wpAny_List_spliced (thn (h pos pins s σ H _ I hq) fun us s1 ⟨xs,H1,I1,r,z,q⟩=>⟨by rw [← r.length]; exact z,?_⟩)
 have hf:H1 s1.heap.objs.size=none:=I1.hok.fresh (Nat.le_refl _)
 refine ⟨.ref s1.heap.objs.size,upd H1 s1.heap.objs.size (.lst xs),I1.laid (t':=s1.toks) (fun b u e=>Heap.get?_push_of_some _ e) (Nat.le_refl _) ?_,rfl,q _ hf⟩
 exact ⟨z,us,0,r,Heap.get?_push_size _ rfl⟩
end
noncomputable abbrev Sp:=List V→Hp→VK→XK→Prop
noncomputable abbrev CXT:=List Env→Hp→Shared→XK→Value→Shared→Prop
structure Env0 (P:Program) (w:World) (K:PySem.W.Frag) (mg:Str→Option Value) (base:Heap) (A:Around) (outer:List Env) (s:Shared) (H:Hp):Prop where
 frames:A.frames=some outer
 mod:Mod K mg base
 bs:∀ b o,base.get? b=some o→s.heap.get? b=some o∧H b=none
 bsz:base.objs.size≤s.heap.objs.size
 funs:s.heap.FunFrames base outer
 frf:∀ b ∈ frs outer,H b=none
 hok:HOk P w H s.heap
 bare:AllBare s.gens
noncomputable def CE (outer:List Env) (P:Program) (w:World) (H:Hp) (s:Shared) (Q:VK) (u:Value) (s':Shared):Prop :=
 ∃ v H',s'.os=s.os∧AllBare s'.gens∧Un (frs outer) [] H H' s.heap s'.heap∧HOk P w H' s'.heap∧RelV v u∧Q v H'
noncomputable def CR (CX:CXT) (outer:List Env) (P:Program) (w:World) (H:Hp) (s:Shared) (Q:VK) (E:XK) (r:Result) (s':Shared):Prop :=
 match r with
 | .ok (.ret u)=>CE outer P w H s Q u s'
 | .ok _=>False
 | .error e=>CX outer H s E e s'
structure FnOk (P:Program) (w:World) (K:PySem.W.Frag) (mg:Str→Option Value) (base:Heap) (CX:CXT) (k:Nat) (f:Addr) (fd:FuncData) (ps:List Str) (sp:Sp):Prop where
 len:∀ vs H Q E,sp vs H Q E→vs.length=ps.length
 run:∀ (A:Around) (outer:List Env) (s:Shared) (H:Hp) (args:Args) (us:List Value) (vs:List V) (Q:VK) (E:XK),Room k A→Env0 P w K mg base A outer s H→BindsTo s fd args (ps.zip us)→Vals vs us→sp vs H Q E →
  codeAny (model P w) A (.call (.ref f) args) (CR CX outer P w H s Q E) s
section
variable {X:Cx} {pins:List (Addr × Obj)} {σ:St} {H:Hp} {s s':Shared}
theorem Inv.env0 (I:Inv X pins σ H s):Env0 X.prog X.w X.K X.mg X.base X.A X.stack s H :=
 ⟨I.ok.frames,I.ok.mod,I.bs,Nat.le_trans I.ok.bsz I.sz,I.stack,I.stkFree,I.hok,I.bare⟩
theorem Inv.after {Q:VK} {u:Value} (I:Inv X pins σ H s) (h:CE X.stack X.prog X.w H s Q u s'):EP X pins σ Q u s':=by
 obtain ⟨v,H',os,bare,un,hok,r,q⟩:=h
 obtain ⟨hh,g,d,t,os'⟩:=s'
 obtain rfl:os'=s.os:=os
 exact ⟨v,H',I.call (h':=hh) (g':=g) (d':=d) (t':=t) (ch:=[]) un hok bare (fun b z=>absurd z (by simp)),r,q⟩
end
noncomputable def Binds (K:PySem.W.Frag) (fd:FuncData) (ps:List Str) (ds:List Value):Prop :=
 ∀ (s:Shared) (us:List Value),K.In s.heap→(us++ds).length=ps.length→BindsTo s fd ⟨us,[]⟩ (ps.zip (us++ds))
theorem Binds.all {K:PySem.W.Frag} {fd:FuncData} {ps:List Str} (h:∀ us:List Value,us.length=ps.length→bindArgs fd ⟨us,[]⟩=pure (ps.zip us)):Binds K fd ps []:=fun s us _ hl=>by
 rw [List.append_nil] at hl ⊢
 exact .of_eq (h us hl)
section
variable {X:Cx} {CX:CXT} {k:Nat} {f C:Addr} {fd:FuncData} {ps:List Str} {sp:Sp} {dvs:List V} {ds:List Value} {E:XK} {x m:Str} {p pos apos:Pos} {e o:Expr} {es:List Expr} {ta:TE} {t:TA}
structure Mk (K:PySem.W.Frag) (C f:Addr):Prop where
 makes:PySem.W.makesIn K C=true
 init:PySem.W.findIn K (.ref C) "__init__"=some (some (.ref f))
 fn:PySem.W.isFn K (.ref f)=true
 kp:PySem.W.keepIn K (.ref C)=true
end
section
variable {X:Cx} {CX:CXT} {k:Nat} {f C:Addr} {fd:FuncData} {ps ks:List Str} {sp:Sp} {E:XK} {x m:Str} {p pos apos kpos:Pos} {e o:Expr} {es:List Expr} {kws:List Keyword} {te ta:TE} {t tk:TA} {nm:Option Str}
variable {g:List Value→List Value→List Value} {gV:List V→List V→List V}
end
structure FnScope (N P:List Str) (sc:Scope):Prop where
 kind:sc.kind=.function
 co:sc.isCoroutine=false
 gen:sc.isGenerator=false
 nd:N.Nodup
 pre:N.take P.length=P
 par:∀ x ∈ P,sc.names.lookup x=some .local ∨ sc.names.lookup x=some .cell
 nofree:∀ y ∈ sc.names,y.2 ≠ .free
theorem bindL_out {kindOf:Str→Option NameKind} {x:Str}:∀ {binds:List (Str × Value)} {m:Str→Option Value},(∀ v,(x,v) ∉ binds)→bindL kindOf binds m x=m x
 | [],_,_=>rfl
 | (n,v)::r,m,h=>by
  unfold bindL
  rw [bindL_out fun w hw=>h w (List.mem_cons_of_mem _ hw)]
  split
  ·have:x ≠ n:=by rintro rfl; exact h v List.mem_cons_self
   simp [this]
  ·rfl
theorem bindC_out {kindOf:Str→Option NameKind} {x:Str}:∀ {binds:List (Str × Value)} {m:Str→Option Value},(∀ v,(x,v) ∉ binds)→bindC kindOf binds m x=m x
 | [],_,_=>rfl
 | (n,v)::r,m,h=>by
  unfold bindC
  rw [bindC_out fun w hw=>h w (List.mem_cons_of_mem _ hw)]
  split
  ·rfl
  ·have:x ≠ n:=by rintro rfl; exact h v List.mem_cons_self
   simp [this]
theorem bindL_get {kindOf : Str → Option NameKind} {x : Str} {v : Value} : ∀ {P : List Str} {vs : List Value} {i : Nat} {m : Str → Option Value}, P.Nodup → P[i]? = some x → vs[i]? = some v → kindOf x = some .local →
    bindL kindOf (P.zip vs) m x = some v
  | [], _, _, _, _, h, _, _ => by simp at h
  | _ :: _, [], _, _, _, _, h, _ => by simp at h
  | p :: P, w :: vs, 0, m, nd, h1, h2, hk => by
    simp at h1 h2; subst h1; subst h2
    show bindL kindOf ((p, w) :: P.zip vs) m p = _
    unfold bindL
    rw [bindL_out fun v hv => (List.nodup_cons.mp nd).1 (List.of_mem_zip hv).1, if_pos hk]
    simp
  | p :: P, w :: vs, i + 1, m, nd, h1, h2, hk => by
    show bindL kindOf ((p, w) :: P.zip vs) m x = _
    unfold bindL
    exact bindL_get (i := i) (List.nodup_cons.mp nd).2 (by simpa using h1) (by simpa using h2) hk
theorem bindC_get {kindOf : Str → Option NameKind} {x : Str} {v : Value} : ∀ {P : List Str} {vs : List Value} {i : Nat} {m : Str → Option Value}, P.Nodup → P[i]? = some x → vs[i]? = some v → kindOf x ≠ some .local →
    bindC kindOf (P.zip vs) m x = some v
  | [], _, _, _, _, h, _, _ => by simp at h
  | _ :: _, [], _, _, _, _, h, _ => by simp at h
  | p :: P, w :: vs, 0, m, nd, h1, h2, hk => by
    simp at h1 h2; subst h1; subst h2
    show bindC kindOf ((p, w) :: P.zip vs) m p = _
    unfold bindC
    rw [bindC_out fun v hv => (List.nodup_cons.mp nd).1 (List.of_mem_zip hv).1, if_neg hk]
    simp
  | p :: P, w :: vs, i + 1, m, nd, h1, h2, hk => by
    show bindC kindOf ((p, w) :: P.zip vs) m x = _
    unfold bindC
    exact bindC_get (i := i) (List.nodup_cons.mp nd).2 (by simpa using h1) (by simpa using h2) hk
noncomputable def start (N:List Str) (vs:List V):St:=vs.map some++List.replicate (N.length - vs.length) none
noncomputable def cxOf (CX:CXT) (P:Program) (w:World) (K:PySem.W.Frag) (mg:Str→Option Value) (base:Heap) (N:List Str) (qual:Str) (scope:Scope) (f:Addr) (cd:Value) (A:Around) (outer:List Env) (s:Shared) (H:Hp) (E:XK):Cx where
 prog:=P
 w:=w
 K:=K
 mg:=mg
 base:=base
 A:=A.deeper (envOfC qual scope s.heap.objs.size f cd)
 N:=N
 s₀:=s
 H₀:=H
 env:=envOfC qual scope s.heap.objs.size f cd
 outer:=outer
 stack:=envOfC qual scope s.heap.objs.size f cd::outer
 ex:=[]
 calm:=true
 fn:=fun _=>true
 pn:=[]
 xe:=fun e s'=>wpAny (model P w) (A.deeper (envOfC qual scope s.heap.objs.size f cd)) (leaving (envOfC qual scope s.heap.objs.size f cd) e) (fun _ s''=>CX outer H s E e s'') (fun e' s''=>CX outer H s E e' s'') s'
theorem cell_has {sc:Scope} {n:Nat} {x:Str} (h:sc.names.lookup x=some .cell):∃ c,(cellsFrom n sc.names []).lookup x=some c:=by
 have q:=PySem.W.cellsFrom_some sc.names n [] (.inl h)
 exact Option.isSome_iff_exists.mp q
theorem inv_start {CX : CXT} {P : Program} {w : World} {K : PySem.W.Frag} {mg : Str → Option Value} {base : Heap} {N ps : List Str} {qual : Str} {scope : Scope} {f : Addr} {cd : Value} {A : Around} {outer : List Env} {s s1 : Shared} {H : Hp} {E : XK} {us : List Value} {vs : List V}
    (S : FnScope N ps scope) (hd : A.handled = none) (e0 : Env0 P w K mg base A outer s H) (hl : vs.length = ps.length) (r : Vals vs us)
    (x : InCallC s s.heap.objs.size (bindL (envOfC qual scope s.heap.objs.size f cd).kindOf (ps.zip us) fun _ => none) (cellsFrom (s.heap.objs.size + 1) scope.names []) (bindC (envOfC qual scope s.heap.objs.size f cd).kindOf (ps.zip us) fun _ => none) s1) :
    Inv (cxOf CX P w K mg base N qual scope f cd A outer s H E) [] (start N vs) H s1 := by
  have hpl : ps.length ≤ N.length := by have := congrArg List.length S.pre; rw [List.length_take] at this; omega
  obtain ⟨h1, tk, rfl, hk⟩ := x.done
  have noA : ∀ b : Addr, b ∉ (cxOf CX P w K mg base N qual scope f cd A outer s H E).ex := fun b z => absurd (show b ∈ ([] : List Addr) from z) (by simp)
  refine ⟨⟨e0.mod, S.kind, rfl, rfl, Nat.le_refl _, fun y z c h1 h2 => ?_, fun y hy => ?_, fun y c _ h => ?_, fun _ => hd, Around.frames_deeper e0.frames, .inr ⟨rfl, rfl⟩, fun b z => absurd z (noA b), e0.bs, e0.bsz, fun b _ _ => noA b, fun b z => absurd z (noA b), e0.funs, e0.frf⟩,
    rfl, e0.bare, Un.kept hk, ⟨_, x.toInCall.ns, fun i y v h1 h2 h3 => ?_⟩, fun y c h => ⟨_, x.cell y c h⟩, e0.hok.fresh (Nat.le_refl _), fun y c h => ?_, fun p hp => absurd (show p ∈ ([] : List (Addr × Obj)) from hp) (by simp), e0.hok.kept hk, ?_⟩
  · exact name_of_addr x.apart (PySem.mem_of_lookup h1) (PySem.mem_of_lookup h2)
  · have hy : scope.names.lookup y = some .cell ∨ scope.names.lookup y = some .free := hy
    rcases hy with hy | hy
    · exact cell_has hy
    · exact absurd rfl (S.nofree _ (PySem.mem_of_lookup hy))
  · exact Nat.le_of_lt (x.above y c (PySem.mem_of_lookup h))
  · have hi : i < vs.length := by
      unfold start at h2
      by_cases hi : i < vs.length
      · exact hi
      · rw [List.getElem?_append_right (by simpa using hi)] at h2
        rw [List.getElem?_replicate] at h2
        split at h2 <;> cases h2
    have ha : vs[i]? = some v := by
      unfold start at h2
      rw [List.getElem?_append_left (by simpa using hi), List.getElem?_map] at h2
      cases e : vs[i]? with
      | none => rw [e] at h2; cases h2
      | some a => rw [e] at h2; cases h2; rfl
    obtain ⟨u, hu, rv⟩ := r.get ha
    have hp : ps[i]? = some y := by
      rw [← S.pre, List.getElem?_take_of_lt (by omega)]; exact h1
    have ndP : ps.Nodup := by rw [← S.pre]; exact S.nd.sublist (List.take_sublist _ _)
    refine ⟨u, rv, ?_⟩
    rcases S.par y (List.mem_of_getElem? hp) with k | k
    · exact .inl ⟨k, bindL_get ndP hp hu k⟩
    · obtain ⟨c, e⟩ := cell_has (n := s.heap.objs.size + 1) k
      refine .inr ⟨.inl k, c, e, ?_⟩
      have q := x.cell y c e
      rw [bindC_get ndP hp hu (by show scope.names.lookup y ≠ _; rw [k]; decide)] at q
      exact q
  · exact e0.hok.fresh (Nat.le_of_lt (x.above y c (PySem.mem_of_lookup h)))
  · unfold start
    show _ = N.length
    rw [List.length_append, List.length_map, List.length_replicate]
    omega
theorem fn_of {CX : CXT} {P : Program} {w : World} {K : PySem.W.Frag} {mg : Str → Option Value} {base : Heap} {k : Nat} {f : Addr} {name qual : Str} {params : Arguments} {body : List Stmt} {scope : Scope} {dV kV doc pm cdv ct oc : Value} {an od : Option Addr}
    {osl : Array (Option Value)} {N ps : List Str} {sp : Sp} (lk : K.lookup f = some ⟨oc, od, .func (PySem.W.fnOf name qual params body scope dV kV doc pm an cdv ct), osl⟩) (hcd : PySem.W.codeIn K cdv qual = true) (S : FnScope N ps scope)
    (len : ∀ vs H Q E, sp vs H Q E → vs.length = ps.length)
    (hbody : ∀ (A : Around) (outer : List Env) (s : Shared) (H : Hp) (vs : List V) (Q : VK) (E : XK), Room k (A.deeper (envOfC qual scope s.heap.objs.size f cdv)) → sp vs H Q E →
      ∃ t, PSs (cxOf CX P w K mg base N qual scope f cdv A outer s H E) body t ∧ t { nx := fun _ H' => Q .non H', rt := Q } (start N vs) H) :
    FnOk P w K mg base CX (k + 1) f (PySem.W.fnOf name qual params body scope dV kV doc pm an cdv ct) ps sp := by
  refine ⟨len, fun A outer s H args us vs Q E hr e0 hb r hsp => ?_⟩
  have hl := len _ _ _ _ hsp
  have KX : K.In s.heap := e0.mod.kin.keeps fun b o e => (e0.bs b o e).1
  have lim : s.heap.NoLimit := e0.mod.nolimit.keeps fun b o e => (e0.bs b o e).1
  have hkind : ∀ y ∈ ps.zip us, scope.names.lookup y.1 = some .local ∨ (scope.names.lookup y.1 = some .cell ∧ ((cellsFrom (s.heap.objs.size + 1) scope.names []).lookup y.1).isSome = true) := fun ⟨n, v⟩ hy => by
    rcases S.par n (List.of_mem_zip hy).1 with q | q
    · exact .inl q
    · exact .inr ⟨q, PySem.W.cellsFrom_some _ _ _ (.inl q)⟩
  refine codeAny_call_function hr.depth (KX _ _ lk) rfl S.co S.gen rfl (PySem.W.codeRec_of KX hcd) (hb _ _ _ _ ?_)
  refine wpAny_newFunctionEnv_cells S.kind hkind fun env he s1 x => ?_
  subst he
  refine ⟨lim.keeps x.toInCall.keep, codeAny_func ?_⟩
  obtain ⟨t, ht, hq⟩ := hbody A outer s H vs Q E (hr.deeper _) hsp
  have I : Inv (cxOf CX P w K mg base N qual scope f cdv A outer s H E) [] (start N vs) H s1 := inv_start S hr.hd e0 hl r x
  refine wpAny_mono (ht [] s1 (start N vs) H _ I hq) (fun fl s' hs => ?_) fun e s' hs => hs
  have fin : ∀ {σ' : St} {H' : Hp} {v : V} {u : Value}, Inv (cxOf CX P w K mg base N qual scope f cdv A outer s H E) [] σ' H' s' → RelV v u → Q v H' → CE outer P w H s Q u s' :=
    fun {σ' H' v u} J rv q => ⟨v, H', J.os, J.bare, J.base, J.hok, rv, q⟩
  cases fl with
  | ret u =>
    obtain ⟨v, σ', H', J, rv, q⟩ := hs
    exact fin J rv q
  | next =>
    obtain ⟨σ', H', J, q⟩ := hs
    exact fin (v := V.non) (u := Value.none) J rfl q
  | brk =>
    obtain ⟨_, _, _, q⟩ := hs
    exact False.elim q
  | cont =>
    obtain ⟨_, _, _, q⟩ := hs
    exact False.elim q
end L2
namespace L2
open PySem PySem.Spec PyProof.Rows
section
variable {X:Cx} {x:Str} {p pos:Pos} {e:Expr} {es:List Expr} {t:TA} {id T:String} {r:List V→Hp→VK→Prop}
noncomputable def tCB (r:List V→Hp→VK→Prop) (t:TA):TE:=fun σ H Q=>t σ H fun vs H1=>r vs H1 Q
theorem pe_callB (hc : CallR X (.builtin id) r) (hg : Gl X x) (hm : X.mg x = none) (hv : bootBuiltins x = some (.builtin id)) (ha : PA X (e :: es) t) (hn : x ≠ "__name__" := by decide) (hdb : (x == ("__debug__" : Str)) = false := by decide)
    (he : starEach (e :: es) X.env = (false, eval e X.env) :: starEach es X.env := by rfl) (hpl : (backTo pos (starEach es X.env)).any (·.1) = false := by rfl) : PE X (.Call (.Name x p) (e :: es) [] pos) (tCB r t) := by
  intro pins s σ H Q I h
  refine wpAny_Call_Name_kw (ld_blt I hg hm hv ?_ hn hdb)
  exact PyProof.Rows.callWith_builtin1 (thn (ha pos pins s σ H _ I h) fun us s1 ⟨vs, H1, I1, r1, q1⟩ => hc pins s1 σ H1 vs us Q I1 r1 q1) he hpl
theorem pe_callTy (hc : CallR X (.type T) r) (hg : Gl X x) (hm : X.mg x = none) (hv : bootBuiltins x = some (.type T)) (ha : PA X (e :: es) t) (hn : x ≠ "__name__" := by decide) (hdb : (x == ("__debug__" : Str)) = false := by decide)
    (he : starEach (e :: es) X.env = (false, eval e X.env) :: starEach es X.env := by rfl) (hpl : (backTo pos (starEach es X.env)).any (·.1) = false := by rfl) : PE X (.Call (.Name x p) (e :: es) [] pos) (tCB r t) := by
  intro pins s σ H Q I h
  refine wpAny_Call_Name_kw (ld_blt I hg hm hv ?_ hn hdb)
  exact PyProof.Rows.callWith_type1 (thn (ha pos pins s σ H _ I h) fun us s1 ⟨vs, H1, I1, r1, q1⟩ => hc pins s1 σ H1 vs us Q I1 r1 q1) he hpl
end
end L2
namespace HT
open PySem PyProof.Rows
section
open PySem.SeqAt
open PySem.AutoSeq1 (wpAny_loadPart')
open PySem.MeetsSeq PySem.MeetsSeq2 PySem.MeetsSeq3
end
section
variable {prog:Program} {w:World} {A:Around} {E:Value→Shared→Prop} {s:Shared}
theorem cat_tup {t b : Addr} {vs ws : List Value} {Q : Value → Shared → Prop} (ht : IsTup s.heap t vs.toArray) (hb : IsTup s.heap b ws.toArray) (hv : vs ≠ [])
    (h1 : ws = [] → Q (.ref t) s) (h2 : ws ≠ [] → Q (.ref s.heap.objs.size) { s with heap := s.heap.push { cls := .type "tuple", data := .seq (vs ++ ws).toArray } })
    (hsz : vs.length + ws.length ≤ sizeLine) : wpAny (model prog w) A (binaryOp .Add (.ref t) (.ref b)) Q E s := by
  obtain ⟨⟨cls, dd, data, sl⟩, ho, hc, n, hd⟩ := id ht
  obtain ⟨⟨cls2, dd2, data2, sl2⟩, ho2, hc2, n2, hd2⟩ := id hb
  simp only at hc hd hc2 hd2
  subst hc hd hc2 hd2
  have e : vs.toArray ++ ws.toArray = (vs ++ ws).toArray := by simp
  by_cases hw : ws = []
  · exact concat_meets ⟨_, ho, rfl⟩ ⟨_, ho2, rfl⟩ noFill_tuple_add seq_tuple_add PySem.F.slot_tuple_add PySem.F.entry_tuple_add (PySem.F.args_tuple_add_2 _ _)
      (tuple_addW1 t b vs.toArray ws.toArray n n2 dd dd2 sl sl2 (by simpa using hv) (by simp [hw])) ⟨ho, ho2, h1 hw⟩
  · refine concat_meets ⟨_, ho, rfl⟩ ⟨_, ho2, rfl⟩ noFill_tuple_add seq_tuple_add PySem.F.slot_tuple_add PySem.F.entry_tuple_add (PySem.F.args_tuple_add_2 _ _)
      (tuple_addW2 t b vs.toArray ws.toArray n n2 dd dd2 sl sl2 (by simpa using hv) (by simpa using hw) (by rw [List.size_toArray, List.size_toArray]; exact hsz)) ⟨ho, ho2, ?_⟩
    rw [e]
    exact h2 hw
noncomputable def sIx (n d:Nat):Option Int→Nat
 | none=>d
 | some v=>if v < 0 then (v+(n:Int)).toNat else min v.toNat n
theorem sIx_le (n d:Nat) (hd:d≤n) (o:Option Int):sIx n d o≤n:=by
 cases o with
 | none=>exact hd
 | some v =>
  show (if v < 0 then (v+(n:Int)).toNat else min v.toNat n)≤n
  by_cases hv:v < 0
  ·rw [if_pos hv]; omega
  ·rw [if_neg hv]; exact Nat.min_le_right _ _
theorem clip_eq (v:Int) (n d:Nat):(if v < 0 then max (v+(n:Int)) 0 else min v (n:Int))=((sIx n d (some v):Nat):Int):=by
 show (if v < 0 then max (v+(n:Int)) 0 else min v (n:Int))=(((if v < 0 then (v+(n:Int)).toNat else min v.toNat n):Nat):Int)
 by_cases hv:v < 0
 ·simp only [if_pos hv]; omega
 ·simp only [if_neg hv]; omega
theorem adjust_gen (lo hi:Option Int) (n:Nat):Builtin.Slice.sliceAdjust lo hi 1 (n:Int)=(((sIx n 0 lo:Nat):Int),((sIx n n hi:Nat):Int)):=by
 have h1:¬ ((1:Int) < 0):=by omega
 unfold Builtin.Slice.sliceAdjust
 simp only [h1,if_false]
 refine Prod.ext ?_ ?_
 ·cases lo with
  | none=>rfl
  | some v=>exact clip_eq v n 0
 ·cases hi with
  | none=>rfl
  | some v=>exact clip_eq v n n
theorem places_gen (i j:Nat):Builtin.Slice.slicePlaces (i:Int) (j:Int) 1=j - i:=by
 unfold Builtin.Slice.slicePlaces
 have h1:(1:Int) > 0:=by omega
 simp only [h1,if_true,Int.ediv_one]
 split <;> omega
theorem slicePart_ {v:Value} {o:Option Int} {Q:Option Int→Shared→Prop} (p:IsPart v o) (h:Q o s):wpAny (model prog w) A (Builtin.Slice.slicePartIndex v) Q E s:=by
 cases p with
 | none=>exact slicePart_none h
 | int i t=>exact slicePart_int h
theorem sliceApplied_gen {sl : Addr} {vl vu : Value} {lo hi : Option Int} {n : Nat} {Q : Int × Int × Nat → Shared → Prop} (hs : s.heap.IsSliceOf sl vl vu .none) (pl : IsPart vl lo) (pu : IsPart vu hi)
    (h : Q (((sIx n 0 lo : Nat) : Int), 1, sIx n n hi - sIx n 0 lo) s) : wpAny (model prog w) A (Builtin.Slice.sliceApplied (.ref sl) (pure (n : Int))) Q E s := by
  obtain ⟨os, hos, hcs, hds⟩ := id hs
  unfold Builtin.Slice.sliceApplied Builtin.Slice.sliceFields
  refine wpAny_bind (wpAny_bind (wpAny_field hos hds (x := vl) rfl (wpAny_bind (wpAny_field hos hds (x := vu) rfl (wpAny_bind (wpAny_field hos hds (x := .none) rfl (wpAny_pure ?_)))))))
  refine wpAny_bind (slicePart_none ?_)
  show wpAny _ _ (if ((1 : Int) == 0) = true then _ else _) _ _ s
  rw [if_neg (by decide)]
  refine wpAny_bind (slicePart_ pl (wpAny_bind (slicePart_ pu (wpAny_bind (wpAny_pure ?_)))))
  show wpAny _ _ (match Builtin.Slice.sliceAdjust lo hi 1 (n : Int) with | (lo, hi) => pure (lo, (1 : Int), Builtin.Slice.slicePlaces lo hi 1)) _ _ s
  rw [adjust_gen lo hi n]
  show wpAny _ _ (pure (((sIx n 0 lo : Nat) : Int), (1 : Int), Builtin.Slice.slicePlaces ((sIx n 0 lo : Nat) : Int) ((sIx n n hi : Nat) : Int) 1)) _ _ s
  rw [places_gen]
  exact wpAny_pure h
theorem pick_gen (xs:Array Value) (i k:Nat):((List.range k).filterMap fun (m:Nat)=>xs[((i:Int)+(m:Int) * 1).toNat]?).toArray=((xs.toList.drop i).take k).toArray:=by
 have e:(fun (m:Nat)=>xs[((i:Int)+(m:Int) * 1).toNat]?)=fun m=>xs[i+m]?:=by
  funext m
  have:((i:Int)+(m:Int) * 1).toNat=i+m:=by omega
  rw [this]
 rw [e]
 have:=pick_run xs i k
 rw [List.filterMap_map] at this
 have e2:((fun x=>xs[x]?) ∘ fun x=>i+x)=fun m=>xs[i+m]?:=rfl
 rw [e2] at this
 rw [this]
theorem getItem_tuple_cut {t sl : Addr} {items : Array Value} {vl vu : Value} {lo hi : Option Int} {Q : Value → Shared → Prop} (ht : IsTup s.heap t items) (hs : s.heap.IsSliceOf sl vl vu .none) (pl : IsPart vl lo) (pu : IsPart vu hi)
    (hw : ¬ (sIx items.size 0 lo = 0 ∧ sIx items.size items.size hi = items.size))
    (h : Q (.ref s.heap.objs.size) { s with heap := s.heap.push { cls := .type "tuple", data := .seq ((items.toList.drop (sIx items.size 0 lo)).take (sIx items.size items.size hi - sIx items.size 0 lo)).toArray } })
    (hsz : items.size ≤ sizeLine) : wpAny (model prog w) A (getItem (.ref t) (.ref sl)) Q E s := by
  have htake : sizeOk (.seq ((items.toList.drop (sIx items.size 0 lo)).take (sIx items.size items.size hi - sIx items.size 0 lo)).toArray) := by
    show ((items.toList.drop (sIx items.size 0 lo)).take (sIx items.size items.size hi - sIx items.size 0 lo)).toArray.size ≤ sizeLine
    rw [List.size_toArray, List.length_take, List.length_drop, Array.length_toList]
    omega
  have hj : sIx items.size items.size hi ≤ items.size := sIx_le _ _ (Nat.le_refl _) hi
  obtain ⟨os, hos, hcs, hds⟩ := id hs
  have hTs : s.TypeIs (.ref sl) "slice" := ⟨os, hos, hcs⟩
  unfold getItem
  try with_reducible refine wpAny_holding ?_
  first | refine wpAny_bind (wpAny_pure ?_) | skip
  refine wpAny_bind (wpAny_sequenceKey ht.typeIs (by decide) ?_)
  refine wpAny_bind (wpAny_callSpecial?_slot (name := Str.ofString "__getitem__") ht.typeIs PyProof.Rows.slot_tuple_getitem
    (wpAny_call_entry PyProof.Rows.slot_tuple_getitem ht.typeIs entry_tuple_getitem ?_ (args_tuple_getitem _ _)))
  show wpAny _ _ (Builtin.Tuple.tupleItemsOf (.ref t) >>= _) _ _ s
  refine wpAny_bind (tupleItemsOf_ ht ?_)
  refine wpAny_bind (wpAny_typeOf hTs ?_)
  rw [if_pos (by decide)]
  refine wpAny_bind (sliceApplied_gen hs pl pu ?_)
  have hno : ¬ ((((sIx items.size 0 lo : Nat) : Int) == 0 && (1 : Int) == 1 && (sIx items.size items.size hi - sIx items.size 0 lo) == items.size) = true) := by
    intro q
    rw [Bool.and_eq_true, Bool.and_eq_true] at q
    have q1 : ((sIx items.size 0 lo : Nat) : Int) = 0 := eq_of_beq q.1.1
    have q2 : sIx items.size items.size hi - sIx items.size 0 lo = items.size := eq_of_beq q.2
    exact hw ⟨by omega, by omega⟩
  show wpAny _ _ (if (((sIx items.size 0 lo : Nat) : Int) == 0 && (1 : Int) == 1 && (sIx items.size items.size hi - sIx items.size 0 lo) == items.size) = true then _ else _) _ _ s
  rw [if_neg hno, pick_gen]
  first
    | exact wpAny_bind (m := Builtin.Tuple.tupleExact _) (wpAny_newObj_type (wpAny_pure ⟨_, rfl, wpAny_pure h⟩) htake)
    | exact wpAny_bind (m := Builtin.Tuple.tupleExact _) (wpAny_newObj_type (wpAny_bind (wpAny_pure (wpAny_pure ⟨_, rfl, wpAny_pure h⟩))) htake)
    | exact wpAny_bind (wpAny_bind (m := Builtin.Tuple.tupleExact _) (wpAny_newObj_type (wpAny_pure (wpAny_pure ⟨_, rfl, wpAny_pure h⟩)) htake))
    | exact wpAny_bind (wpAny_bind (m := Builtin.Tuple.tupleExact _) (wpAny_newObj_type (wpAny_pure ⟨_, rfl, wpAny_pure h⟩) htake))
end
end HT
namespace L2
open PySem PySem.Spec PyProof.Rows
noncomputable abbrev TO:=St→Hp→(Option Int→Hp→Prop)→Prop
noncomputable def PO (X:Cx) (e:Option Expr) (t:TO):Prop :=
 ∀ (pins:List (Addr × Obj)) (s:Shared) (σ:St) (H:Hp) (Q:Option Int→Hp→Prop),Inv X pins σ H s→t σ H Q →
  wpAny (model X.prog X.w) X.A (evalPart e X.env) (fun u s'=>∃ o H',Inv X pins σ H' s'∧IsPart u o∧Q o H') X.xe s
noncomputable def tNoPart:TO:=fun _ H Q=>Q none H
noncomputable def tPart (t:TE):TO:=fun σ H Q=>t σ H fun x H1=>∃ i,x=.int i∧Q (some i) H1
section
variable {X:Cx} {e:Expr} {te:TE} {lo hi:Option Expr} {tl th:TO} {pos p2:Pos}
theorem po_none:PO X none tNoPart:=by
 intro pins s σ H Q I h
 rw [evalPart_none]
 exact wpAny_pure ⟨none,H,I,.none,h⟩
theorem po_some (h:PE X e te):PO X (some e) (tPart te):=by
 intro pins s σ H Q I hw
 rw [evalPart_some]
 refine thn (h pins s σ H _ I hw) fun u s1 ⟨x,H1,I1,r1,q1⟩=>?_
 obtain ⟨i,rfl,q⟩:=q1
 obtain ⟨t,rfl⟩:=r1
 exact ⟨some i,H1,I1,.int i t,q⟩
noncomputable def SlR (X:Cx) (r:V→Option Int→Option Int→Hp→VK→Prop):Prop :=
 ∀ (pins:List (Addr × Obj)) (s:Shared) (σ:St) (H:Hp) (x:V) (v vl vu:Value) (lo hi:Option Int) (sl:Addr) (Q:VK),Inv X pins σ H s→RelV x v→s.heap.IsSliceOf sl vl vu .none→IsPart vl lo→IsPart vu hi→r x lo hi H Q →
  ∃ T id,typeLookup (.type T) "__getitem__"=pure (some (.builtin id))∧s.TypeIs v T∧wpAny (model X.prog X.w) X.A (getItem v (.ref sl)) (EP X pins σ Q) X.xe s
noncomputable def tSl (r:V→Option Int→Option Int→Hp→VK→Prop) (te:TE) (tl th:TO):TE:=fun σ H Q=>te σ H fun x H1=>tl σ H1 fun l H2=>th σ H2 fun u H3=>r x l u H3 Q
theorem pe_slice {r:V→Option Int→Option Int→Hp→VK→Prop} (hr:SlR X r) (he:PE X e te) (hl:PO X lo tl) (hu:PO X hi th):PE X (.Subscript e (.Slice lo hi none p2) pos) (tSl r te tl th):=by
 intro pins s σ H Q I h
 refine Subscript_ (thn (he pins s σ H _ I h) fun v s1 ⟨x,H1,I1,r1,q1⟩=>?_)
 refine wpAny_Slice (thn (hl pins s1 σ H1 _ I1 q1) fun vl s2 ⟨l,H2,I2,pl,q2⟩=>thn (hu pins s2 σ H2 _ I2 q2) fun vu s3 ⟨u,H3,I3,pu,q3⟩=>?_)
 rw [evalPart_none]
 refine wpAny_pure ?_
 have I4:Inv X pins σ H3 { s3 with heap:=s3.heap.push { cls:=.type "slice",data:=.fields #[vl,vu,.none] } }:=I3.kept (t':=s3.toks) fun b ob q=>Heap.get?_push_of_some _ q
 obtain ⟨T,id,hT,ht,hg⟩:=hr pins { s3 with heap:=s3.heap.push { cls:=.type "slice",data:=.fields #[vl,vu,.none] } } σ H3 x v vl vu l u s3.heap.objs.size Q I4 r1 (Heap.IsSliceOf.new ..) pl pu q3
 show wpAny (model X.prog X.w) X.A (subscriptTail e (.Slice lo hi none p2) v (.ref s3.heap.objs.size)) (EP X pins σ Q) X.xe { s3 with heap:=s3.heap.push { cls:=.type "slice",data:=.fields #[vl,vu,.none] } }
 exact tail_any (ops:=[.ref s3.heap.objs.size,v]) ht hT hg (by with_unfolding_all rfl)
noncomputable def cutV (xs:List V) (lo hi:Option Int):List V:=(xs.drop (HT.sIx xs.length 0 lo)).take (HT.sIx xs.length xs.length hi - HT.sIx xs.length 0 lo)
theorem cutV_length (xs:List V) (lo hi:Option Int):(cutV xs lo hi).length≤xs.length:=by
 unfold cutV
 rw [List.length_take,List.length_drop]
 omega
noncomputable def rSlT (K:PySem.W.Frag):V→Option Int→Option Int→Hp→VK→Prop:=fun x lo hi H Q=>∃ a xs,x=.ref a∧SqT K H a xs ∧
 ¬ (HT.sIx xs.length 0 lo=0∧HT.sIx xs.length xs.length hi=xs.length)∧∀ p,H p=none→Q (.ref p) (upd H p (.tup (cutV xs lo hi)))
theorem sl_tup:SlR X (rSlT X.K):=by
 intro pins s σ H x v vl vu lo hi sl Q I rx hs pl pu h
 obtain ⟨a,xs,rfl,hx,hw,q⟩:=h
 cases rx
 obtain ⟨its,r,ht,hz⟩:=I.tuple hx
 have hlen:its.toArray.size=xs.length:=by rw [List.size_toArray]; exact r.length.symm
 refine ⟨"tuple",_,PyProof.Rows.slot_tuple_getitem.lookup,ht.typeIs,?_⟩
 refine HT.getItem_tuple_cut ht hs pl pu (by rw [hlen]; exact hw) ?_ (by rw [hlen]; exact hz)
 rw [hlen]
 refine ⟨.ref s.heap.objs.size,_,I.laid (t':=s.toks) (o:=.tup (cutV xs lo hi)) (fun b ob q=>Heap.get?_push_of_some _ q) (Nat.le_refl _) ?_,rfl,q _ (I.hok.fresh (Nat.le_refl _))⟩
 exact ⟨Nat.le_trans (cutV_length xs lo hi) hz,_,(r.drop (HT.sIx xs.length 0 lo)).take (HT.sIx xs.length xs.length hi - HT.sIx xs.length 0 lo),IsTup.new _ _⟩
noncomputable def rCatT (K:PySem.W.Frag):R2:=fun x y H Q=>∃ a b xs ys,x=.ref a∧y=.ref b∧SqT K H a xs∧SqT K H b ys∧xs ≠ []∧xs.length+ys.length≤sizeLine ∧
 (ys=[]→Q (.ref a) H)∧(ys ≠ []→∀ p,H p=none→Q (.ref p) (upd H p (.tup (xs++ys))))
theorem Vals.nil_iff {xs:List V} {us:List Value} (r:Vals xs us):us=[] ↔ xs=[]:=by
 cases r with
 | nil=>simp
 | cons _ _=>simp
theorem op_catT:OpR X (binaryOp .Add) (rCatT X.K):=by
 intro pins s σ H x y v u Q I rx ry h
 obtain ⟨a,b,xs,ys,rfl,rfl,ha,hb,hx,hz,q1,q2⟩:=h
 cases rx
 cases ry
 obtain ⟨its,r1,p1,_⟩:=I.tuple ha
 obtain ⟨its2,r2,p2,_⟩:=I.tuple hb
 refine HT.cat_tup p1 p2 (fun z=>hx (r1.nil_iff.mp z)) (fun z=>⟨.ref a,H,I,rfl,q1 (r2.nil_iff.mp z)⟩) (fun z=>?_) (by rw [← r1.length,← r2.length]; exact hz)
 refine ⟨.ref s.heap.objs.size,_,I.laid (t':=s.toks) (o:=.tup (xs++ys)) (fun b ob q=>Heap.get?_push_of_some _ q) (Nat.le_refl _) ?_,rfl,q2 (fun w=>z (r2.nil_iff.mpr w)) _ (I.hok.fresh (Nat.le_refl _))⟩
 exact ⟨by rw [List.length_append]; exact hz,_,r1.append r2,IsTup.new _ _⟩
end
end L2
namespace L2
open PySem PySem.Spec PyProof.Rows
noncomputable def ixN (n:Nat) (i:Int):Option Nat:=if 0≤i then (if i < n then some i.toNat else none) else if -(n:Int)≤i then some (i+n).toNat else none
noncomputable def atI {α:Type} (xs:List α) (i:Int):Option α:=(ixN xs.length i).bind fun j=>xs[j]?
theorem ixN_seq {n:Nat} {i:Int} {j:Nat} (h:ixN n i=some j):seqIndex? i n=some j∧j < n∧-(n:Int)≤i∧i < n:=by
 unfold ixN at h
 by_cases h0:0≤i
 ·rw [if_pos h0] at h
  by_cases h1:i < n
  ·rw [if_pos h1] at h
   have e:i.toNat=j:=Option.some.inj h
   exact ⟨by rw [seqIndex_of h0 h1,e],by omega,by omega,h1⟩
  ·rw [if_neg h1] at h; cases h
 ·rw [if_neg h0] at h
  by_cases h1:-(n:Int)≤i
  ·rw [if_pos h1] at h
   have e:(i+n).toNat=j:=Option.some.inj h
   exact ⟨by rw [seqIndex_neg (by omega) h1,e],by omega,h1,by omega⟩
  ·rw [if_neg h1] at h; cases h
theorem atI_get {α:Type} {xs:List α} {i:Int} {v:α} (h:atI xs i=some v):∃ j,seqIndex? i xs.length=some j∧xs[j]?=some v∧j < xs.length∧-(xs.length:Int)≤i∧i < xs.length:=by
 unfold atI at h
 cases e:ixN xs.length i with
 | none=>rw [e] at h; cases h
 | some j =>
  rw [e] at h
  obtain ⟨h1,h2,h3,h4⟩:=ixN_seq e
  exact ⟨j,h1,h,h2,h3,h4⟩
noncomputable def PlainIx (b:Expr):Prop:=∀ o i,subscripted b false o i=operate [o,i] (getItem o i)
noncomputable def IxR (X:Cx) (r:R2):Prop :=
 ∀ (value slice:Expr) (pins:List (Addr × Obj)) (s:Shared) (σ:St) (H:Hp) (x y:V) (v u:Value) (Q:VK),Inv X pins σ H s→RelV x v→RelV y u→r x y H Q →
  subscripted slice false v u=operate [v,u] (getItem v u)→wpAny (model X.prog X.w) X.A (subscriptTail value slice v u) (EP X pins σ Q) X.xe s
noncomputable def MtR (X:Cx) (id:String) (r:V→List V→Hp→VK→Prop):Prop :=
 ∀ (pins:List (Addr × Obj)) (s:Shared) (σ:St) (H:Hp) (x:V) (xs:List V) (v:Value) (us:List Value) (Q:VK),Inv X pins σ H s→RelV x v→Vals xs us→r x xs H Q →
  wpAny (model X.prog X.w) X.A (call (.builtin id) (v::us)) (EP X pins σ Q) X.xe s
section
variable {X:Cx} {a b:Expr} {ta tb:TE} {pos:Pos}
theorem pe_ix {r:R2} (hr:IxR X r) (ha:PE X a ta) (hb:PE X b tb) (hs:PlainIx b):PE X (.Subscript a b pos) (tOp r ta tb):=by
 intro pins s σ H Q I h
 exact Subscript_ (binT ha hb I h fun v u s2 x y H2 I2 rx ry q=>hr a b pins s2 σ H2 x y v u Q I2 rx ry q (hs _ _))
noncomputable def rIxL (K:PySem.W.Frag):R2:=fun x y H Q=>∃ p xs i v,x=.ref p∧y=.int i∧SqL K H p xs∧atI xs i=some v∧Q v H
noncomputable def rIxT (K:PySem.W.Frag):R2:=fun x y H Q=>∃ p xs i v,x=.ref p∧y=.int i∧SqT K H p xs∧atI xs i=some v∧Q v H
noncomputable def rIxS:R2:=fun x y H Q=>∃ z i c,x=.str z∧y=.int i∧z.length≤sizeLine∧atI z.cps.toList i=some c∧Q (.str ⟨#[c]⟩) H
theorem ix_list:IxR X (rIxL X.K):=by
 intro value slice pins s σ H x y v u Q I rx ry h hs
 obtain ⟨p,xs,i,z,rfl,rfl,hq,he,q⟩:=h
 cases rx
 obtain ⟨t,rfl⟩:=ry
 obtain ⟨its,r,pl,hz⟩:=I.list hq
 obtain ⟨j,h1,h2,h3,h4,h5⟩:=atI_get he
 obtain ⟨w,ew,rw'⟩:=r.get h2
 have hl:=r.length
 have hn:=line63
 have fin:EP X pins σ Q w s:=⟨z,H,I,rw',q⟩
 by_cases h0:0≤i
 ·have hj:i.toNat=j:=by
   rw [seqIndex_of h0 h5] at h1
   exact Option.some.inj h1
  exact item_listR pl.isList h0 (by omega) (by rw [hj]; simpa using ew) fin hs
 ·have hj:(i+(its.toArray.size:Int)).toNat=j:=by
   rw [seqIndex_neg (by omega) h4] at h1
   rw [List.size_toArray,← hl]
   exact Option.some.inj h1
  exact subscriptTail_builtinR (x:=w) pl.isList.typeIs slot_list_getitem.lookup
   (wpAny_getItem_list_neg (Q:=fun r s'=>r=w∧EP X pins σ Q r s') pl.isList (by omega) (by rw [List.size_toArray] <;> omega) (by omega) (by rw [hj]; simpa using ew) ⟨rfl,fin⟩) hs
theorem ix_tup:IxR X (rIxT X.K):=by
 intro value slice pins s σ H x y v u Q I rx ry h hs
 obtain ⟨p,xs,i,z,rfl,rfl,hq,he,q⟩:=h
 cases rx
 obtain ⟨t,rfl⟩:=ry
 obtain ⟨its,r,pl,hz⟩:=I.tuple hq
 obtain ⟨j,h1,h2,h3,h4,h5⟩:=atI_get he
 obtain ⟨w,ew,rw'⟩:=r.get h2
 have hl:=r.length
 have hn:=line63
 have fin:EP X pins σ Q w s:=⟨z,H,I,rw',q⟩
 exact subscriptTail_builtinR (x:=w) pl.typeIs slot_tuple_getitem.lookup
  (getItem_tuple (j:=j) (Q:=fun r s'=>r=w∧EP X pins σ Q r s') pl (by omega) (by omega) (by rw [List.size_toArray,← hl]; exact h1) (by simpa using ew) ⟨rfl,fin⟩) hs
theorem ix_str:IxR X rIxS:=by
 intro value slice pins s σ H x y v u Q I rx ry h hs
 obtain ⟨z,i,c,rfl,rfl,hz,he,q⟩:=h
 obtain ⟨t,rfl⟩:=rx
 obtain ⟨t',rfl⟩:=ry
 obtain ⟨j,h1,h2,h3,h4,h5⟩:=atI_get he
 have hl:z.cps.toList.length=z.length:=by simp [Str.length]
 rw [hl] at h1 h4 h5
 have hn:=line63
 exact tail_any (typeIs_str s z t) slot_str_getitem.lookup (getItem_str (c:=c) (by
  have e1:decide (i < -(2 ^ 63:Int))=false:=decide_eq_false (by omega)
  have e2:decide (i ≥ 2 ^ 63)=false:=decide_eq_false (by omega)
  rw [e1,e2,Bool.or_false]) (by rw [h1]; simpa using h2) ⟨.str ⟨#[c]⟩,H,I.tok _,⟨_,rfl⟩,q⟩) hs
theorem slice_bounds (lo hi:Option Int) (n:Nat):(sliceBounds lo hi none n).1=((HT.sIx n 0 lo:Nat):Int)∧(sliceBounds lo hi none n).2.1=((HT.sIx n n hi:Nat):Int)∧(sliceBounds lo hi none n).2.2=1:=by
 refine ⟨?_,?_,rfl⟩
 ·cases lo with
  | none=>simp [sliceBounds,HT.sIx]
  | some i =>
   simp only [sliceBounds,HT.sIx,Option.getD_none,show (1:Int) > 0 by decide,if_true]
   by_cases h:i < 0
   ·simp only [h,if_true] <;> omega
   ·simp only [h,if_false] <;> omega
 ·cases hi with
  | none=>simp [sliceBounds,HT.sIx]
  | some i =>
   simp only [sliceBounds,HT.sIx,Option.getD_none,show (1:Int) > 0 by decide,if_true]
   by_cases h:i < 0
   ·simp only [h,if_true] <;> omega
   ·simp only [h,if_false] <;> omega
theorem slicePick_cut (its:List Value) (lo hi:Option Int):slicePick its.toArray lo hi none=((its.drop (HT.sIx its.length 0 lo)).take (HT.sIx its.length its.length hi - HT.sIx its.length 0 lo)).toArray:=by
 obtain ⟨h1,h2,h3⟩:=slice_bounds lo hi its.toArray.size
 unfold slicePick
 rw [h1,h2,h3]
 simp only [sliceRange_one,pick_run,List.size_toArray] <;> rfl
noncomputable def rSlL (K:PySem.W.Frag):V→Option Int→Option Int→Hp→VK→Prop:=fun x lo hi H Q=>∃ a xs,x=.ref a∧SqL K H a xs∧∀ p,H p=none→Q (.ref p) (upd H p (.lst (cutV xs lo hi)))
theorem sl_list:SlR X (rSlL X.K):=by
 intro pins s σ H x v vl vu lo hi sl Q I rx hs pl pu h
 obtain ⟨a,xs,rfl,hx,q⟩:=h
 cases rx
 obtain ⟨its,r,ht,hz⟩:=I.list hx
 have hlen:=r.length
 refine ⟨"list",_,slot_list_getitem.lookup,ht.isList.typeIs,?_⟩
 refine wpAny_getItem_list_slice ht.isList hs pl pu .none (by simp) ?_ (by rw [List.size_toArray] <;> omega)
 rw [slicePick_cut,← hlen]
 refine ⟨.ref s.heap.objs.size,_,I.laid (t':=s.toks) (o:=.lst (cutV xs lo hi)) (fun b ob q=>Heap.get?_push_of_some _ q) (Nat.le_refl _) ?_,rfl,q _ (I.hok.fresh (Nat.le_refl _))⟩
 exact ⟨Nat.le_trans (cutV_length xs lo hi) hz,_,0,(r.drop (HT.sIx xs.length 0 lo)).take (HT.sIx xs.length xs.length hi - HT.sIx xs.length 0 lo),Heap.get?_push_size _ rfl⟩
noncomputable def flatV:V→Bool
 | .non=>true
 | .bl _=>true
 | .int _=>true
 | .str _=>true
 | _=>false
noncomputable def eqV:V→V→Bool
 | .non,.non=>true
 | .bl a,.bl b=>a == b
 | .bl a,.int b=>(if a then 1 else 0) == b
 | .int a,.bl b=>a == (if b then 1 else 0)
 | .int a,.int b=>a == b
 | .str a,.str b=>a == b
 | _,_=>false
theorem eqAt_V {A:Around} {s:Shared} {y x:V} {u v:Value} (ry:RelV y u) (rx:RelV x v) (fy:flatV y=true) (fx:flatV x=true):SeqAt.EqAt A s u v (eqV y x):=by
 cases y with
 | non =>
  cases ry
  cases x with
  | non=>cases rx; exact SeqAt.EqAt.same _
  | bl b=>cases rx; exact SeqAt.EqAt.none_bool b
  | int b=>obtain ⟨t,rfl⟩:=rx; exact SeqAt.EqAt.none_int b t
  | str b=>obtain ⟨t,rfl⟩:=rx; exact SeqAt.EqAt.none_str b t
  | _=>exact absurd (show false=true from fx) Bool.false_ne_true
 | bl a =>
  cases ry
  cases x with
  | non=>cases rx; exact SeqAt.EqAt.bool_none a
  | bl b=>cases rx; exact SeqAt.EqAt.bool_bool a b
  | int b=>obtain ⟨t,rfl⟩:=rx; exact SeqAt.EqAt.bool_int a b t
  | str b=>obtain ⟨t,rfl⟩:=rx; exact SeqAt.EqAt.bool_str a b t
  | _=>exact absurd (show false=true from fx) Bool.false_ne_true
 | int a =>
  obtain ⟨t',rfl⟩:=ry
  cases x with
  | non=>cases rx; exact SeqAt.EqAt.int_none a t'
  | bl b=>cases rx; exact SeqAt.EqAt.int_bool a t' b
  | int b=>obtain ⟨t,rfl⟩:=rx; exact SeqAt.EqAt.int_int a t' b t
  | str b=>obtain ⟨t,rfl⟩:=rx; exact SeqAt.EqAt.int_str a t' b t
  | _=>exact absurd (show false=true from fx) Bool.false_ne_true
 | str a =>
  obtain ⟨t',rfl⟩:=ry
  cases x with
  | non=>cases rx; exact SeqAt.EqAt.str_none a t'
  | bl b=>cases rx; exact SeqAt.EqAt.str_bool a t' b
  | int b=>obtain ⟨t,rfl⟩:=rx; exact SeqAt.EqAt.str_int a t' b t
  | str b=>obtain ⟨t,rfl⟩:=rx; exact SeqAt.EqAt.str_str a t' b t
  | _=>exact absurd (show false=true from fx) Bool.false_ne_true
 | _=>exact absurd (show false=true from fy) Bool.false_ne_true
noncomputable def eqU (x:V) (u:Value):Bool:=match u with
 | .none=>eqV .non x
 | .bool b=>eqV (.bl b) x
 | .int i _=>eqV (.int i) x
 | .str z _=>eqV (.str z) x
 | _=>false
theorem eqU_of {x y:V} {u:Value} (r:RelV y u) (f:flatV y=true):eqU x u=eqV y x:=by
 cases y with
 | non=>cases r; rfl
 | bl b=>cases r; rfl
 | int i=>obtain ⟨t,rfl⟩:=r; rfl
 | str z=>obtain ⟨t,rfl⟩:=r; rfl
 | _=>exact absurd (show false=true from f) Bool.false_ne_true
theorem any_eqU {x:V}:∀ {xs:List V} {us:List Value},Vals xs us→xs.all flatV=true→us.any (eqU x)=xs.any fun y=>eqV y x
 | _,_,.nil,_=>rfl
 | y::xs,u::us,.cons r t,f=>by
  rw [List.all_cons,Bool.and_eq_true] at f
  rw [List.any_cons,List.any_cons,eqU_of r f.1,any_eqU t f.2]
theorem mem_eqAt {A:Around} {s:Shared} {x:V} {v:Value} (rx:RelV x v) (fx:flatV x=true):∀ {xs:List V} {us:List Value},Vals xs us→xs.all flatV=true→∀ u ∈ us,SeqAt.EqAt A s u v (eqU x u)
 | _,_,.nil,_=>fun u hu=>by cases hu
 | y::xs,u::us,.cons r t,f=>fun u' hu=>by
  rw [List.all_cons,Bool.and_eq_true] at f
  rcases List.mem_cons.mp hu with rfl | hu
  ·rw [eqU_of r f.1]; exact eqAt_V r rx f.1 fx
  ·exact mem_eqAt rx fx t f.2 u' hu
noncomputable def inV (x:V) (xs:List V):Bool:=xs.any fun y=>eqV y x
noncomputable def rIn (K:PySem.W.Frag) (neg:Bool):R2:=fun x y H Q=>∃ p xs,y=.ref p∧(SqL K H p xs ∨ SqT K H p xs)∧flatV x=true∧xs.all flatV=true∧Q (.bl (if neg then !inV x xs else inV x xs)) H
theorem op_in_seq:OpR X (compareOp .In) (rIn X.K false):=by
 intro pins s σ H x y v u Q I rx ry h
 obtain ⟨p,xs,rfl,hq,fx,fs,q⟩:=h
 cases ry
 rcases hq with hq | hq
 ·obtain ⟨its,r,pl,hz⟩:=I.list hq
  refine SeqAt.in_listAt (eqU x) pl.isList (fun w hw=>mem_eqAt rx fx r fs w (by simpa using hw)) ⟨.bl _,H,I,rfl,?_⟩
  rw [show its.toArray.any (eqU x)=its.any (eqU x) by simp,any_eqU r fs]
  exact q
 ·obtain ⟨its,r,pl,hz⟩:=I.tuple hq
  refine SeqAt.in_tupleAt (eqU x) pl (fun w hw=>mem_eqAt rx fx r fs w (by simpa using hw)) ⟨.bl _,H,I,rfl,?_⟩
  rw [show its.toArray.any (eqU x)=its.any (eqU x) by simp,any_eqU r fs]
  exact q
theorem op_notIn_seq:OpR X (compareOp .NotIn) (rIn X.K true):=by
 intro pins s σ H x y v u Q I rx ry h
 obtain ⟨p,xs,rfl,hq,fx,fs,q⟩:=h
 cases ry
 rcases hq with hq | hq
 ·obtain ⟨its,r,pl,hz⟩:=I.list hq
  refine SeqAt.notIn_listAt (eqU x) pl.isList (fun w hw=>mem_eqAt rx fx r fs w (by simpa using hw)) ⟨.bl _,H,I,rfl,?_⟩
  rw [show its.toArray.any (eqU x)=its.any (eqU x) by simp,any_eqU r fs]
  exact q
 ·obtain ⟨its,r,pl,hz⟩:=I.tuple hq
  refine SeqAt.notIn_tupleAt (eqU x) pl (fun w hw=>mem_eqAt rx fx r fs w (by simpa using hw)) ⟨.bl _,H,I,rfl,?_⟩
  rw [show its.toArray.any (eqU x)=its.any (eqU x) by simp,any_eqU r fs]
  exact q
theorem call_tuple_of:CallR X (.type "tuple") (fun xs H Q=>∃ p ys,xs=[.ref p]∧((SqL X.K H p ys∧∀ l,H l=none→Q (.ref l) (upd H l (.tup ys))) ∨ (SqT X.K H p ys∧Q (.ref p) H))):=by
 intro pins s σ H xs us Q I r h
 obtain ⟨p,ys,rfl,h⟩:=h
 obtain ⟨u,rfl,rx⟩:=vals1 r
 cases rx
 rcases h with ⟨hq,q⟩ | ⟨hq,q⟩
 ·obtain ⟨its,r',pl,hz⟩:=I.list hq
  have hlen:=r'.length
  refine call_tuple_list pl.isList (fun h' kp=>?_) (by simp only [List.size_toArray] <;> omega)
  have I1:Inv X pins σ H { s with heap:=h' }:=I.kept (t':=s.toks) kp
  have I2:Inv X pins σ (upd H h'.objs.size (.tup ys)) { s with heap:=h'.push { cls:=.type "tuple",data:=.seq its.toArray } } :=
   I1.laid (t':=s.toks) (fun b o e=>Heap.get?_push_of_some _ e) (Nat.le_refl _) (show ObjOk X.prog X.w _ _ _ (.tup ys) from ⟨hz,its,r',IsTup.new _ _⟩)
  exact ⟨.ref h'.objs.size,_,I2,rfl,q _ (I1.hok.fresh (Nat.le_refl _))⟩
 ·obtain ⟨its,r',pl,hz⟩:=I.tuple hq
  exact call_tuple_same pl ⟨.ref p,H,I,rfl,q⟩
noncomputable def tyV (K : PySem.W.Frag) (T : String) (x : V) (H : Hp) : Prop := match x with
  | .str _ => T = "str"
  | .int _ => T = "int"
  | .ref p => (T = "list" ∧ ∃ xs, SqL K H p xs) ∨ (T = "tuple" ∧ ∃ o, K.lookup p = some o ∧ o.cls = .type "tuple" ∧ o.dict = none) ∨
      (T = "dict" ∧ ((∃ kvs, H p = some (.dK kvs)) ∨ ∃ kvs, H p = some (.dT kvs))) ∨ (T = "set" ∧ ∃ S n, H p = some (.set S n))
  | _ => False
theorem tyV_is {pins : List (Addr × Obj)} {σ : St} {H : Hp} {s : Shared} {T : String} {x : V} {v : Value} (I : Inv X pins σ H s) (r : RelV x v) (ty : tyV X.K T x H) :
    s.TypeIs v T ∧ ∀ a, v = .ref a → ∃ ob, s.heap.get? a = some ob ∧ ob.dict = none := by
  cases x with
  | str z =>
    obtain ⟨t, rfl⟩ := r
    cases (show T = "str" from ty)
    exact ⟨typeIs_str s z t, fun _ e => nomatch e⟩
  | int i =>
    obtain ⟨t, rfl⟩ := r
    cases (show T = "int" from ty)
    exact ⟨typeIs_int s i t, fun _ e => nomatch e⟩
  | ref p =>
    cases r
    rcases ty with ⟨rfl, xs, hq⟩ | ⟨rfl, o, hk, hc, hd⟩ | ⟨rfl, hk⟩ | ⟨rfl, S, n, hk⟩
    · obtain ⟨its, _, pl, _⟩ := I.list hq
      refine ⟨pl.isList.typeIs, fun a e => ?_⟩
      cases e
      obtain ⟨o, n, e, c, hd, _⟩ := pl
      exact ⟨o, e, hd⟩
    · refine ⟨⟨o, I.kIn p o hk, hc⟩, fun a e => ?_⟩
      cases e
      exact ⟨o, I.kIn _ o hk, hd⟩
    · have z : ∃ o, s.heap.get? p = some o ∧ o.ExactDict := by
        rcases hk with ⟨kvs, hk⟩ | ⟨kvs, hk⟩
        · obtain ⟨_, _, _, _, o, _, _, e, ex, _⟩ := I.hok p _ hk
          exact ⟨o, e, ex⟩
        · obtain ⟨_, _, _, _, o, _, _, e, ex, _⟩ := I.hok p _ hk
          exact ⟨o, e, ex⟩
      obtain ⟨o, e, ex⟩ := z
      refine ⟨⟨o, e, ex.1⟩, fun a e2 => ?_⟩
      cases e2
      exact ⟨o, e, ex.2.1⟩
    · obtain ⟨o, _, _, _, e, ex, _⟩ := I.hok p _ hk
      refine ⟨⟨o, e, ex.1⟩, fun a e2 => ?_⟩
      cases e2
      exact ⟨o, e, ex.2.1⟩
  | _ => exact False.elim ty
noncomputable def tBM (K:PySem.W.Frag) (T:String) (r:V→List V→Hp→VK→Prop) (to:TE) (t:TA):TE:=fun σ H Q=>to σ H fun x H1=>tyV K T x H1∧t σ H1 fun xs H2=>r x xs H2 Q
variable {o e:Expr} {es:List Expr} {to:TE} {t:TA} {name:Str} {apos cpos:Pos} {T id:String} {r:V→List V→Hp→VK→Prop}
theorem pe_bm (pa : PlainAttrs T) (slot : Slot T name id) (hty : typeOf (.builtin id) = pure (.type "method_descriptor")) (hm : MtR X id r) (ho : PE X o to) (ha : PA X (e :: es) t)
    (hbase : attributeBase o name X.env (eval o X.env) = eval o X.env := by rfl)
    (hfew : ((backTo cpos (starEach (e :: es) X.env)).all (fun x => !x.1) && (backToKw cpos (keywordEach [] X.env)).all (fun x => x.1.isSome)
      && decide ((e :: es).length + ([] : List Keyword).length + (if ([] : List Keyword).isEmpty then 0 else 1) < 30)) = true := by rfl)
    (hline : (apos.endLine == cpos.line) = true := by rfl) (hs : starEach (e :: es) X.env = (false, eval e X.env) :: starEach es X.env := by rfl) (hplain : (backTo cpos (starEach es X.env)).any (·.1) = false := by rfl) :
    PE X (.Call (.Attribute o name apos) (e :: es) [] cpos) (tBM X.K T r to t) := by
  intro pins s σ H Q I h
  refine wpAny_Call_method_late hbase hfew hline rfl (thn (ho pins s σ H _ I h) fun v s1 ⟨x, H1, I1, r1, ty, q1⟩ => ?_)
  obtain ⟨h1, h2⟩ := tyV_is I1 r1 ty
  refine ⟨T, id, pa, slot, hty, h1, h2, ?_⟩
  have hA := ha cpos pins s1 σ H1 _ I1 q1
  rw [hs] at hA ⊢
  refine Calls.callWith_builtin (by show (false || (backTo cpos (starEach es X.env)).any (·.1)) = false; rw [hplain] <;> rfl) (Calls.evalArgs_plain ?_)
  exact thn hA fun us s2 ⟨vs, H2, I2, r2, q2⟩ => hm pins s2 σ H2 x vs v us Q I2 r1 r2 q2
end
end L2
namespace L2
open PySem PySem.Spec PyProof.Rows
noncomputable def MtM (X:Cx) (id:String) (r:V→List V→Hp→VK→Prop):Prop :=
 ∀ (pins:List (Addr × Obj)) (s:Shared) (σ:St) (H:Hp) (x:V) (xs:List V) (v:Value) (us:List Value) (Q:VK),Inv X pins σ H s→RelV x v→Vals xs us→r x xs H Q →
  wpAny (model X.prog X.w) X.A (call (.builtin id) (v::us)) (EP X pins σ Q) X.xe s
theorem Vals.one:∀ {x:V} {us:List Value},Vals [x] us→∃ u,us=[u]∧RelV x u
 | _,_,.cons r .nil=>⟨_,rfl,r⟩
theorem Vals.two:∀ {x y:V} {us:List Value},Vals [x,y] us→∃ u v,us=[u,v]∧RelV x u∧RelV y v
 | _,_,_,.cons r (.cons q .nil)=>⟨_,_,rfl,r,q⟩
section
variable {X:Cx} {pins:List (Addr × Obj)} {σ:St} {H:Hp} {s:Shared} {l b:Addr} {xs ys zs:List V}
theorem Inv.lset {its its' : List Value} {n : Nat} {f : Array Value → Array Value} {t' : Nat} (I : Inv X pins σ H s) (hH : H l = some (.lst xs))
    (e : s.heap.get? l = some { cls := .type "list", data := .seq its.toArray n }) (hf : f its.toArray = its'.toArray) (hv : Vals ys its') (hz : ys.length ≤ sizeLine) :
    Inv X pins σ (upd H l (.lst ys)) { s with heap := s.heap.update l (Obj.mapSeq f), toks := t' } := by
  have q := PySem.IsL.update e f
  rw [hf] at q
  refine I.write (x := l) (e := l) (by rw [hH]; exact trivial) (.inl rfl) (fun b' u hb hu => (Heap.get?_update_other s.heap (Obj.mapSeq f) (Ne.symm hb)).trans hu) ⟨_, q⟩ ?_
  exact ⟨hz, its', _, hv, q⟩
theorem Inv.lnew {its : List Value} {t' : Nat} (I : Inv X pins σ H s) (hv : Vals ys its) (hz : ys.length ≤ sizeLine) :
    Inv X pins σ (upd H s.heap.objs.size (.lst ys)) { s with heap := s.heap.push { cls := .type "list", data := .seq its.toArray }, toks := t' } :=
  I.laid (fun _ _ q => Heap.get?_push_of_some _ q) (Nat.le_refl _) ⟨hz, its, 0, hv, Heap.get?_push_size _ rfl⟩
theorem Inv.fresh (I:Inv X pins σ H s):H s.heap.objs.size=none:=I.hok.fresh (Nat.le_refl _)
theorem Inv.lstM (I:Inv X pins σ H s) (hH:H l=some (.lst xs)):xs.length≤sizeLine∧∃ (its:List Value) (n:Nat),Vals xs its∧xs.length=its.length∧s.heap.get? l=some { cls:=.type "list",data:=.seq its.toArray n }:=by
 obtain ⟨z,its,n,r,e⟩:=I.hok l _ hH
 exact ⟨z,its,n,r,r.length,e⟩
end
section
variable {X:Cx}
noncomputable def rAppend:V→List V→Hp→VK→Prop:=fun x vs H Q=>∃ l xs y,x=.ref l∧vs=[y]∧H l=some (.lst xs)∧xs.length < sizeLine∧Q .non (upd H l (.lst (xs++[y])))
theorem mt_append:MtM X "list.append" rAppend:=by
 intro pins s σ H x vs v us Q I rx rv h
 obtain ⟨l,xs,y,rfl,rfl,hH,hz,q⟩:=h
 cases rx
 obtain ⟨u,rfl,ru⟩:=rv.one
 obtain ⟨z,its,n,r,hl,e⟩:=I.lstM hH
 refine call_meets F.slot_list_append ⟨_,e,rfl⟩ F.entry_list_append (F.args_list_append_2 _ _) (PySem.list_append l its.toArray n u (by rw [List.size_toArray]; omega)) ⟨e,?_⟩
 refine ⟨.non,_,I.lset (its':=its++[u]) hH e (by simp) (r.append (.cons ru .nil)) ?_,rfl,q⟩
 rw [List.length_append,List.length_singleton]
 omega
noncomputable def rCat:R2:=fun x y H Q=>∃ l b xs zs,x=.ref l∧y=.ref b∧H l=some (.lst xs)∧H b=some (.lst zs)∧xs.length+zs.length≤sizeLine∧∀ p,H p=none→Q (.ref p) (upd H p (.lst (xs++zs)))
theorem op_cat:OpR X (binaryOp .Add) rCat:=by
 intro pins s σ H x y v u Q I rx ry h
 obtain ⟨l,b,xs,zs,rfl,rfl,hH,hB,hz,q⟩:=h
 cases rx
 cases ry
 obtain ⟨z,its,n,r,hl,e⟩:=I.lstM hH
 obtain ⟨z2,its2,n2,r2,hl2,e2⟩:=I.lstM hB
 refine PySem.P.add_list e e2 ?_ (by rw [List.size_toArray,List.size_toArray]; omega)
 have ea:its.toArray++its2.toArray=(its++its2).toArray:=by simp
 rw [ea]
 exact ⟨.ref _,_,I.lnew (t':=s.toks) (r.append r2) (by rw [List.length_append]; omega),rfl,q _ I.fresh⟩
end
section
variable {prog:Program} {w:World} {A:Around} {E:Value→Shared→Prop} {s:Shared}
end
section
variable {X:Cx}
end
end L2
namespace Att
open PySem PySem.W PySem.Calls PyProof.Rows
theorem ints_of_wellAll {P:Params} {h:Heap}:∀ (ns:List Int) (vs:List Value),WellAll P h vs (ns.map WData.int)→IntsAre vs ns:=by
 intro ns
 induction ns with
 | nil =>
  intro vs w
  rw [List.map_nil] at w
  cases w
  exact .nil
 | cons n ns ih =>
  intro vs w
  rw [List.map_cons] at w
  cases w with
  | cons a b =>
   cases a
   exact .cons _ _ (ih _ b)
theorem script_of {l : OpenLaw} {n : Nat} (hn : l.most = some n) {P : Params} {h : Heap} {args : List WData} {vals : List Value}
    (hpre : l.row.toRowW.claim.pre args = true) (hwl : WellAll P h vals args) :
    ∃ a vs ns, vals = [Value.ref a] ∧ args = [WData.list (ns.map WData.int)] ∧ h.get? a = some { cls := .type "list", data := .seq vs.toArray } ∧ IntsAre vs ns ∧ ns.length ≤ n := by
  have hsh : WShape.hasAll [] args [.list .int] = true := (pre_splitW hpre).1
  have hc : l.pre.holds [] { args := args } = true := (pre_splitW hpre).2
  obtain ⟨d, r, rfl, h1, h2⟩ := hasAllW_cons hsh
  obtain rfl := hasAllW_nil h2
  obtain ⟨xs, rfl, h3⟩ := hasW_list h1
  obtain ⟨ns, rfl⟩ := items_int h3
  have hlen : ns.length ≤ n := by
    unfold OpenLaw.pre at hc
    have h4 : (WTm.not (.lt (.lit (.int (n : Int))) (.len (.arg 0)))).holds [] { args := [.list (ns.map .int)] } = true := by
      have h4 := (holds_andW hc).1
      rw [hn] at h4
      exact h4
    have h5 := condW_of h4 (w_not (w_lt w_lit (w_len_list (w_arg rfl))))
    rw [List.length_map] at h5
    refine Nat.le_of_not_lt fun q => ?_
    have q' : (n : Int) < ((ns.length : Nat) : Int) := by omega
    first
      | (rw [decide_eq_true q'] at h5; exact absurd h5 (by decide))
      | (simp at h5; omega)
  cases hwl with
  | cons w1 w2 =>
    cases w2
    cases w1 with
    | list ho hall => exact ⟨_, _, ns, rfl, rfl, ho, ints_of_wellAll ns _ hall, hlen⟩
theorem post_true (l:OpenLaw) (args:List WData):l.row.toRowW.claim.post args (.bool true) args=true :=
 postW_of (r:=l.row.toRowW) (X:=(true == true))
  (show WShape.has [] (.bool true) .bool=true by first | rfl | decide | simp [WShape.has,WShape.arms,WShape.armsAll])
  (show (WTm.eq .res (.lit (.bool true))).value [] { args:=args,res:=some (.bool true),after:=args }=some (.bool (true == true)) from w_eq_bool (w_res rfl) w_lit) rfl
theorem attach_call {l : OpenLaw} {n : Nat} {q : Program} {loose : List Str} {XP : (Str → Option Value) → Heap → Prop} {YP : World → Heap → Prop} {d : DefRec}
    (hn : l.most = some n) (hdf : d.params.defaults = [])
    (call : ∀ (w : World) (s₀ s₁ : Shared) (mg mb : Str → Option Value) (fa : Addr) (o : Obj) (pm cd doc : Value) (a : Addr) (vs : List Value) (ns : List Int),
      Ground q loose [] XP w s₀ mg mb s₁.heap → YP w s₁.heap →
      s₁.heap.get? fa = some o → o.data = .func (docDef d.name d.params d.body d.scope pm cd doc) → s₁.heap.CodeRec cd d.name → mg d.name = some (.ref fa) →
      s₁.heap.get? a = some { cls := .type "list", data := .seq vs.toArray } → IntsAre vs ns → ns.length ≤ n → s₁.gens = #[] →
      codeAny (model l.prog w) callerA (.call (.ref fa) ⟨[.ref a], []⟩) (fun r s' => r = .ok (.ret (.bool true)) ∧ OldK s₁.heap s'.heap ∧ s'.os = s₁.os ∧ AllBare s'.gens) s₁) :
    WalkO q loose XP YP l.row.toRowW d [] (fun f vs => PySem.call f vs) := by
  intro w s₀ s₁ mg mb G Y fa o pm cd doc dV kV ho hd hcd hD hmg hg args vals as hpre hlay hrd hwl hlo
  obtain rfl : dV = .none := Dflts.none hD hdf
  obtain rfl : kV = .none := Dflts.noKw hD
  obtain ⟨a, vs, ns, rfl, rfl, hobj, hints, hlen⟩ := script_of hn hpre hwl
  refine enter_call (codeAny_mono (call w s₀ s₁ mg mb fa o pm cd doc a vs ns G Y ho (fd_plain hd) hcd hmg hobj hints hlen hg) fun r s' hq => ?_)
  obtain ⟨rfl, h2, h3, h4⟩ := hq
  exact ⟨.inl ⟨.bool true, .bool true, [], rfl, fun _ => rfl, .bool true, post_true l _, fun _ => ⟨List.Pairwise.nil, fun _ hm => (nomatch hm)⟩⟩, h2, h3, h4⟩
section
variable {prog:Program} {w:World} {A:Around} {E:Value→Shared→Prop} {s:Shared} {K:Frag}
noncomputable def ledger (h:Heap) (L d:Addr):List (Addr × Obj):=(List.range h.objs.size).filterMap fun a=>if a=L ∨ a=d then none else (h.get? a).map fun o=>(a,o)
end
end Att
namespace L2
open PySem PySem.Spec PyProof.Rows
theorem vals_ints:∀ {vs:List Value} {ns:List Int},IntsAre vs ns→Vals (ns.map V.int) vs
 | _,_,.nil=>.nil
 | _,_,.cons n t h=>.cons ⟨t,rfl⟩ (vals_ints h)
noncomputable def Only (H:Hp):Prop:=∀ b,H b=none ∨ ∃ o xs,H b=some (.frz o (.lst xs))
theorem law_call {P : Program} {w : World} {K : PySem.W.Frag} {mg mb : Str → Option Value} {CX : CXT} {k : Nat} {fa a : Addr} {fd : FuncData} {x : Str} {sp : Sp} {s₁ : Shared} {vs : List Value} {ns : List Int}
    (KX : K.In s₁.heap) (hns : s₁.heap.Ns mainGlobals mg) (hb : s₁.heap.Ns builtinsNs mb) (hbb : ∀ x : Str, x ≠ "__name__" → mb x = bootBuiltins x) (hlim : s₁.heap.NoLimit) (hg : s₁.gens = #[])
    (ha : s₁.heap.get? a = some { cls := .type "list", data := .seq vs.toArray }) (hi : IntsAre vs ns) (hl : ns.length ≤ sizeLine) (hr : Room k callerA)
    (F : ∀ base : Heap, K.In base → base.Ns mainGlobals mg → FnOk P w K mg base CX k fa fd [x] sp) (hbind : ∀ (s : Shared) (u : Value), BindsTo s fd ⟨[u], []⟩ [(x, u)])
    (hsp : ∀ H : Hp, Only H → SqL K H a (ns.map V.int) → sp [.ref a] H (fun v _ => v = .bl true) fun _ _ _ => False)
    (hCX : ∀ H e s', CX [] H s₁ (fun _ _ _ => False) e s' → False) :
    codeAny (model P w) callerA (.call (.ref fa) ⟨[.ref a], []⟩) (fun r s' => r = .ok (.ret (.bool true)) ∧ OldK s₁.heap s'.heap ∧ s'.os = s₁.os ∧ AllBare s'.gens) s₁ := by
  have rv := vals_ints hi
  have lenV := hi.length
  -- from an abstract heap in which nothing but the script may be tracked
  have core : ∀ H : Hp, Only H → SqL K H a (ns.map V.int) → HOk P w H s₁.heap → (∀ b, H b ≠ none → b = a) → (H a ≠ none → K.lookup a = none) →
      codeAny (model P w) callerA (.call (.ref fa) ⟨[.ref a], []⟩) (fun r s' => r = .ok (.ret (.bool true)) ∧ OldK s₁.heap s'.heap ∧ s'.os = s₁.os ∧ AllBare s'.gens) s₁ := by
    intro H hO hS hok hA hK
    have base_of : ∀ {b : Addr} {o : Obj}, s₁.heap.get? b = some o → H b = none → (hidT s₁.heap H).get? b = some o := fun e n => hidT_get e n
    have noA : ∀ {b : Addr} {o : Obj} {es : Array DictEntry} {ep : Nat}, s₁.heap.get? b = some o → o.data = .dict es ep → H b = none := fun {b o es ep} e d => by
      cases q : H b with
      | none => rfl
      | some u =>
        have e' : b = a := hA b (by rw [q]; simp)
        subst e'
        rw [ha] at e; cases e
        have d' : Data.seq vs.toArray _ = Data.dict es ep := d
        cases d'
    have nsK : ∀ {b : Addr} {m : Str → Option Value}, s₁.heap.Ns b m → (hidT s₁.heap H).Ns b m := fun {b m} ⟨o, es, ep, e, d, r⟩ => ⟨o, es, ep, base_of e (noA e d), d, r⟩
    have hKb : K.In (hidT s₁.heap H) := fun b o e => base_of (KX b o e) (by
      cases q : H b with
      | none => rfl
      | some u =>
        have e' : b = a := hA b (by rw [q]; simp)
        subst e'
        rw [hK (by rw [q]; simp)] at e; cases e)
    have hM : Mod K mg (hidT s₁.heap H) := ⟨hKb, nsK hns, ⟨mb, nsK hb, hbb⟩, let ⟨mc, h1, h2⟩ := hlim; ⟨mc, nsK h1, h2⟩⟩
    have e0 : Env0 P w K mg (hidT s₁.heap H) callerA [] s₁ H := ⟨rfl, hM, fun b o e => of_hidT e, Nat.le_of_eq (hidT_size _ _), trivial, fun b hb => absurd (show b ∈ ([] : List Addr) from hb) (by simp), hok, .of_eq hg⟩
    refine codeAny_mono ((F _ hKb (nsK hns)).run callerA [] s₁ H ⟨[.ref a], []⟩ [.ref a] [.ref a] _ _ hr e0 (hbind s₁ (.ref a)) (.cons rfl .nil) (hsp H hO hS)) fun r s' h => ?_
    cases r with
    | error e => exact (hCX H e s' h).elim
    | ok fl =>
      cases fl with
      | next => exact False.elim h
      | brk => exact False.elim h
      | cont => exact False.elim h
      | ret u =>
        obtain ⟨v, H', os, bare, un, hok', r', q⟩ := h
        have q' : v = .bl true := q
        subst q'
        obtain rfl : u = Value.bool true := r'
        refine ⟨rfl, OldK.of_keep fun b o e => ?_, os, bare⟩
        cases q : H b with
        | none => exact un.keep b o e q (by intro z; exact absurd (show b ∈ ([] : List Addr) from z) (by simp)) (by simp)
        | some u =>
          rcases hO b with z | ⟨ob, xs, z⟩
          · rw [q] at z; cases z
          · have z2 := un.frzs b ob _ z
            obtain ⟨e1, _⟩ := hok b _ z
            obtain ⟨e2, _⟩ := hok' b _ z2
            rw [e] at e1; cases e1
            exact e2
  cases hk : K.lookup a with
  | some o =>
    -- the script is one of the module's own objects
    have e := KX a o hk
    rw [ha] at e
    cases e
    refine core (fun _ => none) (fun _ => .inl rfl) (.inr ⟨_, vs.toArray, _, hk, rfl, rfl, rfl, by rw [List.size_toArray, lenV]; exact hl, by simpa using rv⟩) (fun b u z => by have z' : (none : Option HO) = some u := z; cases z') (fun b z => absurd rfl z) fun z => absurd rfl z
  | none =>
    refine core (fun b => if b = a then some (.frz { cls := .type "list", data := .seq vs.toArray } (.lst (ns.map V.int))) else none) (fun b => ?_) (.inl (.inr ⟨{ cls := .type "list", data := .seq vs.toArray }, if_pos rfl⟩)) (fun b u z => ?_) (fun b z => ?_) fun _ => hk
    · by_cases hb : b = a
      · exact .inr ⟨_, _, if_pos hb⟩
      · exact .inl (if_neg hb)
    · by_cases hb : b = a
      · have z' := (if_pos hb).symm.trans z
        cases z'
        subst hb
        exact ⟨ha, by rw [List.length_map]; exact hl, vs, _, rv, ha⟩
      · have z' := (if_neg hb).symm.trans z
        cases z'
    · by_cases hb : b = a
      · exact hb
      · exact absurd (if_neg hb) z
end L2
namespace L2
open PySem PySem.Spec PyProof.Rows
noncomputable abbrev KOf {K:PySem.W.Frag} {h:Heap} (_:K.In h):PySem.W.Frag:=K
theorem walk_of {l : PySem.W.OpenLaw} {n k : Nat} {q : Program} {loose : List Str} {XP : (Str → Option Value) → Heap → Prop} {YP : World → Heap → Prop} {d : DefRec} {K : Params → PySem.W.Frag} {CX : World → CXT} {sp : World → Sp} {x : Str}
    (hn : l.most = some n) (hn2 : n ≤ sizeLine) (hdf : d.params.defaults = []) (hr : Room k callerA)
    (hY : ∀ (w : World) (h : Heap), YP w h → (K w.params).In h)
    (F : ∀ (w : World) (mg : Str → Option Value) (fa : Addr) (h : Heap), (K w.params).In h → h.Ns mainGlobals mg → mg d.name = some (.ref fa) →
      ∃ fd : FuncData, (∀ (s : Shared) (u : Value), BindsTo s fd ⟨[u], []⟩ [(x, u)]) ∧
        ∀ base : Heap, (K w.params).In base → base.Ns mainGlobals mg → FnOk l.prog w (K w.params) mg base (CX w) k fa fd [x] (sp w))
    (hsp : ∀ (w : World) (H : Hp) (a : Addr) (ns : List Int), ns.length ≤ n → Only H → SqL (K w.params) H a (ns.map V.int) → sp w [.ref a] H (fun v _ => v = .bl true) fun _ _ _ => False)
    (hCX : ∀ (w : World) (H : Hp) (s : Shared) (e : Value) (s' : Shared), CX w [] H s (fun _ _ _ => False) e s' → False) :
    PySem.W.WalkO q loose XP YP l.row.toRowW d [] (fun f vs => PySem.call f vs) := by
  refine Att.attach_call hn hdf fun w s₀ s₁ mg mb fa o pm cd doc a vs ns G Y ho hd hcd hmg hobj hints hlen hg => ?_
  have KX := hY w _ Y
  obtain ⟨fd, hb, hF⟩ := F w mg fa _ KX G.T.g hmg
  exact law_call KX G.T.g G.T.b G.T.builtins G.T.nolimit hg hobj hints (Nat.le_trans hlen hn2) hr hF hb (fun H hO hS => hsp w H a ns hlen hO hS) fun H e s' => hCX w H s₁ e s'
end L2
namespace L2
open PySem PySem.Spec PyProof.Rows
noncomputable def defArgs (s:Stmt):Arguments:=match s with
 | .FunctionDef _ a _ _ _ _ _ _ _ _=>a
 | _=>{ posonlyargs:=[],args:=[],vararg:=none,kwonlyargs:=[],kw_defaults:=[],kwarg:=none,defaults:=[] }
noncomputable def defBody (s:Stmt):List Stmt:=match s with
 | .FunctionDef _ _ b _ _ _ _ _ _ _=>b
 | _=>[]
noncomputable def defScope (s:Stmt):Scope:=match s with
 | .FunctionDef _ _ _ _ _ _ sc _ _ _=>sc
 | _=>{ kind:=.function,names:=[],isGenerator:=false,isCoroutine:=false }
structure Fun (K:PySem.W.Frag) (x qual:Str) (st:Stmt) (f:Addr) (fd:FuncData):Prop where
 ex:∃ (oc:Value) (od:Option Addr) (kV doc pm:Value) (an:Option Addr) (cdv ct:Value) (osl:Array (Option Value)),
  fd=PySem.W.fnOf x qual (defArgs st) (defBody st) (defScope st) .none kV doc pm an cdv ct∧K.lookup f=some ⟨oc,od,.func fd,osl⟩∧PySem.W.codeIn K cdv qual=true
 kp:PySem.W.keepIn K (.ref f)=true
section
variable {P:Program} {w:World} {K:PySem.W.Frag} {mg:Str→Option Value} {base:Heap}
theorem Fun.binds {x qual : Str} {st : Stmt} {f : Addr} {fd : FuncData} {ps : List Str} (F : Fun K x qual st f fd)
    (h : ∀ (kV doc pm : Value) (an : Option Addr) (cdv ct : Value) (us : List Value), us.length = ps.length → bindArgs (PySem.W.fnOf x qual (defArgs st) (defBody st) (defScope st) .none kV doc pm an cdv ct) ⟨us, []⟩ = pure (ps.zip us)) : Binds K fd ps [] := by
  obtain ⟨oc, od, kV, doc, pm, an, cdv, ct, osl, rfl, lk, hcd⟩ := F.ex
  exact .all (h kV doc pm an cdv ct)
theorem fun_mk {x qual : Str} {st : Stmt} {f : Addr} {oc : Value} {od an : Option Addr} {osl : Array (Option Value)} {kV doc pm cdv ct : Value} (l : K.lookup f = some ⟨oc, od, .func (PySem.W.fnOf x qual (defArgs st) (defBody st) (defScope st) .none kV doc pm an cdv ct), osl⟩)
    (c : PySem.W.codeIn K cdv qual = true) (k : PySem.W.keepIn K (.ref f) = true) : Fun K x qual st f (PySem.W.fnOf x qual (defArgs st) (defBody st) (defScope st) .none kV doc pm an cdv ct) := ⟨⟨oc, od, kV, doc, pm, an, cdv, ct, osl, rfl, l, c⟩, k⟩
end
section
variable {X:Cx}
end
theorem iteF {A B:Prop} (h:B):if false=true then A else B:=by
 rw [if_neg Bool.false_ne_true]
 exact h
theorem iteT {A B:Prop} (h:A):if true=true then A else B:=by
 rw [if_pos rfl]
 exact h
end L2
namespace L2
open PySem PySem.Spec PyProof.Rows
section
variable {κ:Type} [DecidableEq κ]
noncomputable def valV (kvs:List (κ × V)) (k:κ):Option V:=(kvs.find? fun kv=>decide (kv.1=k)).map (·.2)
theorem valV_pos {p:κ × V} {r:List (κ × V)} {k:κ} (e:p.1=k):valV (p::r) k=some p.2:=by simp [valV,List.find?_cons,e]
theorem valV_neg {p:κ × V} {r:List (κ × V)} {k:κ} (e:¬ p.1=k):valV (p::r) k=valV r k:=by simp [valV,List.find?_cons,e]
theorem RelO.isSome_eq {o:Option V} {u:Option Value} (r:RelO o u):o.isSome=u.isSome:=by
 cases o with
 | none=>cases u with
  | none=>rfl
  | some _=>exact (show False from r).elim
 | some _=>cases u with
  | none=>exact (show False from r).elim
  | some _=>rfl
theorem KV.val {kvs:List (κ × V)} {vs:List (κ × Value)} (r:KV kvs vs) (k:κ):RelO (valV kvs k) (valueAt vs k):=by
 unfold KV at r
 induction r with
 | nil=>exact True.intro
 | @cons p q ps qs h t ih =>
  obtain ⟨h1,h2⟩:=h
  by_cases e:p.1=k
  ·have e':q.1=k:=h1.symm.trans e
   have b:valueAt (q::qs) k=some q.2:=by simp [valueAt,List.find?_cons,e']
   rw [valV_pos e,b]; exact h2
  ·have e':¬ q.1=k:=fun z=>e (h1.trans z)
   have b:valueAt (q::qs) k=valueAt qs k:=by simp [valueAt,List.find?_cons,e']
   rw [valV_neg e,b]; exact ih
end
theorem kV_is {P:Program} {w:World} {k:Key} {u:Value} (r:RelV (kV k) u):(mixKind P w).is k u=true:=by
 cases k with
 | inl i=>obtain ⟨t,e⟩:=(show ∃ t,u=Value.int i t from r); subst e; exact mixKind_int P w i t
 | inr x=>obtain ⟨t,e⟩:=(show ∃ t,u=Value.str x t from r); subst e; exact mixKind_str P w x t
section
variable {P:Program} {w:World} {H:Hp} {h:Heap} {a:Addr}
theorem rd_of {u:HO} (ok:HOk P w H h) (e:Rd H a u):ObjOk P w H h a u:=e.ok ok
theorem dk_rd {kvs:List (Key × V)} (ok:HOk P w H h) (e:Rd H a (.dK kvs)):kvs.length≤sizeLine∧(a == sysModules)=false∧∃ vs,KV kvs vs∧h.DictOf (mixKind P w) a vs :=
 show ObjOk P w H h a (.dK kvs) from rd_of ok e
end
section
variable {X:Cx} {pins:List (Addr × Obj)} {σ:St} {H:Hp} {s:Shared} {a:Addr} {y v:V} {u r:Value} {o:Option V} {A:Around} {E:Value→Shared→Prop}
end
section
variable {X:Cx} {pins:List (Addr × Obj)} {σ:St} {H:Hp} {s:Shared} {a:Addr} {kvs:List (Key × V)} {k:Key} {u:Value} {A:Around} {E:Value→Shared→Prop}
end
section
variable {X:Cx} {pos:Pos}
end
end L2
set_option Elab.async false
set_option linter.all false
set_option genSizeOf false
set_option genSizeOfSpec false
set_option genInjectivity false
namespace Fy
open PySem
noncomputable abbrev Tx:=List Nat
inductive D where
 | non | bl (b:Bool) | int (i:Int) | str (x:Tx) | tup (xs:List D) | ref (i:Nat)
 deriving Inhabited
inductive Ky where
 | int (i:Int) | str (x:Tx)
 deriving DecidableEq
inductive O where
 | lst (xs:List D) | rol (xs:List D) | ins (c:Nat) (fs:List (Nat × D)) | dct (kvs:List (Ky × D)) | xc (c:Nat)
 deriving Inhabited
noncomputable def nmGo:Nat→Nat→List Nat→List Nat
 | 0,_,acc=>acc
 | f+1,n,acc=>if n=0 then acc else nmGo f (n / 256) (n % 256::acc)
noncomputable def nmOf (n:Nat):Str:=⟨(nmGo 60 n []).toArray⟩
noncomputable abbrev AH:=List O
noncomputable abbrev Env:=List (Option D)
inductive R (α:Type) where
 | ok (a:α) (h:AH) | exc (c:Nat) (h:AH) | bad
noncomputable abbrev M (α:Type):=AH→R α
noncomputable def R.bind {α β:Type}:R α→(α→AH→R β)→R β
 | .ok a h,f=>f a h
 | .exc c h,_=>.exc c h
 | .bad,_=>.bad
noncomputable def M.bind {α β:Type} (m:M α) (f:α→M β):M β:=fun h=>(m h).bind f
noncomputable def R.calm {α:Type}:R α→R α
 | .exc _ _=>.bad
 | r=>r
noncomputable def M.calm {α:Type} (m:M α):M α:=fun h=>(m h).calm
noncomputable def M.ret {α:Type} (a:α):M α:=fun h=>.ok a h
noncomputable def M.bad {α:Type}:M α:=fun _=>.bad
noncomputable def M.when {α:Type} (c:Prop) [Decidable c] (m:M α):M α:=fun h=>if c then m h else .bad
noncomputable def allocO (o:O):M D:=fun h=>.ok (.ref h.length) (h++[o])
noncomputable def getL (h:AH) (i:Nat):Option (List D):=match h[i]? with
 | some (.lst xs)=>some xs
 | some (.rol xs)=>some xs
 | _=>none
noncomputable def liveN (h:AH) (i:Nat):Nat:=((getL h i).getD []).length+1
noncomputable def newL (xs:List D):M D:=M.when (xs.length≤16777216) (allocO (.lst xs))
inductive Ty where
 | int | str | bool | list | tuple
 deriving DecidableEq
inductive Un where
 | neg | len | str | int | ord | tuple | list | all | any | isN | notN | isB (b:Bool) | isi (t:Ty) | fmt | upper | sum | clear | isx (cs xl:List Nat) | fld (k:Nat) | nsB (b:Bool) | rev
 deriving DecidableEq
inductive Bi where
 | add | sub | mul | fdiv | mod | pow | eq | ne | lt | le | gt | ge | isin | notin | ix | min2 | max2 | find | split | join | append | zfill | remove | get | pop | starts | index | part | rpart
 deriving DecidableEq
noncomputable def b2i (b:Bool):Int:=if b then 1 else 0
noncomputable def isiD (h:AH) (t:Ty) (d:D):Option Bool:=match d with
 | .non=>some false
 | .bl _=>some (t == .bool || t == .int)
 | .int _=>some (t == .int)
 | .str _=>some (t == .str)
 | .tup _=>some (t == .tuple)
 | .ref i=>(getL h i).map fun _=>t == .list
noncomputable def txI (i:Int):Tx:=(toString i).toList.map Char.toNat
noncomputable def truth (d:D):M Bool:=fun h=>match d with
 | .non=>.ok false h
 | .bl b=>.ok b h
 | .int i=>.ok (i != 0) h
 | .str x=>if x.length≤16777216 then .ok (!x.isEmpty) h else .bad
 | .tup xs=>.ok (!xs.isEmpty) h
 | .ref i=>match getL h i with
  | some xs=>.ok (!xs.isEmpty) h
  | none=>.bad
noncomputable def boolsOf:List D→Option (List Bool)
 | []=>some []
 | .bl b::r=>(boolsOf r).map (b::·)
 | _::_=>none
noncomputable def allB (xs:List D):Option Bool:=(boolsOf xs).map (·.all id)
noncomputable def anyB (xs:List D):Option Bool:=(boolsOf xs).map (·.any id)
noncomputable def eqW (f:D→D→Option Bool):List D→List D→Option Bool
 | [],[]=>some true
 | [],_::_=>some false
 | _::_,[]=>some false
 | x::xs,y::ys=>match f x y,eqW f xs ys with
  | some a,some b=>some (a && b)
  | _,_=>none
noncomputable def eqD (h:AH):Nat→D→D→Option Bool
 | _,.non,.non=>some true
 | _,.bl a,.bl b=>some (a == b)
 | _,.int a,.int b=>some (a == b)
 | _,.str a,.str b=>some (a == b)
 | _,.bl a,.int b=>some (b2i a == b)
 | _,.int a,.bl b=>some (a == b2i b)
 | n+1,.tup xs,.tup ys=>eqW (eqD h n) xs ys
 | n+1,.ref i,.ref j=>match getL h i,getL h j with
  | some xs,some ys=>eqW (eqD h n) xs ys
  | _,_=>none
 | _,_,_=>none
noncomputable def ixN (n:Nat) (i:Int):Option Nat:=if 0≤i then (if i < n then some i.toNat else none) else if -(n:Int)≤i then some (i+n).toNat else none
noncomputable def cutN (n d:Nat):Option Int→Nat
 | none=>d
 | some v=>if v < 0 then (v+n).toNat else min v.toNat n
noncomputable def cutX {α:Type} (xs:List α) (lo hi:Option Int):List α:=(xs.drop (cutN xs.length 0 lo)).take (cutN xs.length xs.length hi - cutN xs.length 0 lo)
noncomputable def isDig (x:Tx):Bool:=x.all fun c=>decide (48≤c∧c≤57)
noncomputable def digV (x:Tx):Nat:=x.foldl (fun acc c=>acc * 10+(c - 48)) 0
noncomputable def upC (c:Nat):Nat:=if 97≤c∧c≤122 then c - 32 else c
noncomputable def getN (k:Nat):List (Nat × D)→Option D
 | []=>none
 | (g,x)::r=>if g == k then some x else getN k r
noncomputable def putN (k:Nat) (d:D):List (Nat × D)→List (Nat × D)
 | []=>[(k,d)]
 | (g,x)::r=>if g == k then (g,d)::r else (g,x)::putN k d r
noncomputable def tbN:List (Nat × Nat)→Nat→Option Nat
 | [],_=>none
 | (g,x)::r,k=>if g == k then some x else tbN r k
noncomputable def intsOf:List D→Option (List Int)
 | []=>some []
 | .int x::r=>(intsOf r).map (x::·)
 | _::_=>none
noncomputable def unD (o:Un) (d:D):M D:=fun h=>match o,d with
 | .neg,.int i=>.ok (.int (-i)) h
 | .len,.str x=>if x.length≤16777216 then .ok (.int x.length) h else .bad
 | .len,.tup xs=>.ok (.int xs.length) h
 | .len,.ref i=>match getL h i with
  | some xs=>.ok (.int xs.length) h
  | none=>.bad
 | .str,.int i=>if i.natAbs.log2 < 1920 then .ok (.str (txI i)) h else .bad
 | .int,.int i=>.ok (.int i) h
 | .int,.bl b=>.ok (.int (b2i b)) h
 | .int,.str x=>if x ≠ []∧x.length≤640∧isDig x=true then .ok (.int (digV x)) h else .bad
 | .ord,.str x=>match x with
  | [c]=>.ok (.int c) h
  | _=>.bad
 | .tuple,.tup xs=>.ok (.tup xs) h
 | .tuple,.ref i=>match getL h i with
  | some xs=>.ok (.tup xs) h
  | none=>.bad
 | .list,.tup xs=>newL xs h
 | .list,.ref i=>match getL h i with
  | some xs=>newL xs h
  | none=>.bad
 | .all,.ref i=>match (getL h i).bind allB with
  | some b=>.ok (.bl b) h
  | none=>.bad
 | .any,.ref i=>match (getL h i).bind anyB with
  | some b=>.ok (.bl b) h
  | none=>.bad
 | .sum,.ref i=>match (getL h i).bind intsOf with
  | some xs=>.ok (.int xs.sum) h
  | none=>.bad
 | .rev,.ref i=>match getL h i with
  | some xs=>newL xs.reverse h
  | none=>.bad
 | .clear,.ref i=>match h[i]? with
  | some (.lst _)=>.ok .non (h.set i (.lst []))
  | _=>.bad
 | .fld k,.ref i=>match h[i]? with
  | some (.ins _ fs)=>match getN k fs with
   | some d=>.ok d h
   | none=>.bad
  | _=>.bad
 | .isx cs xl,.ref i=>match h[i]? with
  | some (.xc c)=>if xl.contains c then .ok (.bl (cs.contains c)) h else .bad
  | _=>.bad
 | .upper,.str x=>if x.length≤1000000∧x.all (fun c=>decide (c < 128))=true then .ok (.str (x.map upC)) h else .bad
 | .isN,d=>.ok (.bl (match d with | .non=>true | _=>false)) h
 | .notN,d=>.ok (.bl (match d with | .non=>false | _=>true)) h
 | .isB b,.bl c=>.ok (.bl (b == c)) h
 | .isB _,.non=>.ok (.bl false) h
 | .isB _,.int _=>.ok (.bl false) h
 | .isB _,.str _=>.ok (.bl false) h
 | .nsB b,.bl c=>.ok (.bl (!(b == c))) h
 | .nsB _,.non=>.ok (.bl true) h
 | .nsB _,.int _=>.ok (.bl true) h
 | .nsB _,.str _=>.ok (.bl true) h
 | .isi t,d=>match isiD h t d with
  | some b=>.ok (.bl b) h
  | none=>.bad
 | _,_=>.bad
noncomputable def mulOk (i j:Int):Prop:=(-18446744073709551616 < i∧i < 18446744073709551616) ∨ (-18446744073709551616 < j∧j < 18446744073709551616)
instance (i j:Int):Decidable (mulOk i j):=by unfold mulOk; exact inferInstance
noncomputable def eqTop (h:AH) (x y:D):Option Bool:=eqD h 40 x y
noncomputable def inTx (x y:Tx):Option Bool:=match x with
 | [c]=>some (y.contains c)
 | _=>none
noncomputable def findC (a : Tx) (c : Nat) : Int := match a.findIdx? (· == c) with
  | some i => i
  | none => -1
noncomputable def posC (c:Nat):Nat→Tx→List Nat
 | _,[]=>[]
 | k,x::r=>if x=c then k::posC c (k+1) r else posC c (k+1) r
noncomputable def lastC (c:Nat):Nat→Tx→Option Nat
 | _,[]=>none
 | k,x::r=>match lastC c (k+1) r with
  | some i=>some i
  | none=>if x=c then some k else none
noncomputable def partsT (a : Tx) (cuts : List Nat) : List Tx := ((0 :: cuts.map (· + 1)).zip (cuts ++ [a.length])).map fun p => (a.drop p.1).take (p.2 - p.1)
noncomputable def partT (a:Tx) (c:Nat):List Tx:=match posC c 0 a with
 | i::_=>[a.take i,[c],a.drop (i+1)]
 | []=>[a,[],[]]
noncomputable def rpartT (a:Tx) (c:Nat):List Tx:=match lastC c 0 a with
 | some i=>[a.take i,[c],a.drop (i+1)]
 | none=>[[],[],a]
noncomputable def strsOf:List D→Option (List Tx)
 | []=>some []
 | .str x::r=>(strsOf r).map (x::·)
 | _::_=>none
noncomputable def joinT (sep:Tx):List Tx→Tx
 | []=>[]
 | [x]=>x
 | x::y::r=>x++sep++joinT sep (y::r)
noncomputable def joinN (sep:Tx) (xs:List Tx):Nat:=(xs.map List.length).sum+xs.length * sep.length
noncomputable def remD (f:D→Option Bool):List D→Option (List D)
 | []=>none
 | x::xs=>match f x with
  | some true=>some xs
  | some false=>(remD f xs).map (x::·)
  | none=>none
noncomputable def anyD (f:D→Option Bool):List D→Option Bool
 | []=>some false
 | x::xs=>match f x,anyD f xs with
  | some a,some b=>some (a || b)
  | _,_=>none
noncomputable def valY (kvs:List (Ky × D)) (k:Ky):Option D:=(kvs.find? fun kv=>decide (kv.1=k)).map (·.2)
noncomputable def putY (kvs:List (Ky × D)) (k:Ky) (d:D):List (Ky × D):=if (kvs.any fun kv=>decide (kv.1=k))=true then kvs.map (fun kv=>if kv.1=k then (kv.1,d) else kv) else kvs++[(k,d)]
noncomputable def mergeY (kvs more:List (Ky × D)):List (Ky × D):=more.foldl (fun acc kv=>putY acc kv.1 kv.2) kvs
noncomputable def ixK (k:Nat) (y:Ky):M D:=fun h=>match h[k]? with
 | some (.dct kvs)=>match valY kvs y with
  | some d=>.ok d h
  | none=>.bad
 | _=>.bad
noncomputable def hasK (k:Nat) (y:Ky):M D:=fun h=>match h[k]? with
 | some (.dct kvs)=>.ok (.bl (valY kvs y).isSome) h
 | _=>.bad
noncomputable def putKD (d:D) (k:Nat) (y:Ky):M Unit:=fun h=>match h[k]? with
 | some (.dct kvs)=>if kvs.length < 16777216 then .ok () (h.set k (.dct (putY kvs y d))) else .bad
 | _=>.bad
noncomputable def getK (k:Nat) (y:Ky):M D:=fun h=>match h[k]? with
 | some (.dct kvs)=>.ok ((valY kvs y).getD .non) h
 | _=>.bad
noncomputable def dropY (kvs:List (Ky × D)) (k:Ky):List (Ky × D):=kvs.filter fun kv=>decide (kv.1 ≠ k)
noncomputable def popK (k:Nat) (y:Ky):M D:=fun h=>match h[k]? with
 | some (.dct kvs)=>match valY kvs y with
  | some d=>.ok d (h.set k (.dct (dropY kvs y)))
  | none=>.bad
 | _=>.bad
noncomputable def setdK (k:Nat) (y:Ky) (d:D):M D:=fun h=>match h[k]? with
 | some (.dct kvs)=>match valY kvs y with
  | some x=>.ok x h
  | none=>if kvs.length < 16777216 then .ok d (h.set k (.dct (putY kvs y d))) else .bad
 | _=>.bad
noncomputable def setdD (x y z:D):M D:=match x,y with
 | .ref k,.int i=>setdK k (.int i) z
 | _,_=>M.bad
noncomputable def splmD (x y z:D):M D:=fun h=>match x,y,z with
 | .str a,.str b,.int k=>match b with
  | [c]=>if (c < 256∧a.length≤1000000)∧0≤k∧k≤1000000 then newL ((partsT a ((posC c 0 a).take k.toNat)).map .str) h else .bad
  | _=>.bad
 | _,_,_=>.bad
noncomputable def dispD (ks:List Ky) (ds:List D) (p:Nat):M D:=fun h=>match h[p]? with
 | some (.dct [])=>if ks.length=ds.length∧ks.length≤15 then .ok (.ref p) (h.set p (.dct (mergeY [] (ks.zip ds)))) else .bad
 | _=>.bad
noncomputable def biD (o : Bi) (x y : D) : M D := fun h => match o, x, y with
  | .add, .int i, .int j => .ok (.int (i + j)) h
  | .add, .str a, .str b => if a.length + b.length ≤ 16777216 then .ok (.str (a ++ b)) h else .bad
  | .add, .tup a, .tup b => if a.length + b.length ≤ 16777216 then .ok (.tup (a ++ b)) h else .bad
  | .add, .ref i, .ref j => match h[i]?, h[j]? with
    | some (.lst xs), some (.lst ys) => newL (xs ++ ys) h
    | _, _ => .bad
  | .sub, .int i, .int j => .ok (.int (i - j)) h
  | .mul, .int i, .int j => if mulOk i j then .ok (.int (i * j)) h else .bad
  | .fdiv, .int i, .int j => if 0 < j ∧ j < 1073741824 then .ok (.int (i / j)) h else .bad
  | .mod, .int i, .int j => if 0 < j then .ok (.int (i % j)) h else .bad
  | .pow, .int i, .int j => if 0 ≤ j ∧ j ≤ 1000000 ∧ i.natAbs < 18446744073709551616 then .ok (.int (i ^ j.toNat)) h else .bad
  | .eq, x, y => match eqTop h x y with
    | some b => .ok (.bl b) h
    | none => .bad
  | .ne, x, y => match eqTop h x y with
    | some b => .ok (.bl (!b)) h
    | none => .bad
  | .lt, .int i, .int j => .ok (.bl (decide (i < j))) h
  | .le, .int i, .int j => .ok (.bl (decide (i ≤ j))) h
  | .gt, .int i, .int j => .ok (.bl (decide (j < i))) h
  | .ge, .int i, .int j => .ok (.bl (decide (j ≤ i))) h
  | .isin, .str a, .str b => match inTx a b with
    | some r => .ok (.bl r) h
    | none => .bad
  | .isin, .int a, .ref i => match (getL h i).bind intsOf with
    | some xs => .ok (.bl (xs.contains a)) h
    | none => hasK i (.int a) h
  | .isin, .str a, .tup xs => match strsOf xs with
    | some ys => .ok (.bl (ys.contains a)) h
    | none => .bad
  | .isin, .tup a, .ref i => match (getL h i).bind (anyD fun x => eqTop h x (.tup a)) with
    | some b => .ok (.bl b) h
    | none => .bad
  | .notin, .int a, .ref i => match (getL h i).bind intsOf with
    | some xs => .ok (.bl (!xs.contains a)) h
    | none => .bad
  | .notin, .str a, .str b => match inTx a b with
    | some r => .ok (.bl (!r)) h
    | none => .bad
  | .ix, .tup xs, .int i => match (ixN xs.length i).bind (xs[·]?) with
    | some d => .ok d h
    | none => .bad
  | .ix, .str x, .int i => if x.length ≤ 16777216 then match (ixN x.length i).bind (x[·]?) with
    | some c => .ok (.str [c]) h
    | none => .bad
    else .bad
  | .ix, .ref k, .int i => match (getL h k).bind fun xs => (ixN xs.length i).bind (xs[·]?) with
    | some d => .ok d h
    | none => ixK k (.int i) h
  | .ix, .ref k, .str x => ixK k (.str x) h
  | .min2, .int i, .int j => .ok (.int (if j < i then j else i)) h
  | .max2, .int i, .int j => .ok (.int (if j > i then j else i)) h
  | .find, .str a, .str b => match b with
    | [c] => .ok (.int (findC a c)) h
    | _ => .bad
  | .zfill, .str x, .int n => if 0 ≤ n ∧ n ≤ 1000 ∧ isDig x = true ∧ x.length ≤ 1000 then .ok (.str (List.replicate (n.toNat - x.length) 48 ++ x)) h else .bad
  | .join, .str x, .ref i => match (getL h i).bind strsOf with
    | some xs => if joinN x xs ≤ 16777216 then .ok (.str (joinT x xs)) h else .bad
    | none => .bad
  | .append, .ref k, d => match h[k]? with
    | some (.lst xs) => if xs.length < 16777216 then .ok .non (h.set k (.lst (xs ++ [d]))) else .bad
    | _ => .bad
  | .remove, .ref k, d => match h[k]? with
    | some (.lst xs) => match remD (fun x => eqTop h x d) xs with
      | some ys => .ok .non (h.set k (.lst ys))
      | none => .bad
    | _ => .bad
  | .split, .str a, .str b => match b with
    | [c] => if c < 256 ∧ a.length ≤ 1000000 then newL ((partsT a (posC c 0 a)).map .str) h else .bad
    | _ => .bad
  | .part, .str a, .str b => match b with
    | [c] => if a.length ≤ 1000000 then .ok (.tup ((partT a c).map .str)) h else .bad
    | _ => .bad
  | .rpart, .str a, .str b => match b with
    | [c] => if a.length ≤ 1000000 then .ok (.tup ((rpartT a c).map .str)) h else .bad
    | _ => .bad
  | .get, .ref k, .int i => getK k (.int i) h
  | .pop, .ref k, .int i => popK k (.int i) h
  | .starts, .str a, .str b => .ok (.bl (b.isPrefixOf a)) h
  | .index, .ref k, .bl b => match (getL h k).bind boolsOf with
    | some bs => if bs.findIdx (· == b) < bs.length then .ok (.int (bs.findIdx (· == b))) h else .bad
    | none => .bad
  | _, _, _ => .bad
noncomputable def slD (x:D) (l u:Option Int):M D:=fun h=>match x with
 | .str x=>if x.length≤16777216 then .ok (.str (cutX x l u)) h else .bad
 | .tup xs=>.ok (.tup (cutX xs l u)) h
 | .ref i=>match getL h i with
  | some xs=>newL (cutX xs l u) h
  | none=>.bad
 | _=>.bad
noncomputable def meOk (o:Bi) (x:D):M Unit:=fun h=>match o,x with
 | .append,.ref i=>match getL h i with
  | some _=>.ok () h
  | none=>.bad
 | .remove,.ref i=>match getL h i with
  | some _=>.ok () h
  | none=>.bad
 | .find,.str _=>.ok () h
 | .split,.str _=>.ok () h
 | .part,.str _=>.ok () h
 | .rpart,.str _=>.ok () h
 | .join,.str _=>.ok () h
 | .zfill,.str _=>.ok () h
 | .starts,.str _=>.ok () h
 | .get,.ref i=>match h[i]? with
  | some (.dct _)=>.ok () h
  | _=>.bad
 | .pop,.ref i=>match h[i]? with
  | some (.dct _)=>.ok () h
  | _=>.bad
 | .index,.ref i=>match getL h i with
  | some _=>.ok () h
  | none=>.bad
 | _,_=>.bad
noncomputable def mclsD (m:Nat) (x:D):M Nat:=fun h=>match x with
 | .ref i=>match h[i]? with
  | some (.ins c fs)=>if (getN m fs).isNone then .ok c h else .bad
  | _=>.bad
 | _=>.bad
noncomputable def setFD (k:Nat) (cs:List Nat) (d x:D):M Unit:=fun h=>match x with
 | .ref i=>match h[i]? with
  | some (.ins c fs)=>if cs.contains c=true∧fs.length < 1000 then .ok () (h.set i (.ins c (putN k d fs))) else .bad
  | _=>.bad
 | _=>.bad
noncomputable def setIxD (d x y:D):M Unit:=fun h=>match x,y with
 | .ref k,.int j=>match h[k]? with
  | some (.lst xs)=>match ixN xs.length j with
   | some p=>.ok () (h.set k (.lst (xs.set p d)))
   | none=>.bad
  | _=>putKD d k (.int j) h
 | .ref k,.str x=>putKD d k (.str x) h
 | _,_=>.bad
noncomputable def makeD (F:Nat→List D→M D) (c f:Nat) (xs:List D):M D:=fun h=>(F f (.ref h.length::xs) (h++[.ins c []])).bind fun d h'=>match d with
 | .non=>.ok (.ref h.length) h'
 | _=>.bad
noncomputable def intD (d:D):M (Option Int):=fun h=>match d with
 | .int i=>.ok (some i) h
 | _=>.bad
mutual
inductive CE where
 | lit (d:D) | var (i:Nat) | un (o:Un) (a:CE) | bi (o:Bi) (a b:CE) | sl (a:CE) (lo hi:CP)
 | and (a b:CE) | or (a b:CE) | not (a:CE) | ite (c:CT) (a b:CE) | chain (o p:Bi) (a b c:CE) | me (o:Bi) (a b:CE) | setd (a b c:CE) | splm (a b c:CE)
 | tup (es:CL) | lst (es:CL) | disp (ks:List Ky) (es:CL) | call (f:Nat) (es:CL) | meth (m:Nat) (tb:List (Nat × Nat)) (a:CE) (es:CL) | make (c f:Nat) (es:CL) | comp (elt:CE) (it:CI) | compIf (elt:CE) (c:CT) (it:CI)
inductive CT where
 | val (e:CE) | and (a b:CT) | or (a b:CT) | not (a:CT)
inductive CL where
 | nil | cons (e:CE) (r:CL)
inductive CI where
 | of (e:CE) | rng1 (e:CE) | rng2 (a b:CE) | rng3 (a b c:CE)
inductive CP where
 | no | at (e:CE)
end
inductive TG where
 | nm (i:Nat) | two (i j:Nat)
mutual
inductive CS where
 | skip | opq | seq (a b:CS) | set (t:TG) (e:CE) | exp (e:CE) | ret (e:CE) | retN | ite (c:CT) (a b:CS)
 | fori (t:TG) (it:CI) (b:CS) | whil (c:CT) (b:CS) | brk | cnt | raise (c:Nat) | setF (a:CE) (k:Nat) (cs:List Nat) (e:CE) | setIx (a i e:CE) | tryx (b:CS) (hs:CH)
inductive CH where
 | nil | cons (cs:List Nat) (k:CS) (r:CH) | as (cs:List Nat) (i:Nat) (k:CS) (r:CH)
end
inductive It where
 | row (xs:List D) | live (i:Nat)
noncomputable def rangeD (lo:Int) (n:Nat):List D:=(List.range n).map fun (k:Nat)=>D.int (lo+k)
noncomputable def nS (i j k:Int):Nat:=if i < j then ((j - i - 1) / k+1).toNat else 0
noncomputable def rangeS (lo st:Int) (n:Nat):List D:=(List.range n).map fun (k:Nat)=>D.int (lo+k * st)
noncomputable def itOf (d:D):M It:=fun h=>match d with
 | .str x=>.ok (.row (x.map fun c=>.str [c])) h
 | .tup xs=>.ok (.row xs) h
 | .ref i=>match getL h i with
  | some _=>.ok (.live i) h
  | none=>.bad
 | _=>.bad
noncomputable def small62 (i:Int):Prop:=-4611686018427387904≤i∧i < 4611686018427387904
instance (i:Int):Decidable (small62 i):=by unfold small62; exact inferInstance
noncomputable def compF (m:Env→M D) (σ:Env) (x:D):M (Option D):=(m (σ++[some x])).calm.bind fun y=>M.ret (some y)
noncomputable def compIfF (m:Env→M D) (c:Env→M Bool) (σ:Env) (x:D):M (Option D):=(c (σ++[some x])).calm.bind fun k=>if k then (m (σ++[some x])).calm.bind fun y=>M.ret (some y) else M.ret none
noncomputable def mapRow (f:D→M (Option D)):List D→M (List D)
 | []=>M.ret []
 | x::xs=>(f x).bind fun y=>(mapRow f xs).bind fun ys=>M.ret (match y with | some y=>y::ys | none=>ys)
noncomputable def mapLive (f:D→M (Option D)) (i:Nat):Nat→Nat→M (List D)
 | 0,_=>M.bad
 | n+1,k=>fun h=>match getL h i with
  | none=>.bad
  | some xs=>match xs[k]? with
   | none=>.ok [] h
   | some x=>((f x).bind fun y=>(mapLive f i n (k+1)).bind fun ys=>M.ret (match y with | some y=>y::ys | none=>ys)) h
noncomputable def mapIt (f:D→M (Option D)):It→M (List D)
 | .row xs=>M.when (xs.length < 16777216) (mapRow f xs)
 | .live i=>fun h=>M.when (liveN h i < 16777216) (mapLive f i (liveN h i) 0) h
section
variable (F:Nat→List D→M D)
mutual
noncomputable def den:CE→Env→M D
 | .lit d,_=>M.ret d
 | .var i,σ=>fun h=>match σ[i]? with
  | some (some d)=>.ok d h
  | _=>.bad
 | .un o a,σ=>(den a σ).bind (unD o)
 | .bi o a b,σ=>(den a σ).bind fun x=>(den b σ).bind fun y=>biD o x y
 | .sl a lo hi,σ=>(den a σ).bind fun x=>(denP lo σ).bind fun l=>(denP hi σ).bind fun u=>slD x l u
 | .and a b,σ=>(den a σ).bind fun x=>match x with
  | .bl true=>den b σ
  | .bl false=>M.ret (.bl false)
  | _=>M.bad
 | .or a b,σ=>(den a σ).bind fun x=>match x with
  | .bl true=>M.ret (.bl true)
  | .bl false=>den b σ
  | _=>M.bad
 | .not a,σ=>((den a σ).bind truth).bind fun b=>M.ret (.bl (!b))
 | .ite c a b,σ=>(denT c σ).bind fun k=>if k then den a σ else den b σ
 | .chain o p a b c,σ=>(den a σ).bind fun x=>(den b σ).bind fun y=>(biD o x y).bind fun z=>match z with
  | .bl true=>(den c σ).bind fun w=>biD p y w
  | .bl false=>M.ret (.bl false)
  | _=>M.bad
 | .me o a b,σ=>(den a σ).bind fun x=>(meOk o x).bind fun _=>(den b σ).bind fun y=>biD o x y
 | .setd a b c,σ=>(den a σ).bind fun x=>(meOk .get x).bind fun _=>(den b σ).bind fun y=>(den c σ).bind fun z=>setdD x y z
 | .splm a b c,σ=>(den a σ).bind fun x=>(meOk .split x).bind fun _=>(den b σ).bind fun y=>(den c σ).bind fun z=>splmD x y z
 | .tup es,σ=>(denL es σ).bind fun xs=>M.when (xs.length≤16777216) (M.ret (.tup xs))
 | .lst es,σ=>(denL es σ).bind newL
 | .disp ks es,σ=>fun h=>(denL es σ (h++[.dct []])).bind fun ds=>dispD ks ds h.length
 | .call f es,σ=>(denL es σ).bind (F f)
 | .meth m tb a es,σ=>(den a σ).bind fun x=>(mclsD m x).bind fun c=>match tbN tb c with
  | some f=>(denL es σ).bind fun xs=>F f (x::xs)
  | none=>M.bad
 | .make c f es,σ=>(denL es σ).bind (makeD F c f)
 | .comp e it,σ=>(denI it σ).bind fun r=>(mapIt (compF (den e) σ) r).bind newL
 | .compIf e c it,σ=>(denI it σ).bind fun r=>(mapIt (compIfF (den e) (denT c) σ) r).bind newL
noncomputable def denL:CL→Env→M (List D)
 | .nil,_=>M.ret []
 | .cons e r,σ=>(den e σ).bind fun x=>(denL r σ).bind fun xs=>M.ret (x::xs)
noncomputable def denI:CI→Env→M It
 | .of e,σ=>(den e σ).bind itOf
 | .rng1 e,σ=>(den e σ).bind fun x=>match x with
  | .int j=>M.when (small62 j) (M.ret (.row (rangeD 0 j.toNat)))
  | _=>M.bad
 | .rng2 a b,σ=>(den a σ).bind fun x=>(den b σ).bind fun y=>match x,y with
  | .int i,.int j=>M.when (small62 i∧small62 j) (M.ret (.row (rangeD i (j - i).toNat)))
  | _,_=>M.bad
 | .rng3 a b c,σ=>(den a σ).bind fun x=>(den b σ).bind fun y=>(den c σ).bind fun z=>match x,y,z with
  | .int i,.int j,.int k=>M.when ((small62 i∧small62 j)∧0 < k∧k < 1073741824) (M.ret (.row (rangeS i k (nS i j k))))
  | _,_,_=>M.bad
noncomputable def denP:CP→Env→M (Option Int)
 | .no,_=>M.ret none
 | .at e,σ=>(den e σ).bind intD
noncomputable def denT:CT→Env→M Bool
 | .val e,σ=>(den e σ).bind truth
 | .and a b,σ=>(denT a σ).bind fun x=>if x then denT b σ else M.ret false
 | .or a b,σ=>(denT a σ).bind fun x=>if x then M.ret true else denT b σ
 | .not a,σ=>(denT a σ).bind fun b=>M.ret (!b)
end
end
inductive SR where
 | nx (σ:Env) (h:AH) | rt (d:D) (h:AH) | bk (σ:Env) (h:AH) | ct (σ:Env) (h:AH) | exc (c:Nat) (σ:Env) (h:AH) | bad
noncomputable def SR.ofR {α:Type} (σ:Env):R α→(α→AH→SR)→SR
 | .ok a h,f=>f a h
 | .exc c h,_=>.exc c σ h
 | .bad,_=>.bad
noncomputable def SR.andThen:SR→(Env→AH→SR)→SR
 | .nx σ h,f=>f σ h
 | r,_=>r
noncomputable def tgSet (t:TG) (d:D) (σ:Env):Option Env:=match t with
 | .nm i=>some (σ.set i (some d))
 | .two i j=>match d with
  | .tup [a,b]=>some ((σ.set i (some a)).set j (some b))
  | _=>none
noncomputable def SR.calm:SR→SR
 | .exc _ _ _=>.bad
 | r=>r
noncomputable def SR.rtO:SR→SR
 | .rt d h=>.rt d h
 | _=>.bad
noncomputable def SR.catch:SR→(Nat→Env→AH→SR)→SR
 | .exc c σ h,f=>f c σ h
 | r,_=>r
noncomputable def SR.turn:SR→(Env→AH→SR)→SR
 | .nx σ h,f=>f σ h
 | .ct σ h,f=>f σ h
 | .bk σ h,_=>.nx σ h
 | .exc _ _ _,_=>.bad
 | r,_=>r
noncomputable def turnOf (t:TG) (b:Env→AH→SR) (x:D) (σ:Env) (h:AH):SR:=match tgSet t x σ with
 | some σ'=>b σ' h
 | none=>.bad
noncomputable def forRow (step:D→Env→AH→SR):List D→Env→AH→SR
 | [],σ,h=>.nx σ h
 | x::xs,σ,h=>(step x σ h).turn (forRow step xs)
noncomputable def forLive (step:D→Env→AH→SR) (i:Nat):Nat→Nat→Env→AH→SR
 | 0,_,_,_=>.bad
 | n+1,k,σ,h=>match getL h i with
  | none=>.bad
  | some xs=>match xs[k]? with
   | none=>.nx σ h
   | some x=>(step x σ h).turn (forLive step i n (k+1))
noncomputable def forIt (step:D→Env→AH→SR):It→Env→AH→SR
 | .row xs,σ,h=>forRow step xs σ h
 | .live i,σ,h=>forLive step i (liveN h i) 0 σ h
noncomputable def whileN (c:Env→M Bool) (step:Env→AH→SR):Nat→Env→AH→SR
 | 0,_,_=>.bad
 | n+1,σ,h=>match c σ h with
  | .ok b h1=>if b then (step σ h1).turn (whileN c step n) else .nx σ h1
  | _=>.bad
section
variable (F:Nat→List D→M D) (B:Nat)
mutual
noncomputable def denS:CS→Env→AH→SR
 | .skip,σ,h=>.nx σ h
 | .opq,_,_=>.bad
 | .seq a b,σ,h=>(denS a σ h).andThen (denS b)
 | .set t e,σ,h=>SR.ofR σ (den F e σ h) fun d h1=>match tgSet t d σ with
  | some σ'=>.nx σ' h1
  | none=>.bad
 | .exp e,σ,h=>SR.ofR σ (den F e σ h) fun _ h1=>.nx σ h1
 | .ret e,σ,h=>SR.ofR σ (den F e σ h) fun d h1=>.rt d h1
 | .retN,_,h=>.rt .non h
 | .ite c a b,σ,h=>SR.ofR σ (denT F c σ h) fun k h1=>if k then denS a σ h1 else denS b σ h1
 | .fori t it b,σ,h=>SR.ofR σ (denI F it σ h).calm fun r h1=>forIt (turnOf t (denS b)) r σ h1
 | .whil c b,σ,h=>whileN (denT F c) (denS b) B σ h
 | .brk,σ,h=>.bk σ h
 | .cnt,σ,h=>.ct σ h
 | .raise c,σ,h=>.exc c σ h
 | .setF a k cs e,σ,h=>SR.ofR σ (den F e σ h) fun d h1=>SR.ofR σ ((den F a σ).bind (setFD k cs d) h1) fun _ h2=>.nx σ h2
 | .setIx a i e,σ,h=>SR.ofR σ (den F e σ h) fun d h1=>SR.ofR σ ((den F a σ).bind (fun x=>(den F i σ).bind fun y=>setIxD d x y) h1) fun _ h2=>.nx σ h2
 | .tryx b hs,σ,h=>(denS b σ h).catch fun c σ' h'=>denH hs c σ' h'
noncomputable def denH:CH→Nat→Env→AH→SR
 | .nil,_,_,_=>.bad
 | .cons cs k r,c,σ,h=>if cs.contains c then (denS k σ h).calm else denH r c σ h
 | .as cs i k r,c,σ,h=>if cs.contains c then (denS k (σ.set i (some (.ref h.length))) (h++[.xc c])).rtO else denH r c σ h
end
end
structure Fn where
 ar:Nat
 sl:Nat
 body:CS
noncomputable def fin:SR→R D
 | .nx _ h'=>.ok .non h'
 | .rt d h'=>.ok d h'
 | .exc c _ h'=>.exc c h'
 | _=>.bad
noncomputable def runFn (F:Nat→List D→M D) (B:Nat) (f:Fn) (as:List D):M D:=fun h =>
 if as.length=f.ar then fin (denS F B f.body (as.map some++List.replicate (f.sl - f.ar) none) h) else .bad
noncomputable def callN (fs:List Fn) (B:Nat):Nat→Nat→List D→M D
 | 0,_,_=>M.bad
 | n+1,f,as=>match fs[f]? with
  | some fn=>runFn (callN fs B n) B fn as
  | none=>M.bad
end Fy
set_option Elab.async false
set_option linter.all false
namespace Fy
theorem M.bind_eq {α β:Type} (m:M α) (f:α→M β) (h:AH):M.bind m f h=(m h).bind f:=(rfl)
theorem R.bind_ok {α β:Type} (a:α) (h:AH) (f:α→AH→R β):R.bind (.ok a h) f=f a h:=(rfl)
theorem R.bind_exc {α β:Type} (c:Nat) (h:AH) (f:α→AH→R β):R.bind (.exc c h) f=.exc c h:=(rfl)
theorem R.bind_bad {α β:Type} (f:α→AH→R β):R.bind .bad f=.bad:=(rfl)
theorem M.ret_eq {α:Type} (a:α) (h:AH):M.ret a h=.ok a h:=(rfl)
theorem M.bad_eq {α:Type} (h:AH):(M.bad:M α) h=.bad:=(rfl)
theorem ofR_ok {α:Type} (σ:Env) (a:α) (h:AH) (f:α→AH→SR):SR.ofR σ (.ok a h) f=f a h:=(rfl)
theorem ofR_exc {α:Type} (σ:Env) (c:Nat) (h:AH) (f:α→AH→SR):SR.ofR σ (.exc c h) f=.exc c σ h:=(rfl)
theorem ofR_bad {α:Type} (σ:Env) (f:α→AH→SR):SR.ofR σ .bad f=.bad:=(rfl)
theorem when_eq {α:Type} (c:Prop) [Decidable c] (m:M α) (h:AH):M.when c m h=if c then m h else .bad:=(rfl)
end Fy
namespace Fy
end Fy
namespace Fy
theorem andThen_bad (f:Env→AH→SR):SR.andThen .bad f=.bad:=(rfl)
theorem andThen_nx (σ:Env) (h:AH) (f:Env→AH→SR):SR.andThen (.nx σ h) f=f σ h:=(rfl)
theorem andThen_rt (d:D) (h:AH) (f:Env→AH→SR):SR.andThen (.rt d h) f=.rt d h:=(rfl)
theorem andThen_bk (σ:Env) (h:AH) (f:Env→AH→SR):SR.andThen (.bk σ h) f=.bk σ h:=(rfl)
theorem andThen_ct (σ:Env) (h:AH) (f:Env→AH→SR):SR.andThen (.ct σ h) f=.ct σ h:=(rfl)
theorem andThen_exc (c:Nat) (σ:Env) (h:AH) (f:Env→AH→SR):SR.andThen (.exc c σ h) f=.exc c σ h:=(rfl)
theorem turn_nx (σ:Env) (h:AH) (f:Env→AH→SR):SR.turn (.nx σ h) f=f σ h:=(rfl)
theorem turn_ct (σ:Env) (h:AH) (f:Env→AH→SR):SR.turn (.ct σ h) f=f σ h:=(rfl)
theorem turn_bk (σ:Env) (h:AH) (f:Env→AH→SR):SR.turn (.bk σ h) f=.nx σ h:=(rfl)
theorem turn_rt (d:D) (h:AH) (f:Env→AH→SR):SR.turn (.rt d h) f=.rt d h:=(rfl)
theorem turn_exc (c:Nat) (σ:Env) (h:AH) (f:Env→AH→SR):SR.turn (.exc c σ h) f=.bad:=(rfl)
theorem turnOf_nm (i:Nat) (b:Env→AH→SR) (x:D) (σ:Env) (h:AH):turnOf (.nm i) b x σ h=b (σ.set i (some x)) h:=(rfl)
theorem turnOf_two (i j:Nat) (b:Env→AH→SR) (x y:D) (σ:Env) (h:AH):turnOf (.two i j) b (.tup [x,y]) σ h=b ((σ.set i (some x)).set j (some y)) h:=(rfl)
theorem mulOk_r {i j:Int} (h:-18446744073709551616 < j∧j < 18446744073709551616):mulOk i j:=.inr h
theorem mulOk_l {i j:Int} (h:-18446744073709551616 < i∧i < 18446744073709551616):mulOk i j:=.inl h
theorem getL_app {h:AH} {i:Nat} {xs:List D} (g:AH) (e:getL h i=some xs):getL (h++g) i=some xs:=by
 unfold getL at e ⊢
 cases q:h[i]? with
 | none=>rw [q] at e; cases e
 | some o =>
  have hl:=(List.getElem?_eq_some_iff.mp q).1
  rw [List.getElem?_append_left hl,q]
  rw [q] at e
  exact e
end Fy
namespace Fy
theorem scalm_nx (σ:Env) (h:AH):SR.calm (.nx σ h)=.nx σ h:=(rfl)
theorem scalm_rt (d:D) (h:AH):SR.calm (.rt d h)=.rt d h:=(rfl)
theorem mclsD_ref (m i:Nat) (h:AH):mclsD m (.ref i) h=(match h[i]? with | some (.ins c fs)=>if (getN m fs).isNone then .ok c h else .bad | _=>.bad):=(rfl)
theorem setFD_ref (k:Nat) (cs:List Nat) (d:D) (i:Nat) (h:AH):setFD k cs d (.ref i) h=(match h[i]? with | some (.ins c fs)=>if cs.contains c=true∧fs.length < 1000 then .ok () (h.set i (.ins c (putN k d fs))) else .bad | _=>.bad):=(rfl)
theorem setIxD_ref (d:D) (k:Nat) (j:Int) (h:AH):setIxD d (.ref k) (.int j) h=(match h[k]? with | some (.lst xs)=>(match ixN xs.length j with | some p=>.ok () (h.set k (.lst (xs.set p d))) | none=>.bad) | _=>putKD d k (.int j) h):=(rfl)
theorem setIxD_str (d:D) (k:Nat) (x:Tx) (h:AH):setIxD d (.ref k) (.str x) h=putKD d k (.str x) h:=(rfl)
theorem rtO_rt (d:D) (h:AH):SR.rtO (.rt d h)=.rt d h:=(rfl)
theorem catch_nx (σ:Env) (h:AH) (f:Nat→Env→AH→SR):SR.catch (.nx σ h) f=.nx σ h:=(rfl)
theorem catch_rt (d:D) (h:AH) (f:Nat→Env→AH→SR):SR.catch (.rt d h) f=.rt d h:=(rfl)
theorem catch_exc (c:Nat) (σ:Env) (h:AH) (f:Nat→Env→AH→SR):SR.catch (.exc c σ h) f=f c σ h:=(rfl)
theorem fin_bad:fin .bad=.bad:=(rfl)
theorem fin_nx (σ:Env) (h:AH):fin (.nx σ h)=.ok .non h:=(rfl)
theorem fin_rt (d:D) (h:AH):fin (.rt d h)=.ok d h:=(rfl)
theorem fin_exc (c:Nat) (σ:Env) (h:AH):fin (.exc c σ h)=.exc c h:=(rfl)
end Fy
namespace Fy
theorem forRow_ex (I : Nat → Env → AH → Prop) (step : D → Env → AH → SR) : ∀ (xs : List D) (k : Nat) (σ : Env) (h : AH), I k σ h →
    (∀ j x σ h, xs[j]? = some x → I (k + j) σ h → ∃ σ' h', step x σ h = .nx σ' h' ∧ I (k + j + 1) σ' h') → ∃ σ' h', forRow step xs σ h = .nx σ' h' ∧ I (k + xs.length) σ' h'
  | [], k, σ, h, i0, _ => ⟨σ, h, rfl, i0⟩
  | x :: xs, k, σ, h, i0, H => by
    obtain ⟨σ1, h1, e1, i1⟩ := H 0 x σ h rfl i0
    obtain ⟨σ2, h2, e2, i2⟩ := forRow_ex I step xs (k + 1) σ1 h1 i1 fun j y σ h hy i => by
      have := H (j + 1) y σ h (by simpa using hy) (by rw [show k + (j + 1) = k + 1 + j by omega]; exact i)
      rwa [show k + (j + 1) = k + 1 + j by omega] at this
    refine ⟨σ2, h2, ?_, by rw [List.length_cons, show k + (xs.length + 1) = k + 1 + xs.length by omega]; exact i2⟩
    rw [forRow, e1]
    exact e2
theorem forLive_ex (I : Nat → Env → AH → Prop) (step : D → Env → AH → SR) (i : Nat) (xs : List D) (hg : ∀ k σ h, I k σ h → getL h i = some xs)
    (H : ∀ j x σ h, xs[j]? = some x → I j σ h → ∃ σ' h', step x σ h = .nx σ' h' ∧ I (j + 1) σ' h') :
    ∀ (n k : Nat) (σ : Env) (h : AH), n + k = xs.length + 1 → k ≤ xs.length → I k σ h → ∃ σ' h', forLive step i n k σ h = .nx σ' h' ∧ I xs.length σ' h'
  | 0, k, σ, h, hn, hk, i0 => by omega
  | n + 1, k, σ, h, hn, hk, i0 => by
    unfold forLive
    rw [hg k σ h i0]
    simp only
    by_cases hlt : k < xs.length
    · have e : xs[k]? = some xs[k] := by simp [hlt]
      rw [e]
      simp only
      obtain ⟨σ1, h1, e1, i1⟩ := H k _ σ h e i0
      rw [e1]
      exact forLive_ex I step i xs hg H n (k + 1) σ1 h1 (by omega) hlt i1
    · have e : k = xs.length := by omega
      subst e
      have e2 : xs[xs.length]? = none := by simp
      rw [e2]
      exact ⟨σ, h, rfl, i0⟩
theorem forIt_live (I : Nat → Env → AH → Prop) (step : D → Env → AH → SR) (i : Nat) (xs : List D) (σ : Env) (h : AH) (i0 : I 0 σ h) (hg : ∀ k σ h, I k σ h → getL h i = some xs)
    (H : ∀ j x σ h, xs[j]? = some x → I j σ h → ∃ σ' h', step x σ h = .nx σ' h' ∧ I (j + 1) σ' h') : ∃ σ' h', forLive step i (liveN h i) 0 σ h = .nx σ' h' ∧ I xs.length σ' h' := by
  unfold liveN
  rw [hg 0 σ h i0]
  exact forLive_ex I step i xs hg H _ 0 σ h rfl (Nat.zero_le _) i0
theorem range_get {lo:Int} {n j:Nat} {x:D} (h:(rangeD lo n)[j]?=some x):j < n∧x=.int (lo+j):=by
 unfold rangeD at h
 rw [List.getElem?_map] at h
 by_cases hj:j < n
 ·rw [List.getElem?_range hj] at h
  exact ⟨hj,(Option.some.inj h).symm⟩
 ·rw [List.getElem?_eq_none (by simp; omega)] at h
  cases h
theorem range_len (lo:Int) (n:Nat):(rangeD lo n).length=n:=by
 unfold rangeD
 simp
end Fy
namespace Fy
theorem mapRow_pure (f:D→M (Option D)) (g:D→D) (h:AH):∀ xs:List D,(∀ x ∈ xs,f x h=.ok (some (g x)) h)→mapRow f xs h=.ok (xs.map g) h
 | [],_=>rfl
 | x::xs,H=>by
  have h1:=H x (List.mem_cons_self ..)
  have h2:=mapRow_pure f g h xs fun y hy=>H y (List.mem_cons_of_mem _ hy)
  unfold mapRow
  simp only [M.bind_eq,h1,R.bind_ok,h2,M.ret_eq,List.map_cons]
theorem getL_new (h:AH) (xs:List D):getL (h++[.lst xs]) h.length=some xs:=by
 unfold getL
 simp
theorem boolsOf_map {α:Type} (f:α→Bool) (xs:List α):boolsOf (xs.map fun c=>.bl (f c))=some (xs.map f):=by
 induction xs with
 | nil=>rfl
 | cons x xs ih=>simp only [List.map_cons,boolsOf,ih,Option.map_some]
theorem allB_map {α:Type} (f:α→Bool) (xs:List α):allB (xs.map fun c=>.bl (f c))=some (xs.all f):=by
 unfold allB
 rw [boolsOf_map,Option.map_some,List.all_map]
 rfl
end Fy
namespace Fy
theorem mapIt_row (f:D→M (Option D)) (xs:List D) (h:AH):mapIt f (.row xs) h=if xs.length < 16777216 then mapRow f xs h else .bad:=(rfl)
theorem mapIt_live (f:D→M (Option D)) (i:Nat) (h:AH):mapIt f (.live i) h=if liveN h i < 16777216 then mapLive f i (liveN h i) 0 h else .bad:=(rfl)
theorem compF_eq (m:Env→M D) (σ:Env) (x:D) (h:AH):compF m σ x h=R.bind (m (σ++[some x]) h).calm fun y h'=>.ok (some y) h':=(rfl)
theorem calm_ok {α:Type} (a:α) (h:AH):(R.ok a h).calm=.ok a h:=(rfl)
theorem calm_eq {α:Type} (m:M α) (h:AH):M.calm m h=(m h).calm:=(rfl)
theorem int_le_nat (a c:Nat):decide ((a:Int)≤(c:Int))=decide (a≤c):=by
 rw [Bool.eq_iff_iff]
 simp
theorem int_lt_nat (a c:Nat):decide ((a:Int) < (c:Int))=decide (a < c):=by
 rw [Bool.eq_iff_iff]
 simp
theorem int_eq_nat (a c:Nat):((a:Int) == (c:Int))=decide (a=c):=by
 rw [Bool.eq_iff_iff]
 simp
 omega
end Fy
namespace Fy
theorem ixN_nat {n k:Nat} (h:k < n):ixN n (k:Int)=some k:=by
 unfold ixN
 rw [if_pos (by omega),if_pos (by omega),Int.toNat_natCast]
end Fy
set_option Elab.async false
set_option linter.all false
namespace Fy
theorem u_neg1 (i:Int) (h:AH):unD .neg (.int i) h=(.ok (.int (-i)) h):=(rfl)
theorem u_len1 (x:Tx) (h:AH):unD .len (.str x) h=(if x.length≤16777216 then .ok (.int x.length) h else .bad):=(rfl)
theorem u_len2 (xs:List D) (h:AH):unD .len (.tup xs) h=(.ok (.int xs.length) h):=(rfl)
theorem u_len3 (i:Nat) (h:AH):unD .len (.ref i) h=(match getL h i with | some xs=>.ok (.int xs.length) h | none=>.bad):=(rfl)
theorem u_str1 (i:Int) (h:AH):unD .str (.int i) h=(if i.natAbs.log2 < 1920 then .ok (.str (txI i)) h else .bad):=(rfl)
theorem u_int1 (i:Int) (h:AH):unD .int (.int i) h=(.ok (.int i) h):=(rfl)
theorem u_int2 (b:Bool) (h:AH):unD .int (.bl b) h=(.ok (.int (b2i b)) h):=(rfl)
theorem u_int3 (x:Tx) (h:AH):unD .int (.str x) h=(if x ≠ []∧x.length≤640∧isDig x=true then .ok (.int (digV x)) h else .bad):=(rfl)
theorem u_ord1 (c:Nat) (h:AH):unD .ord (.str [c]) h=(.ok (.int c) h):=(rfl)
theorem u_tuple1 (xs:List D) (h:AH):unD .tuple (.tup xs) h=(.ok (.tup xs) h):=(rfl)
theorem u_tuple2 (i:Nat) (h:AH):unD .tuple (.ref i) h=(match getL h i with | some xs=>.ok (.tup xs) h | none=>.bad):=(rfl)
theorem u_list1 (xs:List D) (h:AH):unD .list (.tup xs) h=(newL xs h):=(rfl)
theorem u_list2 (i:Nat) (h:AH):unD .list (.ref i) h=(match getL h i with | some xs=>newL xs h | none=>.bad):=(rfl)
theorem u_all1 (i:Nat) (h:AH):unD .all (.ref i) h=(match (getL h i).bind allB with | some b=>.ok (.bl b) h | none=>.bad):=(rfl)
theorem u_any1 (i:Nat) (h:AH):unD .any (.ref i) h=(match (getL h i).bind anyB with | some b=>.ok (.bl b) h | none=>.bad):=(rfl)
theorem u_upper1 (x:Tx) (h:AH):unD .upper (.str x) h=(if x.length≤1000000∧x.all (fun c=>decide (c < 128))=true then .ok (.str (x.map upC)) h else .bad):=(rfl)
theorem u_sum1 (i:Nat) (h:AH):unD .sum (.ref i) h=(match (getL h i).bind intsOf with | some xs=>.ok (.int xs.sum) h | none=>.bad):=(rfl)
theorem u_rev1 (i:Nat) (h:AH):unD .rev (.ref i) h=(match getL h i with | some xs=>newL xs.reverse h | none=>.bad):=(rfl)
theorem u_clear1 (i:Nat) (h:AH):unD .clear (.ref i) h=(match h[i]? with | some (.lst _)=>.ok .non (h.set i (.lst [])) | _=>.bad):=(rfl)
theorem u_isx1 (cs xl:List Nat) (i:Nat) (h:AH):unD (.isx cs xl) (.ref i) h=(match h[i]? with | some (.xc c)=>if xl.contains c then .ok (.bl (cs.contains c)) h else .bad | _=>.bad):=(rfl)
theorem u_fld1 (k i:Nat) (h:AH):unD (.fld k) (.ref i) h=(match h[i]? with | some (.ins _ fs)=>(match getN k fs with | some d=>.ok d h | none=>.bad) | _=>.bad):=(rfl)
theorem u_isN1 (d:D) (h:AH):unD .isN d h=(.ok (.bl (match d with | .non=>true | _=>false)) h):=(rfl)
theorem u_notN1 (d:D) (h:AH):unD .notN d h=(.ok (.bl (match d with | .non=>false | _=>true)) h):=(rfl)
theorem u_isB1 (b c:Bool) (h:AH):unD (.isB b) (.bl c) h=(.ok (.bl (b == c)) h):=(rfl)
theorem u_isB2 (b:Bool) (h:AH):unD (.isB b) (.non) h=(.ok (.bl false) h):=(rfl)
theorem u_isB3 (b:Bool) (i:Int) (h:AH):unD (.isB b) (.int i) h=(.ok (.bl false) h):=(rfl)
theorem u_isB4 (b:Bool) (x:Tx) (h:AH):unD (.isB b) (.str x) h=(.ok (.bl false) h):=(rfl)
theorem u_nsB1 (b c:Bool) (h:AH):unD (.nsB b) (.bl c) h=(.ok (.bl (!(b == c))) h):=(rfl)
theorem u_nsB2 (b:Bool) (h:AH):unD (.nsB b) (.non) h=(.ok (.bl true) h):=(rfl)
theorem u_nsB3 (b:Bool) (i:Int) (h:AH):unD (.nsB b) (.int i) h=(.ok (.bl true) h):=(rfl)
theorem u_nsB4 (b:Bool) (x:Tx) (h:AH):unD (.nsB b) (.str x) h=(.ok (.bl true) h):=(rfl)
theorem u_isi1 (t:Ty) (d:D) (h:AH):unD (.isi t) d h=(match isiD h t d with | some b=>.ok (.bl b) h | none=>.bad):=(rfl)
theorem o_add1 (i j:Int) (h:AH):biD .add (.int i) (.int j) h=(.ok (.int (i+j)) h):=(rfl)
theorem o_add2 (a b:Tx) (h:AH):biD .add (.str a) (.str b) h=(if a.length+b.length≤16777216 then .ok (.str (a++b)) h else .bad):=(rfl)
theorem o_add3 (a b:List D) (h:AH):biD .add (.tup a) (.tup b) h=(if a.length+b.length≤16777216 then .ok (.tup (a++b)) h else .bad):=(rfl)
theorem o_add4 (i j:Nat) (h:AH):biD .add (.ref i) (.ref j) h=(match h[i]?,h[j]? with | some (.lst xs),some (.lst ys)=>newL (xs++ys) h | _,_=>.bad):=(rfl)
theorem o_sub1 (i j:Int) (h:AH):biD .sub (.int i) (.int j) h=(.ok (.int (i - j)) h):=(rfl)
theorem o_mul1 (i j:Int) (h:AH):biD .mul (.int i) (.int j) h=(if mulOk i j then .ok (.int (i * j)) h else .bad):=(rfl)
theorem o_split1 (a:Tx) (c:Nat) (h:AH):biD .split (.str a) (.str [c]) h=(if c < 256∧a.length≤1000000 then newL ((partsT a (posC c 0 a)).map .str) h else .bad):=(rfl)
theorem o_part1 (a:Tx) (c:Nat) (h:AH):biD .part (.str a) (.str [c]) h=(if a.length≤1000000 then .ok (.tup ((partT a c).map .str)) h else .bad):=(rfl)
theorem o_rpart1 (a:Tx) (c:Nat) (h:AH):biD .rpart (.str a) (.str [c]) h=(if a.length≤1000000 then .ok (.tup ((rpartT a c).map .str)) h else .bad):=(rfl)
theorem o_get1 (k:Nat) (i:Int) (h:AH):biD .get (.ref k) (.int i) h=(getK k (.int i) h):=(rfl)
theorem o_pop1 (k:Nat) (i:Int) (h:AH):biD .pop (.ref k) (.int i) h=(popK k (.int i) h):=(rfl)
theorem o_starts1 (a b:Tx) (h:AH):biD .starts (.str a) (.str b) h=(.ok (.bl (b.isPrefixOf a)) h):=(rfl)
theorem o_index1 (k : Nat) (b : Bool) (h : AH) : biD .index (.ref k) (.bl b) h = (match (getL h k).bind boolsOf with | some bs => if bs.findIdx (· == b) < bs.length then .ok (.int (bs.findIdx (· == b))) h else .bad | none => .bad) := (rfl)
theorem o_fdiv1 (i j:Int) (h:AH):biD .fdiv (.int i) (.int j) h=(if 0 < j∧j < 1073741824 then .ok (.int (i / j)) h else .bad):=(rfl)
theorem o_mod1 (i j:Int) (h:AH):biD .mod (.int i) (.int j) h=(if 0 < j then .ok (.int (i % j)) h else .bad):=(rfl)
theorem o_pow1 (i j:Int) (h:AH):biD .pow (.int i) (.int j) h=(if 0≤j∧j≤1000000∧i.natAbs < 18446744073709551616 then .ok (.int (i ^ j.toNat)) h else .bad):=(rfl)
theorem o_eq1 (x y:D) (h:AH):biD .eq x y h=(match eqTop h x y with | some b=>.ok (.bl b) h | none=>.bad):=(rfl)
theorem o_ne1 (x y:D) (h:AH):biD .ne x y h=(match eqTop h x y with | some b=>.ok (.bl (!b)) h | none=>.bad):=(rfl)
theorem o_lt1 (i j:Int) (h:AH):biD .lt (.int i) (.int j) h=(.ok (.bl (decide (i < j))) h):=(rfl)
theorem o_le1 (i j:Int) (h:AH):biD .le (.int i) (.int j) h=(.ok (.bl (decide (i≤j))) h):=(rfl)
theorem o_gt1 (i j:Int) (h:AH):biD .gt (.int i) (.int j) h=(.ok (.bl (decide (j < i))) h):=(rfl)
theorem o_ge1 (i j:Int) (h:AH):biD .ge (.int i) (.int j) h=(.ok (.bl (decide (j≤i))) h):=(rfl)
theorem o_isin1 (c:Nat) (b:Tx) (h:AH):biD .isin (.str [c]) (.str b) h=(.ok (.bl (b.contains c)) h):=(rfl)
theorem o_isin2 (a:Int) (i:Nat) (h:AH):biD .isin (.int a) (.ref i) h=(match (getL h i).bind intsOf with | some xs=>.ok (.bl (xs.contains a)) h | none=>hasK i (.int a) h):=(rfl)
theorem o_isin3 (a:Tx) (xs:List D) (h:AH):biD .isin (.str a) (.tup xs) h=(match strsOf xs with | some ys=>.ok (.bl (ys.contains a)) h | none=>.bad):=(rfl)
theorem o_isin4 (a:List D) (i:Nat) (h:AH):biD .isin (.tup a) (.ref i) h=(match (getL h i).bind (anyD fun x=>eqTop h x (.tup a)) with | some b=>.ok (.bl b) h | none=>.bad):=(rfl)
theorem o_notin1 (a:Int) (i:Nat) (h:AH):biD .notin (.int a) (.ref i) h=(match (getL h i).bind intsOf with | some xs=>.ok (.bl (!xs.contains a)) h | none=>.bad):=(rfl)
theorem o_notin2 (c:Nat) (b:Tx) (h:AH):biD .notin (.str [c]) (.str b) h=(.ok (.bl (!b.contains c)) h):=(rfl)
theorem o_ix1 (xs:List D) (i:Int) (h:AH):biD .ix (.tup xs) (.int i) h=(match (ixN xs.length i).bind (xs[·]?) with | some d=>.ok d h | none=>.bad):=(rfl)
theorem o_ix2 (x:Tx) (i:Int) (h:AH):biD .ix (.str x) (.int i) h=(if x.length≤16777216 then (match (ixN x.length i).bind (x[·]?) with | some c=>.ok (.str [c]) h | none=>.bad) else .bad):=(rfl)
theorem o_ix3 (k:Nat) (i:Int) (h:AH):biD .ix (.ref k) (.int i) h=(match (getL h k).bind fun xs=>(ixN xs.length i).bind (xs[·]?) with | some d=>.ok d h | none=>ixK k (.int i) h):=(rfl)
theorem o_ix4 (k:Nat) (x:Tx) (h:AH):biD .ix (.ref k) (.str x) h=(ixK k (.str x) h):=(rfl)
theorem o_min21 (i j:Int) (h:AH):biD .min2 (.int i) (.int j) h=(.ok (.int (if j < i then j else i)) h):=(rfl)
theorem o_max21 (i j:Int) (h:AH):biD .max2 (.int i) (.int j) h=(.ok (.int (if j > i then j else i)) h):=(rfl)
theorem o_find1 (a:Tx) (c:Nat) (h:AH):biD .find (.str a) (.str [c]) h=(.ok (.int (findC a c)) h):=(rfl)
theorem o_zfill1 (x:Tx) (n:Int) (h:AH):biD .zfill (.str x) (.int n) h=(if 0≤n∧n≤1000∧isDig x=true∧x.length≤1000 then .ok (.str (List.replicate (n.toNat - x.length) 48++x)) h else .bad):=(rfl)
theorem o_join1 (x:Tx) (i:Nat) (h:AH):biD .join (.str x) (.ref i) h=(match (getL h i).bind strsOf with | some xs=>if joinN x xs≤16777216 then .ok (.str (joinT x xs)) h else .bad | none=>.bad):=(rfl)
theorem o_append1 (k:Nat) (d:D) (h:AH):biD .append (.ref k) d h=(match h[k]? with | some (.lst xs)=>if xs.length < 16777216 then .ok .non (h.set k (.lst (xs++[d]))) else .bad | _=>.bad):=(rfl)
theorem o_remove1 (k:Nat) (d:D) (h:AH):biD .remove (.ref k) d h=(match h[k]? with | some (.lst xs)=>(match remD (fun x=>eqTop h x d) xs with | some ys=>.ok .non (h.set k (.lst ys)) | none=>.bad) | _=>.bad):=(rfl)
theorem t_non  (h:AH):truth .non h=(.ok false h):=(rfl)
theorem t_bl (b:Bool) (h:AH):truth (.bl b) h=(.ok b h):=(rfl)
theorem t_int (i:Int) (h:AH):truth (.int i) h=(.ok (i != 0) h):=(rfl)
theorem t_str (x:Tx) (h:AH):truth (.str x) h=(if x.length≤16777216 then .ok (!x.isEmpty) h else .bad):=(rfl)
theorem t_tup (xs:List D) (h:AH):truth (.tup xs) h=(.ok (!xs.isEmpty) h):=(rfl)
theorem t_ref (i:Nat) (h:AH):truth (.ref i) h=(match getL h i with | some xs=>.ok (!xs.isEmpty) h | none=>.bad):=(rfl)
theorem it_str (x:Tx) (h:AH):itOf (.str x) h=(.ok (.row (x.map fun c=>.str [c])) h):=(rfl)
theorem it_tup (xs:List D) (h:AH):itOf (.tup xs) h=(.ok (.row xs) h):=(rfl)
theorem it_ref (i:Nat) (h:AH):itOf (.ref i) h=(match getL h i with | some _=>.ok (.live i) h | none=>.bad):=(rfl)
theorem s_str_a (x:Tx) (l u:Option Int) (h:AH):slD (.str x) l u h=(if x.length≤16777216 then .ok (.str (cutX x l u)) h else .bad):=(rfl)
theorem s_tup_a (x:List D) (l u:Option Int) (h:AH):slD (.tup x) l u h=(.ok (.tup (cutX x l u)) h):=(rfl)
theorem s_ref_a (i:Nat) (l u:Option Int) (h:AH):slD (.ref i) l u h=(match getL h i with | some xs=>newL (cutX xs l u) h | none=>.bad):=(rfl)
theorem me_append (i:Nat) (h:AH):meOk .append (.ref i) h=(match getL h i with | some _=>.ok () h | none=>.bad):=(rfl)
theorem me_remove (i:Nat) (h:AH):meOk .remove (.ref i) h=(match getL h i with | some _=>.ok () h | none=>.bad):=(rfl)
theorem me_zfill (x:Tx) (h:AH):meOk .zfill (.str x) h=.ok () h:=(rfl)
theorem me_join (x:Tx) (h:AH):meOk .join (.str x) h=.ok () h:=(rfl)
theorem me_find (x:Tx) (h:AH):meOk .find (.str x) h=.ok () h:=(rfl)
theorem me_get (i:Nat) (h:AH):meOk .get (.ref i) h=(match h[i]? with | some (.dct _)=>.ok () h | _=>.bad):=(rfl)
theorem me_pop (i:Nat) (h:AH):meOk .pop (.ref i) h=(match h[i]? with | some (.dct _)=>.ok () h | _=>.bad):=(rfl)
theorem me_starts (x:Tx) (h:AH):meOk .starts (.str x) h=.ok () h:=(rfl)
theorem me_index (i:Nat) (h:AH):meOk .index (.ref i) h=(match getL h i with | some _=>.ok () h | none=>.bad):=(rfl)
theorem me_split (x:Tx) (h:AH):meOk .split (.str x) h=.ok () h:=(rfl)
theorem me_part (x:Tx) (h:AH):meOk .part (.str x) h=.ok () h:=(rfl)
theorem me_rpart (x:Tx) (h:AH):meOk .rpart (.str x) h=.ok () h:=(rfl)
theorem splm_str (a:Tx) (c:Nat) (k:Int) (h:AH):splmD (.str a) (.str [c]) (.int k) h=(if (c < 256∧a.length≤1000000)∧0≤k∧k≤1000000 then newL ((partsT a ((posC c 0 a).take k.toNat)).map .str) h else .bad):=(rfl)
theorem setdD_ref (k:Nat) (i:Int) (d:D) (h:AH):setdD (.ref k) (.int i) d h=setdK k (.int i) d h:=(rfl)
theorem intD_int (i:Int) (h:AH):intD (.int i) h=.ok (some i) h:=(rfl)
theorem isi_non (t:Ty)  (h:AH):isiD h t .non=(some false):=(rfl)
theorem isi_bl (t:Ty) (b:Bool) (h:AH):isiD h t (.bl b)=(some (t == .bool || t == .int)):=(rfl)
theorem isi_int (t:Ty) (i:Int) (h:AH):isiD h t (.int i)=(some (t == .int)):=(rfl)
theorem isi_str (t:Ty) (x:Tx) (h:AH):isiD h t (.str x)=(some (t == .str)):=(rfl)
theorem isi_tup (t:Ty) (xs:List D) (h:AH):isiD h t (.tup xs)=(some (t == .tuple)):=(rfl)
theorem isi_ref (t:Ty) (i:Nat) (h:AH):isiD h t (.ref i)=((getL h i).map fun _=>t == .list):=(rfl)
theorem e_non_non  (h:AH):eqTop h .non .non=(some true):=(rfl)
theorem e_bl_bl (b1:Bool) (b2:Bool) (h:AH):eqTop h (.bl b1) (.bl b2)=(some (b1 == b2)):=(rfl)
theorem e_bl_int (b1:Bool) (i2:Int) (h:AH):eqTop h (.bl b1) (.int i2)=(some (b2i b1 == i2)):=(rfl)
theorem e_int_bl (i1:Int) (b2:Bool) (h:AH):eqTop h (.int i1) (.bl b2)=(some (i1 == b2i b2)):=(rfl)
theorem e_int_int (i1:Int) (i2:Int) (h:AH):eqTop h (.int i1) (.int i2)=(some (i1 == i2)):=(rfl)
theorem e_str_str (x1:Tx) (x2:Tx) (h:AH):eqTop h (.str x1) (.str x2)=(some (x1 == x2)):=(rfl)
theorem e_tup_tup (t1:List D) (t2:List D) (h:AH):eqTop h (.tup t1) (.tup t2)=(eqW (eqD h 39) t1 t2):=(rfl)
end Fy
set_option Elab.async false
set_option linter.all false
set_option maxRecDepth 100000
set_option maxHeartbeats 4000000
namespace Fy
open PySem PySem.Spec PyProof.Rows
open L2 (V Hp HO VK TE TT TA TS TI Cx Inv RelV Vals SqL SqT Rd upd upd_same upd_ne PE PT PA PS PSs EP)
mutual
noncomputable def RepV (K:PySem.W.Frag) (ρ:List Addr) (H:Hp):D→V→Prop
 | .non,v=>v=.non
 | .bl b,v=>v=.bl b
 | .int i,v=>v=.int i
 | .str x,v=>v=.str ⟨x.toArray⟩
 | .tup xs,v=>∃ a vs,v=.ref a∧SqT K H a vs∧RepL K ρ H xs vs
 | .ref i,v=>∃ a,ρ[i]?=some a∧v=.ref a
noncomputable def RepL (K:PySem.W.Frag) (ρ:List Addr) (H:Hp):List D→List V→Prop
 | [],vs=>vs=[]
 | x::xs,vs=>∃ v r,vs=v::r∧RepV K ρ H x v∧RepL K ρ H xs r
end
noncomputable def KL (K:PySem.W.Frag) (a:Addr) (xs:List V):Prop :=
 ∃ (o:Obj) (its:Array Value) (n:Nat),K.lookup a=some o∧o.cls=.type "list"∧o.dict=none∧o.data=.seq its n∧its.size≤sizeLine∧Vals xs its.toList
noncomputable def ClsAt (K:PySem.W.Frag) (c:Nat) (C:Addr):Prop:=PySem.W.nsIn K mainGlobals (nmOf c)=some (some (.ref C))
noncomputable def xcO (a C:Addr):HO:=.ext fun h=>∃ o,h.get? a=some o∧o.cls=.ref C
noncomputable def RepF (K:PySem.W.Frag) (ρ:List Addr) (H:Hp) (C:Addr):List (Nat × D)→List (Str × V)→Prop
 | [],vs=>vs=[]
 | x::xs,vs=>∃ v r,vs=(nmOf x.1,v)::r∧x.1 < 256 ^ 60∧L2.NoAttr K C (nmOf x.1)∧RepV K ρ H x.2 v∧RepF K ρ H C xs r
noncomputable def kyV:Ky→L2.Key
 | .int i=>.inl i
 | .str x=>.inr ⟨x.toArray⟩
noncomputable def RepK (K:PySem.W.Frag) (ρ:List Addr) (H:Hp):List (Ky × D)→List (L2.Key × V)→Prop
 | [],vs=>vs=[]
 | x::xs,vs=>∃ v r,vs=(kyV x.1,v)::r∧RepV K ρ H x.2 v∧RepK K ρ H xs r
noncomputable def RepO (K:PySem.W.Frag) (ρ:List Addr) (H:Hp):O→Addr→Prop
 | .lst xs,a=>∃ vs,H a=some (.lst vs)∧RepL K ρ H xs vs
 | .rol xs,a=>∃ vs,((∃ o,H a=some (.frz o (.lst vs))) ∨ KL K a vs)∧RepL K ρ H xs vs
 | .ins c fs,a=>∃ C dx vs,ClsAt K c C∧L2.Cls K C∧H a=some (.ins C dx vs)∧RepF K ρ H C fs vs
 | .dct kvs,a=>∃ vs,H a=some (.dK vs)∧RepK K ρ H kvs vs
 | .xc c,a=>∃ C,ClsAt K c C∧H a=some (xcO a C)
noncomputable def mutO:O→Bool
 | .rol _=>false
 | .xc _=>false
 | _=>true
structure RepH (K:PySem.W.Frag) (ρ:List Addr) (h:AH) (H:Hp):Prop where
 len:ρ.length=h.length
 obj:∀ (i:Nat) (o:O),h[i]?=some o→∃ a,ρ[i]?=some a∧RepO K ρ H o a
 inj:∀ (i j:Nat) (a:Addr) (o o':O),h[i]?=some o→h[j]?=some o'→mutO o=true→mutO o'=true→ρ[i]?=some a→ρ[j]?=some a→i=j
noncomputable def Imm:HO→Bool
 | .tup _=>true
 | .frz _ _=>true
 | .ext _=>true
 | _=>false
structure Step (ρ:List Addr) (H:Hp) (ρ':List Addr) (H':Hp):Prop where
 pre:ρ <+: ρ'
 new:∀ a ∈ ρ',a ∈ ρ ∨ H a=none
 keep:∀ a o,H a=some o→(Imm o=true ∨ a ∉ ρ)→H' a=some o
theorem Step.refl (ρ:List Addr) (H:Hp):Step ρ H ρ H:=⟨List.prefix_refl _,fun _ h=>.inl h,fun _ _ h _=>h⟩
theorem Step.trans {ρ ρ1 ρ2:List Addr} {H H1 H2:Hp} (a:Step ρ H ρ1 H1) (b:Step ρ1 H1 ρ2 H2):Step ρ H ρ2 H2:=by
 refine ⟨a.pre.trans b.pre,fun x hx=>?_,fun x o h c=>b.keep x o (a.keep x o h c) (c.imp id fun n m=>?_)⟩
 ·rcases b.new x hx with h | h
  ·exact a.new x h
  ·by_cases m:x ∈ ρ
   ·exact .inl m
   ·cases q:H x with
    | none=>exact .inr rfl
    | some o =>
     rw [a.keep x o q (.inr m)] at h
     cases h
 ·rcases a.new x m with z | z
  ·exact n z
  ·rw [h] at z
   cases z
theorem Step.tup {ρ ρ':List Addr} {H H':Hp} (e:Step ρ H ρ' H') {a:Addr} {vs:List V} (h:Rd H a (.tup vs)):Rd H' a (.tup vs):=by
 rcases h with h | ⟨o,h⟩
 ·exact .inl (e.keep _ _ h (.inl rfl))
 ·exact .inr ⟨o,e.keep _ _ h (.inl rfl)⟩
theorem Step.sqt {K:PySem.W.Frag} {ρ ρ':List Addr} {H H':Hp} {a:Addr} {vs:List V} (e:Step ρ H ρ' H') (h:SqT K H a vs):SqT K H' a vs:=h.imp e.tup id
theorem pre_get {ρ ρ':List Addr} (p:ρ <+: ρ') {i:Nat} {a:Addr} (h:ρ[i]?=some a):ρ'[i]?=some a:=by
 obtain ⟨t,rfl⟩:=p
 rw [List.getElem?_append_left (List.getElem?_eq_some_iff.mp h).1]
 exact h
section
variable {K:PySem.W.Frag} {ρ ρ':List Addr} {H H':Hp} {a:Addr}
mutual
theorem RepV.mono (e:Step ρ H ρ' H'):∀ (d:D) (v:V),RepV K ρ H d v→RepV K ρ' H' d v
 | .non,_,h=>h
 | .bl _,_,h=>h
 | .int _,_,h=>h
 | .str _,_,h=>h
 | .tup xs,v,⟨a,vs,h1,h2,h3⟩=>⟨a,vs,h1,e.sqt h2,RepL.mono e xs vs h3⟩
 | .ref _,_,⟨a,h1,h2⟩=>⟨a,pre_get e.pre h1,h2⟩
theorem RepL.mono (e:Step ρ H ρ' H'):∀ (ds:List D) (vs:List V),RepL K ρ H ds vs→RepL K ρ' H' ds vs
 | [],_,h=>h
 | d::ds,_,⟨v,r,h1,h2,h3⟩=>⟨v,r,h1,RepV.mono e d v h2,RepL.mono e ds r h3⟩
end
theorem RepL.length:∀ {ds:List D} {vs:List V},RepL K ρ H ds vs→vs.length=ds.length
 | [],_,h=>by cases h; rfl
 | d::ds,_,⟨v,r,h1,_,h3⟩=>by subst h1; simp [RepL.length h3]
theorem RepL.get:∀ {ds:List D} {vs:List V} {i:Nat} {d:D},RepL K ρ H ds vs→ds[i]?=some d→∃ v,vs[i]?=some v∧RepV K ρ H d v
 | [],_,_,_,_,e=>by simp at e
 | x::ds,_,0,d,⟨v,r,h1,h2,_⟩,e=>by
  subst h1
  simp at e
  subst e
  exact ⟨v,rfl,h2⟩
 | x::ds,_,i+1,d,⟨v,r,h1,_,h3⟩,e=>by
  subst h1
  simpa using RepL.get (i:=i) h3 (by simpa using e)
theorem RepL.append:∀ {ds es:List D} {vs ws:List V},RepL K ρ H ds vs→RepL K ρ H es ws→RepL K ρ H (ds++es) (vs++ws)
 | [],_,_,_,h,k=>by cases h; exact k
 | x::ds,es,_,ws,⟨v,r,h1,h2,h3⟩,k=>by subst h1; exact ⟨v,r++ws,rfl,h2,RepL.append h3 k⟩
theorem RepL.drop:∀ {ds:List D} {vs:List V} (n:Nat),RepL K ρ H ds vs→RepL K ρ H (ds.drop n) (vs.drop n)
 | _,_,0,h=>h
 | [],_,n+1,h=>by cases h; exact rfl
 | x::ds,_,n+1,⟨v,r,h1,_,h3⟩=>by subst h1; exact RepL.drop n h3
theorem RepL.take:∀ {ds:List D} {vs:List V} (n:Nat),RepL K ρ H ds vs→RepL K ρ H (ds.take n) (vs.take n)
 | _,_,0,h=>by simp [RepL]
 | [],_,n+1,h=>by cases h; simp [RepL]
 | x::ds,_,n+1,⟨v,r,h1,h2,h3⟩=>by subst h1; exact ⟨v,r.take n,rfl,h2,RepL.take n h3⟩
theorem Step.fresh {p:Addr} {o:HO} (hp:H p=none):Step ρ H ρ (upd H p o) :=
 ⟨List.prefix_refl _,fun _ h=>.inl h,fun a ob h _=>by rw [upd_ne (L2.ne_of_none h hp)]; exact h⟩
theorem Step.new1 {p:Addr} {o:HO} (hp:H p=none):Step ρ H (ρ++[p]) (upd H p o) :=
 ⟨List.prefix_append _ _,fun a h=>(List.mem_append.mp h).imp id fun z=>by rw [List.mem_singleton.mp z]; exact hp,fun a ob h _=>by rw [upd_ne (L2.ne_of_none h hp)]; exact h⟩
theorem Step.turn {p:Addr} {o o':HO} (hp:H p=some o) (hi:Imm o=false) (hm:p ∈ ρ):Step ρ H ρ (upd H p o'):=by
 refine ⟨List.prefix_refl _,fun _ h=>.inl h,fun a ob h c=>?_⟩
 rw [upd_ne]
 ·exact h
 ·intro z
  subst z
  rcases c with c | c
  ·rw [hp] at h
   cases h
   rw [hi] at c
   cases c
  ·exact c hm
theorem RepF.mono {C:Addr} (e:Step ρ H ρ' H'):∀ (ds:List (Nat × D)) (vs:List (Str × V)),RepF K ρ H C ds vs→RepF K ρ' H' C ds vs
 | [],_,h=>h
 | d::ds,_,⟨v,r,h1,hb,hn,h2,h3⟩=>⟨v,r,h1,hb,hn,RepV.mono e _ v h2,RepF.mono e ds r h3⟩
theorem RepK.mono (e:Step ρ H ρ' H'):∀ (ds:List (Ky × D)) (vs:List (L2.Key × V)),RepK K ρ H ds vs→RepK K ρ' H' ds vs
 | [],_,h=>h
 | d::ds,_,⟨v,r,h1,h2,h3⟩=>⟨v,r,h1,RepV.mono e _ v h2,RepK.mono e ds r h3⟩
theorem RepO.mono (e:Step ρ H ρ' H') {o:O} (l:mutO o=true→∀ u,H a=some u→H' a=some u) (h:RepO K ρ H o a):RepO K ρ' H' o a:=by
 cases o with
 | lst xs =>
  obtain ⟨vs,h1,h2⟩:=h
  exact ⟨vs,l rfl _ h1,RepL.mono e _ _ h2⟩
 | rol xs =>
  obtain ⟨vs,h1,h2⟩:=h
  refine ⟨vs,?_,RepL.mono e _ _ h2⟩
  rcases h1 with ⟨ob,h1⟩ | h1
  ·exact .inl ⟨ob,e.keep _ _ h1 (.inl rfl)⟩
  ·exact .inr h1
 | ins c fs =>
  obtain ⟨C,dx,vs,h1,hc,h2,h3⟩:=h
  exact ⟨C,dx,vs,h1,hc,l rfl _ h2,RepF.mono e _ _ h3⟩
 | dct kvs =>
  obtain ⟨vs,h1,h2⟩:=h
  exact ⟨vs,l rfl _ h1,RepK.mono e _ _ h2⟩
 | xc c =>
  obtain ⟨C,h1,h2⟩:=h
  exact ⟨C,h1,e.keep _ _ h2 (.inl rfl)⟩
theorem RepO.there {o:O} (h:RepO K ρ H o a) (m:mutO o=true):∃ u,H a=some u:=by
 cases o with
 | lst xs=>obtain ⟨vs,h1,_⟩:=h; exact ⟨_,h1⟩
 | rol xs=>cases m
 | ins c fs=>obtain ⟨C,dx,vs,_,_,h1,_⟩:=h; exact ⟨_,h1⟩
 | dct kvs=>obtain ⟨vs,h1,_⟩:=h; exact ⟨_,h1⟩
 | xc c=>cases m
theorem RepH.fresh {h:AH} {p:Addr} {o:HO} (r:RepH K ρ h H) (hp:H p=none):RepH K ρ h (upd H p o) :=
 ⟨r.len,fun i ob hi=>let ⟨a,h1,h2⟩:=r.obj i ob hi; ⟨a,h1,h2.mono (Step.fresh hp) (fun _ u z=>by rw [upd_ne (L2.ne_of_none z hp)]; exact z)⟩,r.inj⟩
theorem RepH.newO {h : AH} (r : RepH K ρ h H) {p : Addr} {o : O} {u : HO} (hp : H p = none) (ho : RepO K (ρ ++ [p]) (upd H p u) o p) :
    RepH K (ρ ++ [p]) (h ++ [o]) (upd H p u) := by
  have e : Step ρ H (ρ ++ [p]) (upd H p u) := Step.new1 hp
  refine ⟨by simp [r.len], fun i ob hi => ?_, fun i j a o1 o2 hi hj m1 m2 hai haj => ?_⟩
  · by_cases hlt : i < h.length
    · rw [List.getElem?_append_left hlt] at hi
      obtain ⟨a, h1, h2⟩ := r.obj i ob hi
      exact ⟨a, pre_get e.pre h1, h2.mono e (fun _ u z => by rw [upd_ne (L2.ne_of_none z hp)]; exact z)⟩
    · have hi' := (List.getElem?_eq_some_iff.mp hi).1
      simp at hi'
      have e' : i = h.length := by omega
      subst e'
      rw [List.getElem?_append_right (Nat.le_refl _)] at hi
      simp at hi
      subst hi
      refine ⟨p, ?_, ho⟩
      rw [← r.len, List.getElem?_append_right (Nat.le_refl _)]
      simp
  · have key : ∀ (i : Nat) (z : O), mutO z = true → (h ++ [o])[i]? = some z → (ρ ++ [p])[i]? = some a → (i < h.length ∧ h[i]? = some z ∧ ρ[i]? = some a ∧ a ≠ p) ∨ (i = h.length ∧ a = p) := fun i z mz hi hai => by
      by_cases hlt : i < h.length
      · rw [List.getElem?_append_left hlt] at hi
        rw [List.getElem?_append_left (by rw [r.len]; exact hlt)] at hai
        refine .inl ⟨hlt, hi, hai, fun q => ?_⟩
        obtain ⟨b, h1, h2⟩ := r.obj i _ hi
        rw [hai] at h1
        cases h1
        obtain ⟨w, h3⟩ := h2.there mz
        rw [q, hp] at h3
        cases h3
      · have hi' := (List.getElem?_eq_some_iff.mp hi).1
        simp at hi'
        have e' : i = h.length := by omega
        subst e'
        rw [← r.len, List.getElem?_append_right (Nat.le_refl _)] at hai
        simp at hai
        exact .inr ⟨rfl, hai.symm⟩
    rcases key i _ m1 hi hai with ⟨h1, h2, h3, h4⟩ | ⟨h1, h2⟩ <;> rcases key j _ m2 hj haj with ⟨k1, k2, k3, k4⟩ | ⟨k1, k2⟩
    · exact r.inj i j a _ _ h2 k2 m1 m2 h3 k3
    · exact absurd k2 h4
    · exact absurd h2 k4
    · omega
theorem RepH.setO {h : AH} (r : RepH K ρ h H) {k : Nat} {p : Addr} {o o' : O} {u u' : HO} (hk : h[k]? = some o) (m : mutO o = true) (m' : mutO o' = true) (hr : ρ[k]? = some p) (hp : H p = some u) (hi' : Imm u = false) (hx : RepO K ρ (upd H p u') o' p) :
    RepH K ρ (h.set k o') (upd H p u') := by
  have e : Step ρ H ρ (upd H p u') := Step.turn hp hi' (List.mem_of_getElem? hr)
  have hkl := (List.getElem?_eq_some_iff.mp hk).1
  refine ⟨by simp [r.len], fun i ob hi => ?_, fun i j a o1 o2 hi hj m1 m2 hai haj => ?_⟩
  · rw [List.getElem?_set] at hi
    by_cases hik : k = i
    · rw [if_pos hik, if_pos (by omega)] at hi
      cases hi
      subst hik
      exact ⟨p, hr, hx⟩
    · rw [if_neg hik] at hi
      obtain ⟨a, h1, h2⟩ := r.obj i ob hi
      refine ⟨a, h1, h2.mono e fun mo w hw => ?_⟩
      rw [upd_ne fun z => hik (r.inj k i p _ _ hk hi m mo hr (by rw [← z]; exact h1))]
      exact hw
  · have key : ∀ (i : Nat) (z : O), mutO z = true → (h.set k o')[i]? = some z → ∃ z', h[i]? = some z' ∧ mutO z' = true := fun i z mz hi => by
      rw [List.getElem?_set] at hi
      by_cases hik : k = i
      · subst hik
        exact ⟨_, hk, m⟩
      · rw [if_neg hik] at hi
        exact ⟨_, hi, mz⟩
    obtain ⟨_, hi', n1⟩ := key i _ m1 hi
    obtain ⟨_, hj', n2⟩ := key j _ m2 hj
    exact r.inj i j a _ _ hi' hj' n1 n2 hai haj
theorem RepH.newList {h : AH} (r : RepH K ρ h H) {p : Addr} {xs : List D} {vs : List V} (hp : H p = none) (hx : RepL K ρ H xs vs) :
    RepH K (ρ ++ [p]) (h ++ [.lst xs]) (upd H p (.lst vs)) := r.newO hp ⟨vs, upd_same, RepL.mono (Step.new1 hp) _ _ hx⟩
theorem RepH.setList {h : AH} (r : RepH K ρ h H) {k : Nat} {p : Addr} {xs ys : List D} {us vs : List V} (hk : h[k]? = some (.lst xs)) (hr : ρ[k]? = some p) (hp : H p = some (.lst us)) (hx : RepL K ρ H ys vs) :
    RepH K ρ (h.set k (.lst ys)) (upd H p (.lst vs)) := r.setO hk rfl rfl hr hp rfl ⟨vs, upd_same, RepL.mono (Step.turn hp rfl (List.mem_of_getElem? hr)) _ _ hx⟩
theorem RepH.list {h:AH} (r:RepH K ρ h H) {i:Nat} {xs:List D} (hi:getL h i=some xs):∃ a vs,ρ[i]?=some a∧SqL K H a vs∧RepL K ρ H xs vs:=by
 unfold getL at hi
 cases e:h[i]? with
 | none=>rw [e] at hi; cases hi
 | some o =>
  rw [e] at hi
  obtain ⟨a,h1,h2⟩:=r.obj i o e
  cases o with
  | lst ys =>
   cases hi
   obtain ⟨vs,h3,h4⟩:=h2
   exact ⟨a,vs,h1,L2.SqL.of h3,h4⟩
  | rol ys =>
   cases hi
   obtain ⟨vs,h3,h4⟩:=h2
   refine ⟨a,vs,h1,?_,h4⟩
   rcases h3 with ⟨ob,h3⟩ | h3
   ·exact .inl (.inr ⟨ob,h3⟩)
   ·exact .inr h3
  | _=>cases hi
end
noncomputable def RepS (K:PySem.W.Frag) (ρ:List Addr) (H:Hp) (env:Env) (σ:L2.St):Prop:=env.length=σ.length∧∀ (i:Nat) (d:D),env[i]?=some (some d)→∃ v,σ[i]?=some (some v)∧RepV K ρ H d v
theorem RepS.mono {K:PySem.W.Frag} {ρ ρ':List Addr} {H H':Hp} {env:Env} {σ:L2.St} (s:RepS K ρ H env σ) (e:Step ρ H ρ' H'):RepS K ρ' H' env σ :=
 ⟨s.1,fun i d h=>let ⟨v,h1,h2⟩:=s.2 i d h; ⟨v,h1,h2.mono e _ _⟩⟩
theorem RepS.set {K:PySem.W.Frag} {ρ:List Addr} {H:Hp} {env:Env} {σ:L2.St} (s:RepS K ρ H env σ) (k:Nat) {d:D} {v:V} (r:RepV K ρ H d v):RepS K ρ H (env.set k (some d)) (σ.set k (some v)):=by
 refine ⟨by simp [s.1],fun i d' h=>?_⟩
 rw [List.getElem?_set] at h ⊢
 by_cases hk:k=i
 ·subst hk
  rw [if_pos rfl] at h ⊢
  by_cases hl:k < env.length
  ·rw [if_pos hl] at h
   cases h
   rw [if_pos (by rw [← s.1]; exact hl)]
   exact ⟨v,rfl,r⟩
  ·rw [if_neg hl] at h
   cases h
 ·rw [if_neg hk] at h ⊢
  exact s.2 i d' h
noncomputable abbrev WX:=Nat→L2.St→Hp→Prop
noncomputable abbrev W1:=Nat→Hp→Prop
noncomputable abbrev WX.at (W:WX) (σ:L2.St):W1:=fun c H=>W c σ H
noncomputable def Post {α:Type} (K:PySem.W.Frag) (w:W1) (rep:List Addr→Hp→α→Prop) (ρ:List Addr) (H:Hp):R α→Prop
 | .ok a h=>∀ (ρ':List Addr) (H':Hp),Step ρ H ρ' H'→RepH K ρ' h H'→rep ρ' H' a
 | .exc c h=>∀ (ρ':List Addr) (H':Hp),Step ρ H ρ' H'→RepH K ρ' h H'→w c H'
 | .bad=>False
noncomputable abbrev PostV (K:PySem.W.Frag) (w:W1) (Q:VK) (ρ:List Addr) (H:Hp) (r:R D):Prop:=Post K w (fun ρ' H' d=>∀ v,RepV K ρ' H' d v→Q v H') ρ H r
theorem Post.mono {α:Type} {K:PySem.W.Frag} {w:W1} {rep:List Addr→Hp→α→Prop} {ρ ρ1:List Addr} {H H1:Hp} {r:R α} (p:Post K w rep ρ H r) (e:Step ρ H ρ1 H1):Post K w rep ρ1 H1 r:=by
 cases r with
 | ok a h=>exact fun ρ' H' e' rh=>p ρ' H' (e.trans e') rh
 | exc _ _=>exact fun ρ' H' e' rh=>p ρ' H' (e.trans e') rh
 | bad=>exact p
noncomputable def tD (K:PySem.W.Frag) (W:WX) (m:Env→M D):TE:=fun σ H Q=>∃ ρ env h,RepS K ρ H env σ∧RepH K ρ h H∧PostV K (W.at σ) Q ρ H (m env h)
noncomputable def tDT (K:PySem.W.Frag) (W:WX) (m:Env→M Bool):TT:=fun σ H Q=>∃ ρ env h,RepS K ρ H env σ∧RepH K ρ h H∧Post K (W.at σ) (fun _ H' b=>Q b H') ρ H (m env h)
noncomputable def tDL (K:PySem.W.Frag) (W:WX) (m:Env→M (List D)):TA:=fun σ H Q=>∃ ρ env h,RepS K ρ H env σ∧RepH K ρ h H∧Post K (W.at σ) (fun ρ' H' ds=>∀ vs,RepL K ρ' H' ds vs→Q vs H') ρ H (m env h)
theorem PE.imp {X:Cx} {e:Expr} {t t':TE} (h:PE X e t) (i:∀ σ H Q,t' σ H Q→t σ H Q):PE X e t':=fun pins s σ H Q I q=>h pins s σ H Q I (i σ H Q q)
theorem PT.imp {X:Cx} {e:Expr} {t t':TT} (h:PT X e t) (i:∀ σ H Q,t' σ H Q→t σ H Q):PT X e t':=fun pins s σ H Q I q=>h pins s σ H Q I (i σ H Q q)
theorem PA.imp {X:Cx} {e:List Expr} {t t':TA} (h:PA X e t) (i:∀ σ H Q,t' σ H Q→t σ H Q):PA X e t':=fun pos pins s σ H Q I q=>h pos pins s σ H Q I (i σ H Q q)
theorem PS.imp {X:Cx} {e:Stmt} {t t':TS} (h:PS X e t) (i:∀ D σ H,t' D σ H→t D σ H):PS X e t':=fun pins s σ H D I q=>h pins s σ H D I (i D σ H q)
theorem PSs.imp {X:Cx} {e:List Stmt} {t t':TS} (h:PSs X e t) (i:∀ D σ H,t' D σ H→t D σ H):PSs X e t':=fun pins s σ H D I q=>h pins s σ H D I (i D σ H q)
end Fy
set_option Elab.async false
set_option linter.all false
set_option maxRecDepth 100000
set_option maxHeartbeats 4000000
namespace Fy
open PySem PySem.Spec PyProof.Rows
open L2 (V Hp HO VK TE TT TA TS TI Cx Inv RelV Vals SqL SqT Rd upd upd_same upd_ne PE PT PA PS PSs EP OpR CallR IxR MtR SlR PO TO)
theorem szEq:sizeLine=16777216:=sizeLine_eq
theorem str_app (a b:Tx):((⟨a.toArray⟩:Str)++(⟨b.toArray⟩:Str))=⟨(a++b).toArray⟩:=by
 show Str.append _ _=_
 unfold Str.append
 simp
theorem str_len (a:Tx):(⟨a.toArray⟩:Str).length=a.length:=by
 unfold Str.length
 simp
section
variable {X:Cx} {K:PySem.W.Frag} {ρ:List Addr} {H:Hp} {Q:VK} {h:AH} {w:W1}
theorem PostV.ite {c:Prop} [Decidable c] {r:R D} (p:PostV K w Q ρ H (if c then r else .bad)):c∧PostV K w Q ρ H r:=by
 by_cases hc:c
 ·rw [if_pos hc] at p
  exact ⟨hc,p⟩
 ·rw [if_neg hc] at p
  exact False.elim p
theorem PostV.now {d:D} {v:V} (p:PostV K w Q ρ H (.ok d h)) (r:RepH K ρ h H) (hv:RepV K ρ H d v):Q v H:=p ρ H (Step.refl ρ H) r v hv
theorem PostV.newL {xs:List D} {vs:List V} (p:PostV K w Q ρ H (newL xs h)) (r:RepH K ρ h H) (hv:RepL K ρ H xs vs):vs.length≤sizeLine∧∀ l,H l=none→Q (.ref l) (upd H l (.lst vs)):=by
 obtain ⟨hc,p⟩:=PostV.ite (c:=xs.length≤16777216) p
 refine ⟨by rw [hv.length,szEq]; exact hc,fun l hl=>?_⟩
 refine p (ρ++[l]) _ (Step.new1 hl) (r.newList hl hv) _ ⟨l,?_,rfl⟩
 rw [← r.len,List.getElem?_append_right (Nat.le_refl _)]
 simp
theorem PostV.newT {xs:List D} {vs:List V} (p:PostV K w Q ρ H (.ok (.tup xs) h)) (r:RepH K ρ h H) (hv:RepL K ρ H xs vs):∀ l,H l=none→Q (.ref l) (upd H l (.tup vs)):=fun l hl=>by
 have e:Step ρ H ρ (upd H l (.tup vs)):=Step.fresh hl
 exact p ρ _ e (r.fresh hl) _ ⟨l,vs,rfl,L2.SqT.of upd_same,hv.mono e _ _⟩
noncomputable def rB (K:PySem.W.Frag) (o:Bi):L2.R2:=fun x y H Q=>∃ (w:W1),∃ ρ h d e,RepH K ρ h H∧RepV K ρ H d x∧RepV K ρ H e y∧PostV K w Q ρ H (biD o d e h)
theorem op_subD:OpR X (binaryOp .Sub) (rB X.K .sub):=by
 rintro pins s σ H x y v u Q I rx ry ⟨w,ρ,h,d,e,r,hd,he,p⟩
 cases d with
 | int i =>
  cases e with
  | int j=>cases hd; cases he; exact L2.op_sub pins s σ H _ _ v u Q I rx ry ⟨i,j,rfl,rfl,p.now r rfl⟩
  | _=>exact (show False from p).elim
 | _=>exact (show False from p).elim
theorem op_mulD:OpR X (binaryOp .Mult) (rB X.K .mul):=by
 rintro pins s σ H x y v u Q I rx ry ⟨w,ρ,h,d,e,r,hd,he,p⟩
 cases d with
 | int i =>
  cases e with
  | int j =>
   cases hd; cases he
   obtain ⟨hc,p⟩:=PostV.ite (c:=mulOk i j) p
   exact L2.op_mul pins s σ H _ _ v u Q I rx ry ⟨i,j,rfl,rfl,hc,p.now r rfl⟩
  | _=>exact (show False from p).elim
 | _=>exact (show False from p).elim
theorem op_fdivD:OpR X (binaryOp .FloorDiv) (rB X.K .fdiv):=by
 rintro pins s σ H x y v u Q I rx ry ⟨w,ρ,h,d,e,r,hd,he,p⟩
 cases d with
 | int i =>
  cases e with
  | int j =>
   cases hd; cases he
   obtain ⟨hc,p⟩:=PostV.ite (c:=0 < j∧j < 1073741824) p
   exact L2.op_fdiv pins s σ H _ _ v u Q I rx ry ⟨i,j,rfl,rfl,hc,p.now r rfl⟩
  | _=>exact (show False from p).elim
 | _=>exact (show False from p).elim
theorem op_modD:OpR X (binaryOp .Mod) (rB X.K .mod):=by
 rintro pins s σ H x y v u Q I rx ry ⟨w,ρ,h,d,e,r,hd,he,p⟩
 cases d with
 | int i =>
  cases e with
  | int j =>
   cases hd; cases he
   obtain ⟨hc,p⟩:=PostV.ite (c:=0 < j) p
   exact L2.op_mod pins s σ H _ _ v u Q I rx ry ⟨i,j,rfl,rfl,hc,p.now r rfl⟩
  | _=>exact (show False from p).elim
 | _=>exact (show False from p).elim
theorem op_powD:OpR X (binaryOp .Pow) (rB X.K .pow):=by
 rintro pins s σ H x y v u Q I rx ry ⟨w,ρ,h,d,e,r,hd,he,p⟩
 cases d with
 | int i =>
  cases e with
  | int j =>
   cases hd; cases he
   obtain ⟨hc,p⟩:=PostV.ite (c:=0≤j∧j≤1000000∧i.natAbs < 2 ^ 64) p
   exact L2.op_pow pins s σ H _ _ v u Q I rx ry ⟨i,j,rfl,rfl,hc,p.now r rfl⟩
  | _=>exact (show False from p).elim
 | _=>exact (show False from p).elim
theorem op_ltD:OpR X (compareOp .Lt) (rB X.K .lt):=by
 rintro pins s σ H x y v u Q I rx ry ⟨w,ρ,h,d,e,r,hd,he,p⟩
 cases d with
 | int i =>
  cases e with
  | int j=>cases hd; cases he; exact L2.op_lt pins s σ H _ _ v u Q I rx ry ⟨i,j,rfl,rfl,p.now r rfl⟩
  | _=>exact (show False from p).elim
 | _=>exact (show False from p).elim
theorem op_leD:OpR X (compareOp .LtE) (rB X.K .le):=by
 rintro pins s σ H x y v u Q I rx ry ⟨w,ρ,h,d,e,r,hd,he,p⟩
 cases d with
 | int i =>
  cases e with
  | int j=>cases hd; cases he; exact L2.op_le pins s σ H _ _ v u Q I rx ry ⟨i,j,rfl,rfl,p.now r rfl⟩
  | _=>exact (show False from p).elim
 | _=>exact (show False from p).elim
theorem op_gtD:OpR X (compareOp .Gt) (rB X.K .gt):=by
 rintro pins s σ H x y v u Q I rx ry ⟨w,ρ,h,d,e,r,hd,he,p⟩
 cases d with
 | int i =>
  cases e with
  | int j=>cases hd; cases he; exact L2.op_gt pins s σ H _ _ v u Q I rx ry ⟨i,j,rfl,rfl,p.now r rfl⟩
  | _=>exact (show False from p).elim
 | _=>exact (show False from p).elim
theorem op_geD:OpR X (compareOp .GtE) (rB X.K .ge):=by
 rintro pins s σ H x y v u Q I rx ry ⟨w,ρ,h,d,e,r,hd,he,p⟩
 cases d with
 | int i =>
  cases e with
  | int j=>cases hd; cases he; exact L2.op_ge pins s σ H _ _ v u Q I rx ry ⟨i,j,rfl,rfl,p.now r rfl⟩
  | _=>exact (show False from p).elim
 | _=>exact (show False from p).elim
theorem RepH.own {i:Nat} {xs:List D} (r:RepH K ρ h H) (e:h[i]?=some (.lst xs)) {v:V} (hv:RepV K ρ H (.ref i) v):∃ a vs,v=.ref a∧ρ[i]?=some a∧H a=some (.lst vs)∧RepL K ρ H xs vs:=by
 obtain ⟨a,h1,h2⟩:=hv
 obtain ⟨b,h3,vs,h4,h5⟩:=r.obj i _ e
 rw [h1] at h3
 cases h3
 exact ⟨a,vs,h2,h1,h4,h5⟩
theorem RepH.seen {i:Nat} {xs:List D} (r:RepH K ρ h H) (e:getL h i=some xs) {v:V} (hv:RepV K ρ H (.ref i) v):∃ a vs,v=.ref a∧SqL K H a vs∧RepL K ρ H xs vs:=by
 obtain ⟨a,h1,h2⟩:=hv
 obtain ⟨b,vs,h3,h4,h5⟩:=r.list e
 rw [h1] at h3
 cases h3
 exact ⟨a,vs,h2,h4,h5⟩
theorem op_addD:OpR X (binaryOp .Add) (rB X.K .add):=by
 rintro pins s σ H x y v u Q I rx ry ⟨w,ρ,h,d,e,r,hd,he,p⟩
 cases d with
 | int i =>
  cases e with
  | int j=>cases hd; cases he; exact L2.op_add pins s σ H _ _ v u Q I rx ry ⟨i,j,rfl,rfl,p.now r rfl⟩
  | _=>exact (show False from p).elim
 | str a =>
  cases e with
  | str b =>
   cases hd; cases he
   obtain ⟨hc,p⟩:=PostV.ite (c:=a.length+b.length≤16777216) p
   exact L2.op_add_str pins s σ H _ _ v u Q I rx ry ⟨_,_,rfl,rfl,by rw [str_len,str_len,szEq]; exact hc,by rw [str_app]; exact p.now r rfl⟩
  | _=>exact (show False from p).elim
 | tup a =>
  cases e with
  | tup b =>
   obtain ⟨pa,va,rfl,ta,la⟩:=hd
   obtain ⟨pb,vb,rfl,tb,lb⟩:=he
   obtain ⟨hz,p⟩:=PostV.ite (c:=a.length+b.length≤16777216) p
   by_cases hc:a=[]
   ·subst hc
    have ev:va=[]:=List.eq_nil_of_length_eq_zero la.length
    subst ev
    cases rx
    cases ry
    obtain ⟨its,r1,p1,_⟩:=I.tuple ta
    obtain ⟨its2,r2,p2,_⟩:=I.tuple tb
    have ei:its=[]:=r1.nil_iff.mpr rfl
    subst ei
    obtain ⟨⟨cls,dd,data,sl⟩,ho,hc,n,hd⟩:=id p1
    obtain ⟨⟨cls2,dd2,data2,sl2⟩,ho2,hc2,n2,hd2⟩:=id p2
    simp only at hc hd hc2 hd2
    subst hc hd hc2 hd2
    exact concat_meets ⟨_,ho,rfl⟩ ⟨_,ho2,rfl⟩ noFill_tuple_add seq_tuple_add PySem.F.slot_tuple_add PySem.F.entry_tuple_add (PySem.F.args_tuple_add_2 _ _)
     (tuple_addW0 pa pb _ _ n n2 dd dd2 sl sl2 rfl) ⟨ho,ho2,⟨.ref pb,H,I,rfl,p.now r ⟨pb,vb,rfl,tb,lb⟩⟩⟩
   refine L2.op_catT pins s σ H _ _ v u Q I rx ry ⟨pa,pb,va,vb,rfl,rfl,ta,tb,fun z=>hc ?_,by rw [la.length,lb.length,szEq]; exact hz,fun z=>?_,fun _=>p.newT r (la.append lb)⟩
   ·have:=la.length
    rw [z] at this
    exact List.eq_nil_of_length_eq_zero this.symm
   ·subst z
    have e:b=[]:=List.eq_nil_of_length_eq_zero lb.length.symm
    subst e
    rw [List.append_nil] at p
    exact p.now r ⟨pa,va,rfl,ta,la⟩
  | _=>exact (show False from p).elim
 | ref i =>
  cases e with
  | ref j =>
   have p:PostV X.K w Q ρ H (match h[i]?,h[j]? with | some (.lst xs),some (.lst ys)=>newL (xs++ys) h | _,_=>.bad):=p
   split at p
   ·rename_i xs ys e1 e2
    obtain ⟨a,va,rfl,_,ha,la⟩:=r.own e1 hd
    obtain ⟨b,vb,rfl,_,hb,lb⟩:=r.own e2 he
    obtain ⟨hz,q⟩:=p.newL r (la.append lb)
    exact L2.op_cat pins s σ H _ _ v u Q I rx ry ⟨a,b,va,vb,rfl,rfl,ha,hb,by rw [← List.length_append]; exact hz,q⟩
   ·exact (show False from p).elim
  | _=>exact (show False from p).elim
 | _=>exact (show False from p).elim
end
end Fy
set_option Elab.async false
set_option linter.all false
set_option maxRecDepth 100000
set_option maxHeartbeats 4000000
namespace Fy
open PySem PySem.Spec PyProof.Rows
open L2 (V Hp HO VK TE TT TA TS TI Cx Inv RelV Vals SqL SqT Rd upd upd_same upd_ne PE PT PA PS PSs EP OpR CallR IxR MtR SlR PO TO)
theorem Post.bind {α β : Type} {K : PySem.W.Frag} {w : W1} {rep : List Addr → Hp → β → Prop} {rep' : List Addr → Hp → α → Prop} {ρ : List Addr} {H : Hp} {m : M α} {f : α → M β} {h : AH} (p : Post K w rep ρ H (M.bind m f h))
    (k : ∀ ρ' h' a H', Step ρ H ρ' H' → RepH K ρ' h' H' → Post K w rep ρ' H' (f a h') → rep' ρ' H' a) : Post K w rep' ρ H (m h) := by
  unfold M.bind at p
  cases e : m h with
  | ok a h1 =>
    rw [e] at p
    exact fun ρ1 H1 e1 r1 => k ρ1 h1 a H1 e1 r1 (Post.mono p e1)
  | exc c h1 => rw [e] at p; exact p
  | bad => rw [e] at p; exact p
theorem Post.when {α:Type} {K:PySem.W.Frag} {w:W1} {rep:List Addr→Hp→α→Prop} {ρ:List Addr} {H:Hp} {c:Prop} [Decidable c] {m:M α} {h:AH} (p:Post K w rep ρ H (M.when c m h)):c∧Post K w rep ρ H (m h):=by
 unfold M.when at p
 by_cases hc:c
 ·rw [if_pos hc] at p
  exact ⟨hc,p⟩
 ·rw [if_neg hc] at p
  exact False.elim p
theorem Post.imp {α:Type} {K:PySem.W.Frag} {w:W1} {rep rep':List Addr→Hp→α→Prop} {ρ:List Addr} {H:Hp} {r:R α} (p:Post K w rep ρ H r) (k:∀ ρ' H' a,rep ρ' H' a→rep' ρ' H' a):Post K w rep' ρ H r:=by
 cases r with
 | ok a h=>exact fun ρ' H' e rh=>k ρ' H' a (p ρ' H' e rh)
 | exc _ _=>exact p
 | bad=>exact p
theorem Post.ret {α:Type} {K:PySem.W.Frag} {w:W1} {rep:List Addr→Hp→α→Prop} {ρ:List Addr} {H:Hp} {a:α} {h:AH} (p:Post K w rep ρ H (M.ret a h)) (r:RepH K ρ h H):rep ρ H a:=p ρ H (Step.refl ρ H) r
section
variable {X:Cx} {F:Nat→List D→M D} {W:WX} {w:W1}
theorem two {o:Bi} {ca cb:CE} {σ:L2.St} {H:Hp} {Q:VK} (t:tD X.K W (den F (.bi o ca cb)) σ H Q):L2.tOp (rB X.K o) (tD X.K W (den F ca)) (tD X.K W (den F cb)) σ H Q:=by
 obtain ⟨ρ,env,h,s,r,p⟩:=t
 rw [den] at p
 exact ⟨ρ,env,h,s,r,Post.bind p fun ρ1 h1 d H1 e1 r1 q v hv=>⟨ρ1,env,h1,s.mono e1,r1,Post.bind q fun ρ2 h2 d2 H2 e2 r2 q2 w hw=>⟨_,ρ2,h2,d,d2,r2,hv.mono e2 _ _,hw,q2⟩⟩⟩
noncomputable def rU (K:PySem.W.Frag) (o:Un):V→Hp→VK→Prop:=fun x H Q=>∃ (w:W1),∃ ρ h d,RepH K ρ h H∧RepV K ρ H d x∧PostV K w Q ρ H (unD o d h)
noncomputable def rC (K:PySem.W.Frag) (o:Un):List V→Hp→VK→Prop:=fun xs H Q=>∃ x,xs=[x]∧rU K o x H Q
noncomputable def rC2 (K:PySem.W.Frag) (o:Bi):List V→Hp→VK→Prop:=fun xs H Q=>∃ x y,xs=[x,y]∧rB K o x y H Q
theorem one {o:Un} {ca:CE} {σ:L2.St} {H:Hp} {Q:VK} (t:tD X.K W (den F (.un o ca)) σ H Q):tD X.K W (den F ca) σ H fun x H1=>rU X.K o x H1 Q:=by
 obtain ⟨ρ,env,h,s,r,p⟩:=t
 rw [den] at p
 exact ⟨ρ,env,h,s,r,Post.bind p fun ρ1 h1 d H1 e1 r1 q v hv=>⟨_,ρ1,h1,d,r1,hv,q⟩⟩
theorem d_lit {v:V} {e:Expr} {d:D} (he:PE X e (L2.tC v)) (hv:∀ ρ H,RepV X.K ρ H d v):PE X e (tD X.K W (den F (.lit d))):=PE.imp he fun σ H Q t=>by
 obtain ⟨ρ,env,h,s,r,p⟩:=t
 rw [den] at p
 exact Post.ret p r v (hv ρ H)
theorem d_var {i:Nat} {e:Expr} (he:PE X e (L2.tVar i)):PE X e (tD X.K W (den F (.var i))):=PE.imp he fun σ H Q t=>by
 obtain ⟨ρ,env,h,s,r,p⟩:=t
 rw [den] at p
 cases q:env[i]? with
 | none=>rw [q] at p; exact False.elim p
 | some o =>
  cases o with
  | none=>rw [q] at p; exact False.elim p
  | some d =>
   rw [q] at p
   obtain ⟨v,h1,h2⟩:=s.2 i d q
   exact ⟨v,h1,p ρ H (Step.refl ρ H) r v h2⟩
theorem da_nil {es:List Expr}:PA X [] (tDL X.K W (denL F .nil)):=PA.imp L2.pa_nil fun σ H Q t=>by
 obtain ⟨ρ,env,h,s,r,p⟩:=t
 rw [denL] at p
 exact Post.ret p r [] rfl
theorem da_cons {e : Expr} {es : List Expr} {c : CE} {cl : CL} (he : PE X e (tD X.K W (den F c))) (hr : PA X es (tDL X.K W (denL F cl))) (hs : starEach (e :: es) X.env = (false, eval e X.env) :: starEach es X.env) :
    PA X (e :: es) (tDL X.K W (denL F (.cons c cl))) := PA.imp (L2.pa_cons he hr hs) fun σ H Q t => by
  obtain ⟨ρ, env, h, s, r, p⟩ := t
  rw [denL] at p
  refine ⟨ρ, env, h, s, r, Post.bind p fun ρ1 h1 d H1 e1 r1 q v hv => ⟨ρ1, env, h1, s.mono e1, r1, Post.bind q fun ρ2 h2 ds H2 e2 r2 q2 vs hvs => ?_⟩⟩
  exact Post.ret q2 r2 (v :: vs) ⟨v, vs, rfl, hv.mono e2 _ _, hvs⟩
theorem d_and {a b : Expr} {rest : List Expr} {pos : Pos} {ca cb : CE} (ha : PE X a (tD X.K W (den F ca))) (hb : PE X (.BoolOp .And (b :: rest) pos) (tD X.K W (den F cb))) :
    PE X (.BoolOp .And (a :: b :: rest) pos) (tD X.K W (den F (.and ca cb))) := PE.imp (L2.pe_and ha hb) fun σ H Q t => by
  obtain ⟨ρ, env, h, s, r, p⟩ := t
  rw [den] at p
  refine ⟨ρ, env, h, s, r, Post.bind p fun ρ1 h1 d H1 e1 r1 q v hv => ?_⟩
  cases d with
  | bl c =>
    cases hv
    cases c with
    | true => exact ⟨true, rfl, ⟨ρ1, env, h1, s.mono e1, r1, q⟩⟩
    | false => exact ⟨false, rfl, Post.ret q r1 _ rfl⟩
  | _ => exact False.elim q
theorem d_or {a b : Expr} {rest : List Expr} {pos : Pos} {ca cb : CE} (ha : PE X a (tD X.K W (den F ca))) (hb : PE X (.BoolOp .Or (b :: rest) pos) (tD X.K W (den F cb))) :
    PE X (.BoolOp .Or (a :: b :: rest) pos) (tD X.K W (den F (.or ca cb))) := PE.imp (L2.pe_or ha hb) fun σ H Q t => by
  obtain ⟨ρ, env, h, s, r, p⟩ := t
  rw [den] at p
  refine ⟨ρ, env, h, s, r, Post.bind p fun ρ1 h1 d H1 e1 r1 q v hv => ?_⟩
  cases d with
  | bl c =>
    cases hv
    cases c with
    | true => exact ⟨true, rfl, Post.ret q r1 _ rfl⟩
    | false => exact ⟨false, rfl, ⟨ρ1, env, h1, s.mono e1, r1, q⟩⟩
  | _ => exact False.elim q
theorem TruV.of {ρ:List Addr} {H:Hp} {h:AH} {d:D} {v:V} {rep:List Addr→Hp→Bool→Prop} (r:RepH X.K ρ h H) (hv:RepV X.K ρ H d v) (p:Post X.K w rep ρ H (truth d h)):∃ k,L2.TruV X.K v H k∧rep ρ H k:=by
 cases d with
 | non=>cases hv; exact ⟨false,rfl,Post.ret (a:=false) p r⟩
 | bl b=>cases hv; exact ⟨b,rfl,Post.ret (a:=b) p r⟩
 | int i=>cases hv; exact ⟨i != 0,rfl,Post.ret (a:=i != 0) p r⟩
 | str x =>
  cases hv
  have p:Post X.K w rep ρ H (if x.length≤16777216 then .ok (!x.isEmpty) h else .bad):=p
  by_cases hc:x.length≤16777216
  ·rw [if_pos hc] at p
   refine ⟨!x.isEmpty,⟨by rw [str_len,szEq]; exact hc,?_⟩,Post.ret (a:=!x.isEmpty) p r⟩
   rw [str_len]
   cases x with
   | nil=>rfl
   | cons c x=>simp; omega
  ·rw [if_neg hc] at p
   exact False.elim p
 | tup xs =>
  obtain ⟨a,vs,rfl,h1,h2⟩:=hv
  refine ⟨!xs.isEmpty,.inr (.inl ⟨vs,h1,?_⟩),Post.ret (a:=!xs.isEmpty) p r⟩
  have:=h2.length
  cases xs <;> cases vs <;> simp_all
 | ref i =>
  have p:Post X.K w rep ρ H (match getL h i with | some xs=>.ok (!xs.isEmpty) h | none=>.bad):=p
  cases e:getL h i with
  | none=>rw [e] at p; exact False.elim p
  | some xs =>
   rw [e] at p
   obtain ⟨a,vs,rfl,h1,h2⟩:=r.seen e hv
   refine ⟨!xs.isEmpty,.inl ⟨vs,h1,?_⟩,Post.ret (a:=!xs.isEmpty) p r⟩
   have:=h2.length
   cases xs <;> cases vs <;> simp_all
theorem dt_truth {e : Expr} {c : CE} (he : PE X e (tD X.K W (den F c))) (hi : ∀ whole, isTrue e X.env whole = (do let v ← whole; standAt e.pos; holding [v] (truthy v))) :
    PT X e (tDT X.K W (denT F (.val c))) := PT.imp (L2.pt_truth he hi) fun σ H Q t => by
  obtain ⟨ρ, env, h, s, r, p⟩ := t
  rw [denT] at p
  exact ⟨ρ, env, h, s, r, Post.bind p fun ρ1 h1 d H1 e1 r1 q v hv => TruV.of r1 hv q⟩
noncomputable def isCmp:Bi→Bool
 | .eq | .ne | .lt | .le | .gt | .ge | .isin | .notin=>true
 | _=>false
theorem has_bl {k:Nat} {y:Ky} {h h':AH} {r:D} (q:hasK k y h=.ok r h'):∃ b,r=.bl b:=by
 unfold hasK at q
 split at q
 ·cases q; exact ⟨_,rfl⟩
 ·cases q
theorem cmp_bl {o : Bi} {d e r : D} {h h' : AH} (hc : isCmp o = true) (q : biD o d e h = .ok r h') : ∃ k, r = .bl k := by
  cases o with
  | eq =>
    have q : (match eqTop h d e with | some b => R.ok (D.bl b) h | none => .bad) = .ok r h' := q
    split at q <;> cases q
    exact ⟨_, rfl⟩
  | ne =>
    have q : (match eqTop h d e with | some b => R.ok (D.bl (!b)) h | none => .bad) = .ok r h' := q
    split at q <;> cases q
    exact ⟨_, rfl⟩
  | lt => cases d <;> first | cases q | (cases e <;> first | (cases q; exact ⟨_, rfl⟩) | cases q)
  | le => cases d <;> first | cases q | (cases e <;> first | (cases q; exact ⟨_, rfl⟩) | cases q)
  | gt => cases d <;> first | cases q | (cases e <;> first | (cases q; exact ⟨_, rfl⟩) | cases q)
  | ge => cases d <;> first | cases q | (cases e <;> first | (cases q; exact ⟨_, rfl⟩) | cases q)
  | isin =>
    cases d <;> first | cases q | cases e <;> first
      | (rename_i x y
         have q : (match inTx x y with | some b => R.ok (D.bl b) h | none => .bad) = .ok r h' := q
         split at q <;> cases q
         exact ⟨_, rfl⟩)
      | (rename_i x y
         have q : (match (getL h y).bind intsOf with | some xs => R.ok (D.bl (xs.contains x)) h | none => hasK y (.int x) h) = .ok r h' := q
         split at q
         · cases q; exact ⟨_, rfl⟩
         · exact has_bl q)
      | (rename_i x y
         have q : (match strsOf y with | some ys => R.ok (D.bl (ys.contains x)) h | none => .bad) = .ok r h' := q
         split at q <;> cases q
         exact ⟨_, rfl⟩)
      | (rename_i x y
         have q : (match (getL h y).bind (anyD fun z => eqTop h z (.tup x)) with | some b => R.ok (D.bl b) h | none => .bad) = .ok r h' := q
         split at q <;> cases q
         exact ⟨_, rfl⟩)
      | cases q
  | notin =>
    cases d <;> first | cases q | cases e <;> first
      | (rename_i x y
         have q : (match inTx x y with | some b => R.ok (D.bl (!b)) h | none => .bad) = .ok r h' := q
         split at q <;> cases q
         exact ⟨_, rfl⟩)
      | (rename_i x y
         have q : (match (getL h y).bind intsOf with | some xs => R.ok (D.bl (!xs.contains x)) h | none => .bad) = .ok r h' := q
         split at q <;> cases q
         exact ⟨_, rfl⟩)
      | cases q
  | _ => cases hc
theorem Post.cmp {o : Bi} {d e : D} {K : PySem.W.Frag} {w : W1} {ρ : List Addr} {H : Hp} {h : AH} {Q : Bool → Hp → Prop} (hc : isCmp o = true) (p : Post K w (fun _ H' b => Q b H') ρ H (M.bind (biD o d e) truth h)) :
    PostV K w (fun x H' => ∃ k, x = .bl k ∧ Q k H') ρ H (biD o d e h) := by
  unfold M.bind at p
  cases q : biD o d e h with
  | ok r h' =>
    rw [q] at p
    obtain ⟨k, rfl⟩ := cmp_bl hc q
    exact fun ρ' H' e' r' v hv => ⟨k, hv, p ρ' H' e' r'⟩
  | exc c h' => rw [q] at p; exact p
  | bad => rw [q] at p; exact p
theorem d_cmp {a b : Expr} {op : CmpOp} {o : Bi} {ca cb : CE} {pos : Pos} (ho : OpR X (compareOp op) (rB X.K o)) (ha : PE X a (tD X.K W (den F ca))) (hb : PE X b (tD X.K W (den F cb))) (hm : behindInMarks op b = false) :
    PE X (.Compare a [op] [b] pos) (tD X.K W (den F (.bi o ca cb))) := PE.imp (L2.pe_cmpR ho ha hb hm) fun _ _ _ t => two t
theorem bind_assoc {α β γ:Type} (m:M α) (f:α→M β) (g:β→M γ):M.bind (M.bind m f) g=M.bind m fun x=>M.bind (f x) g:=by
 funext h
 unfold M.bind
 cases m h <;> rfl
theorem dt_cmp {a b : Expr} {op : CmpOp} {o : Bi} {ca cb : CE} {pos : Pos} (hc : isCmp o = true) (ho : OpR X (compareOp op) (rB X.K o)) (ha : PE X a (tD X.K W (den F ca))) (hb : PE X b (tD X.K W (den F cb))) (hm : behindInMarks op b = false) :
    PT X (.Compare a [op] [b] pos) (tDT X.K W (denT F (.val (.bi o ca cb)))) := PT.imp (L2.pt_cmpR ho ha hb hm) fun σ H Q t => by
  obtain ⟨ρ, env, h, s, r, p⟩ := t
  rw [denT, den, bind_assoc] at p
  refine ⟨ρ, env, h, s, r, Post.bind p fun ρ1 h1 d H1 e1 r1 q v hv => ⟨ρ1, env, h1, s.mono e1, r1, ?_⟩⟩
  have q : Post X.K (W.at σ) (fun _ H' b => Q b H') ρ1 H1 (M.bind (M.bind (den F cb env) fun y => biD o d y) truth h1) := q
  rw [bind_assoc] at q
  exact Post.bind q fun ρ2 h2 d2 H2 e2 r2 q2 w hw => ⟨_, ρ2, h2, d, d2, r2, hv.mono e2 _ _, hw, Post.cmp hc q2⟩
theorem chainI {o o':Bi} {ca cb cc:CE} {σ:L2.St} {H:Hp} {Q:VK} (t:tD X.K W (den F (.chain o o' ca cb cc)) σ H Q):L2.tChain (rB X.K o) (rB X.K o') (tD X.K W (den F ca)) (tD X.K W (den F cb)) (tD X.K W (den F cc)) σ H Q:=by
 obtain ⟨ρ,env,h,s,r,p⟩:=t
 rw [den] at p
 refine ⟨ρ,env,h,s,r,Post.bind p fun ρ1 h1 d H1 e1 r1 q v hv=>⟨ρ1,env,h1,s.mono e1,r1,Post.bind q fun ρ2 h2 d2 H2 e2 r2 q2 w hw=>⟨_,ρ2,h2,d,d2,r2,hv.mono e2 _ _,hw,Post.bind q2 fun ρ3 h3 z H3 e3 r3 q3 zv hz=>?_⟩⟩⟩
 cases z with
 | bl k =>
  cases hz
  cases k with
  | true=>exact ⟨true,rfl,L2.iteT ⟨ρ3,env,h3,((s.mono e1).mono e2).mono e3,r3,Post.bind q3 fun ρ4 h4 d4 H4 e4 r4 q4 x hx=>⟨_,ρ4,h4,d2,d4,r4,(hw.mono e3 _ _).mono e4 _ _,hx,q4⟩⟩⟩
  | false=>exact ⟨false,rfl,L2.iteF (Post.ret q3 r3 _ rfl)⟩
 | _=>exact False.elim q3
theorem d_chain {a b c : Expr} {op op' : CmpOp} {o o' : Bi} {ca cb cc : CE} {pos : Pos} (ho : OpR X (compareOp op) (rB X.K o)) (ho' : OpR X (compareOp op') (rB X.K o')) (ha : PE X a (tD X.K W (den F ca))) (hb : PE X b (tD X.K W (den F cb))) (hc : PE X c (tD X.K W (den F cc)))
    (hm : lastMarks [op, op'] [b, c] = false) : PE X (.Compare a [op, op'] [b, c] pos) (tD X.K W (den F (.chain o o' ca cb cc))) := PE.imp (L2.pe_chain ho ho' ha hb hc hm) fun σ H Q t => chainI t
theorem valI {ce:CE} (hb:∀ env h d h',den F ce env h=.ok d h'→∃ k,d=.bl k) {σ:L2.St} {H:Hp} {Q:Bool→Hp→Prop} (t:tDT X.K W (denT F (.val ce)) σ H Q):tD X.K W (den F ce) σ H (fun x H'=>∃ k,x=.bl k∧Q k H'):=by
 obtain ⟨ρ,env,h,s,r,p⟩:=t
 rw [denT] at p
 refine ⟨ρ,env,h,s,r,?_⟩
 unfold M.bind at p
 cases q:den F ce env h with
 | ok d h' =>
  rw [q] at p
  obtain ⟨k,rfl⟩:=hb _ _ _ _ q
  exact fun ρ' H' e' r' v hv=>⟨k,hv,p ρ' H' e' r'⟩
 | exc c h'=>rw [q] at p; exact p
 | bad=>rw [q] at p; exact p
theorem bind_ok {α β:Type} {m:M α} {f:α→M β} {h h':AH} {b:β} (e:M.bind m f h=.ok b h'):∃ a h1,m h=.ok a h1∧f a h1=.ok b h':=by
 unfold M.bind at e
 cases q:m h with
 | ok a h1=>rw [q] at e; exact ⟨a,h1,rfl,e⟩
 | exc _ _=>rw [q] at e; cases e
 | bad=>rw [q] at e; cases e
theorem chain_bl {o o':Bi} {ca cb cc:CE} (h2:isCmp o'=true) (env:Env) (h:AH) (d:D) (h':AH) (e:den F (.chain o o' ca cb cc) env h=.ok d h'):∃ k,d=.bl k:=by
 rw [den] at e
 obtain ⟨x,g1,_,e⟩:=bind_ok e
 obtain ⟨y,g2,_,e⟩:=bind_ok e
 obtain ⟨z,g3,_,e⟩:=bind_ok e
 cases z with
 | bl k =>
  cases k with
  | true =>
   obtain ⟨w,g4,_,e⟩:=bind_ok e
   exact cmp_bl h2 e
  | false=>cases e; exact ⟨_,rfl⟩
 | _=>cases e
theorem dt_chain {a b c : Expr} {op op' : CmpOp} {o o' : Bi} {ca cb cc : CE} {pos : Pos} (h2 : isCmp o' = true) (ho : OpR X (compareOp op) (rB X.K o)) (ho' : OpR X (compareOp op') (rB X.K o')) (ha : PE X a (tD X.K W (den F ca))) (hb : PE X b (tD X.K W (den F cb))) (hc : PE X c (tD X.K W (den F cc)))
    (hm : lastMarks [op, op'] [b, c] = false) : PT X (.Compare a [op, op'] [b, c] pos) (tDT X.K W (denT F (.val (.chain o o' ca cb cc)))) := PT.imp (L2.pt_chain ho ho' ha hb hc hm) fun σ H Q t => chainI (valI (chain_bl h2) t)
theorem d_not {a:Expr} {ca:CE} {pos:Pos} (ha:PE X a (tD X.K W (den F ca))):PE X (.UnaryOp .Not a pos) (tD X.K W (den F (.not ca))):=by
 intro pins s σ H Q I t
 refine UnaryOp_ (L2.thn (ha pins s σ H (fun x H1=>∃ k,L2.TruV X.K x H1 k∧Q (.bl (!k)) H1) I ?_) fun v s1 ⟨x,H1,I1,r1,k,hk,q1⟩=>?_)
 ·obtain ⟨ρ,env,h,s',r,p⟩:=t
  rw [den] at p
  refine ⟨ρ,env,h,s',r,Post.bind (rep':=fun ρ' H' d=>∀ v,RepV X.K ρ' H' d v→∃ k,L2.TruV X.K v H' k∧Q (.bl (!k)) H') (by rw [bind_assoc] at p; exact p) fun ρ1 h1 d H1 e1 r1 q v hv=>?_⟩
  exact TruV.of (rep:=fun ρ' H' k=>Q (.bl (!k)) H') r1 hv (Post.bind q fun ρ2 h2 k H2 e2 r2 q2=>Post.ret q2 r2 _ rfl)
 ·exact not_of (L2.thn (L2.tru_ok pins s1 σ H1 x v (fun k H'=>Q (.bl (!k)) H') I1 r1 ⟨k,hk,q1⟩) fun c s2 ⟨H2,I2,q2⟩=>⟨.bl (!c),H2,I2,rfl,q2⟩)
theorem d_ite {c a b:Expr} {cc:CT} {ca cb:CE} {pos:Pos} (hc:PT X c (tDT X.K W (denT F cc))) (ha:PE X a (tD X.K W (den F ca))) (hb:PE X b (tD X.K W (den F cb))):PE X (.IfExp c a b pos) (tD X.K W (den F (.ite cc ca cb))):=PE.imp (L2.pe_ifExp hc ha hb) fun σ H Q t=>by
 obtain ⟨ρ,env,h,s,r,p⟩:=t
 rw [den] at p
 refine ⟨ρ,env,h,s,r,Post.bind p fun ρ1 h1 k H1 e1 r1 q=>?_⟩
 cases k with
 | true=>exact L2.iteT ⟨ρ1,env,h1,s.mono e1,r1,q⟩
 | false=>exact L2.iteF ⟨ρ1,env,h1,s.mono e1,r1,q⟩
theorem d_tup {es:List Expr} {cl:CL} {k:Nat} {pos:Pos} (h:PA X es (tDL X.K W (denL F cl))):PE X (.Tuple es k pos) (tD X.K W (den F (.tup cl))):=PE.imp (L2.pe_tup h) fun σ H Q t=>by
 obtain ⟨ρ,env,h,s,r,p⟩:=t
 rw [den] at p
 refine ⟨ρ,env,h,s,r,Post.bind p fun ρ1 h1 ds H1 e1 r1 q vs hvs=>?_⟩
 obtain ⟨hc,q⟩:=Post.when q
 exact ⟨by rw [hvs.length,szEq]; exact hc,PostV.newT q r1 hvs⟩
theorem d_lst {es:List Expr} {cl:CL} {pos:Pos} (h:PA X es (tDL X.K W (denL F cl))):PE X (.List es pos) (tD X.K W (den F (.lst cl))):=PE.imp (L2.pe_lst h) fun σ H Q t=>by
 obtain ⟨ρ,env,h,s,r,p⟩:=t
 rw [den] at p
 exact ⟨ρ,env,h,s,r,Post.bind p fun ρ1 h1 ds H1 e1 r1 q vs hvs=>PostV.newL q r1 hvs⟩
noncomputable def spD (K:PySem.W.Frag) (m:List D→M D):L2.Sp:=fun vs H Q E=>∃ ρ h ds,RepH K ρ h H∧RepL K ρ H ds vs∧PostV K (fun c H'=>∀ e,E e (some c) H') Q ρ H (m ds h)
theorem d_call1 {a:Expr} {ca:CE} {o:Un} {e:Expr} {r:List V→Hp→VK→Prop} (he:PE X e (L2.tCB r (L2.tCons (tD X.K W (den F ca)) L2.tNil))) (hr:∀ x H Q,rU X.K o x H Q→r [x] H Q):PE X e (tD X.K W (den F (.un o ca))):=PE.imp he fun σ H Q t=>by
 obtain ⟨ρ,env,h,s,r',p⟩:=one t
 exact ⟨ρ,env,h,s,r',Post.imp p fun ρ' H' d q v hv=>hr v H' Q (q v hv)⟩
theorem d_call2 {ca cb:CE} {o:Bi} {e:Expr} {r:List V→Hp→VK→Prop} (he:PE X e (L2.tCB r (L2.tCons (tD X.K W (den F ca)) (L2.tCons (tD X.K W (den F cb)) L2.tNil)))) (hr:∀ x y H Q,rB X.K o x y H Q→r [x,y] H Q):PE X e (tD X.K W (den F (.bi o ca cb))):=PE.imp he fun σ H Q t=>by
 obtain ⟨ρ,env,h,s,r',p⟩:=two t
 refine ⟨ρ,env,h,s,r',Post.imp p fun ρ' H' d q v hv=>?_⟩
 obtain ⟨ρ1,env1,h1,s1,r1,p1⟩:=q v hv
 exact ⟨ρ1,env1,h1,s1,r1,Post.imp p1 fun ρ2 H2 d2 q2 w hw=>hr v w H2 Q (q2 w hw)⟩
end
end Fy
set_option Elab.async false
set_option linter.all false
set_option maxRecDepth 100000
set_option maxHeartbeats 4000000
namespace Fy
open PySem PySem.Spec PyProof.Rows
open L2 (V Hp HO VK TE TT TA TS TI Cx Inv RelV Vals SqL SqT Rd upd upd_same upd_ne PE PT PA PS PSs EP OpR CallR IxR MtR SlR PO TO)
theorem kyV_inj {a b:Ky}:kyV a=kyV b ↔ a=b:=by
 constructor
 ·intro h
  cases a with
  | int i=>cases b with
   | int j=>cases h; rfl
   | str y=>cases h
  | str x=>cases b with
   | int j=>cases h
   | str y =>
    have h:(Sum.inr (⟨x.toArray⟩:Str):L2.Key)=Sum.inr ⟨y.toArray⟩:=h
    have h2:=congrArg Str.cps (Sum.inr.inj h)
    have h3:x=y:=by simpa using congrArg Array.toList h2
    rw [h3]
 ·rintro rfl; rfl
section
variable {K:PySem.W.Frag} {ρ:List Addr} {H:Hp}
theorem RepK.val (k:Ky):∀ {kvs:List (Ky × D)} {vs:List (L2.Key × V)},RepK K ρ H kvs vs→(∃ d v,valY kvs k=some d∧L2.valV vs (kyV k)=some v∧RepV K ρ H d v) ∨ (valY kvs k=none∧L2.valV vs (kyV k)=none)
 | [],_,h=>by cases h; exact .inr ⟨rfl,rfl⟩
 | x::kvs,_,⟨v,r,rfl,h1,h2⟩=>by
  by_cases e:x.1=k
  ·refine .inl ⟨x.2,v,?_,L2.valV_pos (kyV_inj.mpr e),h1⟩
   unfold valY
   rw [List.find?_cons_of_pos (by simpa using e)]
   rfl
  ·have e2:valY (x::kvs) k=valY kvs k:=by unfold valY; rw [List.find?_cons_of_neg (by simpa using e)]
   rw [e2,L2.valV_neg (fun z=>e (kyV_inj.mp z))]
   exact RepK.val k h2
theorem RepH.dict {h:AH} {i:Nat} {kvs:List (Ky × D)} (r:RepH K ρ h H) (e:h[i]?=some (.dct kvs)) {v:V} (hv:RepV K ρ H (.ref i) v):∃ a vs,v=.ref a∧ρ[i]?=some a∧H a=some (.dK vs)∧RepK K ρ H kvs vs:=by
 obtain ⟨a,h1,h2⟩:=hv
 obtain ⟨b,h3,vs,h4,h5⟩:=r.obj i _ e
 rw [h1] at h3
 cases h3
 exact ⟨a,vs,h2,h1,h4,h5⟩
end
section
variable {X:Cx} {pins:List (Addr × Obj)} {σ:L2.St} {H:Hp} {s:Shared} {a:Addr} {vs:List (L2.Key × V)} {k:L2.Key} {v:V} {u:Value} {A:Around} {E:Value→Shared→Prop}
theorem dk_get {Q:Value→Shared→Prop} (I:Inv X pins σ H s) (e:H a=some (.dK vs)) (l:L2.valV vs k=some v) (ry:RelV (L2.kV k) u) (h:∀ w' s',Inv X pins σ H s'→RelV v w'→Q w' s'):wpAny (model X.prog X.w) A (getItem (.ref a) u) Q E s:=by
 obtain ⟨z,hd,ws,rel,dd⟩:=L2.dk_rd I.hok (.inl e)
 obtain ⟨w',hw,rw'⟩:=L2.RelO.some_of (v:=v) (o:=valueAt ws k) (by rw [← l]; exact rel.val k)
 exact wpAny_getItem_of (L2.kV_is ry) dd.mapOf hw (h w' _ (I.tok _) rw')
theorem dk_in {Q:Value→Shared→Prop} (I:Inv X pins σ H s) (e:H a=some (.dK vs)) (ry:RelV (L2.kV k) u) (h:∀ s',Inv X pins σ H s'→Q (.bool (L2.valV vs k).isSome) s'):wpAny (model X.prog X.w) A (compareOp .In u (.ref a)) Q E s:=by
 obtain ⟨z,hd,ws,rel,dd⟩:=L2.dk_rd I.hok (.inl e)
 refine wpAny_in_of (L2.kV_is ry) hd dd.mapOf ?_
 rw [← (rel.val k).isSome_eq]
 exact h _ (I.tok _)
theorem dk_ty (I:Inv X pins σ H s) (e:H a=some (.dK vs)):s.TypeIs (.ref a) "dict":=by
 obtain ⟨_,_,_,_,dd⟩:=L2.dk_rd I.hok (.inl e)
 exact dd.typeIs
theorem dk_tail {value slice:Expr} {Q:Value→Shared→Prop} (hT:s.TypeIs (.ref a) "dict") (hs:subscripted slice false (.ref a) u=operate [.ref a,u] (getItem (.ref a) u)) (h₂:wpAny (model X.prog X.w) A (getItem (.ref a) u) Q E s):wpAny (model X.prog X.w) A (subscriptTail value slice (.ref a) u) Q E s:=by
 unfold subscriptTail
 refine wpAny_bind ?_
 rw [getitemInPython_of_ne hT.not_modules]
 refine wpAny_bind (wpAny_specialOf hT PySem.F.slot_dict_getitem.lookup ?_)
 have fin:wpAny (model X.prog X.w) A (subscripted slice false (.ref a) u) (fun r s₃=>wpAny (model X.prog X.w) A (letTemporaryGo value (.ref a) r >>= fun _=>pure r) Q E s₃) E s:=by
  rw [hs]
  exact wpAny_operating (wpAny_mono h₂ (fun r s₃ h₃=>wpAny_bind (wpAny_letTemporaryGo (wpAny_pure h₃))) fun _ _ x=>x)
 first
  | exact wpAny_pure (wpAny_bind fin)
  | exact wpAny_bind (wpAny_pure (wpAny_bind fin))
  | exact wpAny_bind fin
end
section
variable {X:Cx} {F:Nat→List D→M D} {W:WX}
noncomputable def kyD:Ky→D
 | .int i=>.int i
 | .str x=>.str x
theorem ky_of {K:PySem.W.Frag} {ρ:List Addr} {H:Hp} {k:Ky} {x:V} (h:RepV K ρ H (kyD k) x):x=L2.kV (kyV k):=by
 cases k with
 | int i=>cases h; rfl
 | str y=>cases h; rfl
theorem ix_K {value slice : Expr} {pins : List (Addr × Obj)} {s : Shared} {σ : L2.St} {H : Hp} {x y : V} {v u : Value} {Q : VK} {w : W1} {ρ : List Addr} {h : AH} {k : Nat} {ky : Ky} (I : Inv X pins σ H s) (r : RepH X.K ρ h H) (hd : RepV X.K ρ H (.ref k) x) (he : RepV X.K ρ H (kyD ky) y) (rx : RelV x v) (ry : RelV y u)
    (p : PostV X.K w Q ρ H (ixK k ky h)) (hs : subscripted slice false v u = operate [v, u] (getItem v u)) : wpAny (model X.prog X.w) X.A (subscriptTail value slice v u) (EP X pins σ Q) X.xe s := by
  have p : PostV X.K w Q ρ H (match h[k]? with | some (.dct kvs) => (match valY kvs ky with | some d => .ok d h | none => .bad) | _ => .bad) := p
  split at p
  · rename_i kvs q
    obtain ⟨a, vs, rfl, ha, hH, hk⟩ := r.dict q hd
    cases rx
    have hy := ky_of he
    subst hy
    rcases hk.val ky with ⟨d, v', e1, e2, hv⟩ | ⟨e1, _⟩
    · rw [e1] at p
      exact dk_tail (dk_ty I hH) hs (dk_get I hH e2 ry fun w' s' I' rw' => ⟨v', H, I', rw', PostV.now p r hv⟩)
    · rw [e1] at p
      exact False.elim p
  · exact False.elim p
theorem in_K {pins : List (Addr × Obj)} {s : Shared} {σ : L2.St} {H : Hp} {x y : V} {v u : Value} {Q : VK} {w : W1} {ρ : List Addr} {h : AH} {k : Nat} {ky : Ky} (I : Inv X pins σ H s) (r : RepH X.K ρ h H) (hd : RepV X.K ρ H (kyD ky) x) (he : RepV X.K ρ H (.ref k) y) (rx : RelV x v) (ry : RelV y u)
    (p : PostV X.K w Q ρ H (hasK k ky h)) : wpAny (model X.prog X.w) X.A (compareOp .In v u) (EP X pins σ Q) X.xe s := by
  have p : PostV X.K w Q ρ H (match h[k]? with | some (.dct kvs) => .ok (.bl (valY kvs ky).isSome) h | _ => .bad) := p
  split at p
  · rename_i kvs q
    obtain ⟨a, vs, rfl, ha, hH, hk⟩ := r.dict q he
    cases ry
    have hy := ky_of hd
    subst hy
    refine dk_in I hH rx fun s' I' => ⟨.bl (L2.valV vs (kyV ky)).isSome, H, I', rfl, ?_⟩
    have e : (L2.valV vs (kyV ky)).isSome = (valY kvs ky).isSome := by
      rcases hk.val ky with ⟨d, v', e1, e2, hv⟩ | ⟨e1, e2⟩
      · rw [e1, e2]; rfl
      · rw [e1, e2]; rfl
    rw [e]
    exact PostV.now p r rfl
  · exact False.elim p
end
end Fy
set_option Elab.async false
set_option linter.all false
set_option maxRecDepth 100000
set_option maxHeartbeats 4000000
namespace Fy
open PySem PySem.Spec PyProof.Rows
open L2 (V Hp HO VK TE TT TA TS TI Cx Inv RelV Vals SqL SqT Rd upd upd_same upd_ne PE PT PA PS PSs EP OpR CallR IxR MtR SlR PO TO)
section
variable {X:Cx} {F:Nat→List D→M D} {W:WX}
end
end Fy
set_option Elab.async false
set_option linter.all false
set_option maxRecDepth 100000
set_option maxHeartbeats 4000000
namespace Fy
open PySem PySem.Spec PyProof.Rows
open L2 (V Hp HO VK TE TT TA TS TI Cx Inv RelV Vals SqL SqT Rd upd upd_same upd_ne PE PT PA PS PSs EP OpR CallR IxR MtR SlR PO TO PI PG PIE Turn FpOk Ends)
noncomputable def Its (z:Str):L2.It:=⟨fun i _=>i < z.cps.size,fun i H x H'=>H'=H∧∃ c,z.cps[i]?=some c∧x=.str ⟨#[c]⟩,fun i _=>i=z.cps.size⟩
theorem turn_str {P : Program} {w : World} {K : PySem.W.Frag} {tg : Expr} {z : Str} {t : Tok} {ty : String} (it : Addr)
    (hty : ["enumerate", "zip", "dict_itemiterator", "dict_reverseitemiterator", "odict_iterator", "itertools.zip_longest", "itertools.pairwise"].contains ty = false)
    (W : ∀ A' : Around, A'.handled = none → Walks P w A' it [it] [it] z.cps.size (SignAt z) (fun i h => h.IsStrIter it ty z t i))
    (W' : ∀ (A : Around) (i : Nat) (s : Shared) (Q : Value → Shared → Prop) (E : Value → Shared → Prop), s.heap.IsStrIter it ty z t i → Q (.ref it) s → wpAny (model P w) A (pyIter (.ref it)) Q E s) :
    Turn P w K tg (Its z) [it] it (fun i h => h.IsStrIter it ty z t i) where
  mem := by simp
  obj := fun i h st b hb => by
    have e : b = it := by simpa using hb
    subst e
    obtain ⟨o, e, c, d⟩ := st
    exact ⟨o, e, fun v z => by rw [d] at z; cases z⟩
  keep := fun i h h' st k => by
    obtain ⟨o, e, c, d⟩ := st
    exact ⟨o, k it (by simp) o e, c, d⟩
  item := by
    intro X hP hw hK hc i pins s σ H E I hf st hg
    subst hP hw hK
    obtain ⟨f0, f1, f2, f3, f4, f5⟩ := hf it (by simp)
    refine (W X.A (I.ok.hd hc)).item i s _ E hg st fun v h' tk hv st' kp => ?_
    obtain ⟨c, u, hcz, rfl⟩ := hv
    have I1 : Inv X pins σ H { s with heap := h', toks := tk } := I.turned (t' := tk) (fun b o hb e => kp b o (by simpa using hb) e) f0 f1 f3 f4 f5
    obtain ⟨o, e, cc, d⟩ := id st'
    exact ⟨_, rfl, L2.go_of (s := { s with heap := h', toks := tk }) e cc d hty ⟨.str ⟨#[c]⟩, H, I1, ⟨u, rfl⟩, ⟨rfl, c, hcz, rfl⟩, st', fun b hb => (hf b hb).1⟩⟩
  done := by
    intro X hP hw hK hc i pins s σ H E I hf st hg
    subst hP hw hK
    obtain ⟨f0, f1, f2, f3, f4, f5⟩ := hf it (by simp)
    have hg : i = z.cps.size := hg
    subst hg
    exact (W X.A (I.ok.hd hc)).done s _ E st fun h' tk kp => ⟨rfl, I.turned (t' := tk) (fun b o hb e => kp b o (by simpa using hb) e) f0 f1 f3 f4 f5⟩
  self := fun A i s Q E st h => W' A i s Q E st h
section
variable {X:Cx} {tg:Expr}
noncomputable def iAny (K:PySem.W.Frag) (tl:TE):TI:=fun σ H R=>tl σ H fun x H1 =>
 (∃ a,x=.ref a∧(∃ xs,SqL K H1 a xs)∧R (L2.Itl K a) H1) ∨ (∃ a,x=.ref a∧(∃ xs,SqT K H1 a xs)∧R (L2.Itt K a) H1) ∨ ∃ z,x=.str z∧R (Its z) H1
theorem pi_any {l : Expr} {tl : TE} (hl : PE X l tl) : PI X tg l (iAny X.K tl) := by
  intro pins s σ H R I h
  refine L2.thn (hl pins s σ H _ I h) fun v s1 ⟨x, H1, I1, r1, q1⟩ => ?_
  have one : ∀ {h' : Heap} {t' : Nat} {b : Addr}, b ∈ [s1.heap.objs.size] → FpOk X pins H1 b := fun hb => by
    have e := List.mem_singleton.mp hb
    subst e
    exact I1.fpOk (Nat.le_refl _) (I1.hok.fresh (Nat.le_refl _))
  rcases q1 with ⟨a, e, ⟨xs, hq⟩, q⟩ | ⟨a, e, ⟨xs, hq⟩, q⟩ | ⟨z, e, q⟩
  · subst e
    cases r1
    obtain ⟨its, rv, p, hz⟩ := I1.list hq
    refine wpAny_pyIter_list p.isList ?_
    exact ⟨s1.heap.objs.size, [s1.heap.objs.size], _, _, H1, rfl, I1.kept (t' := s1.toks) fun b o e => Heap.get?_push_of_some _ e, L2.turn_list a _, ⟨_, Heap.get?_push_size _ rfl, rfl, rfl⟩, fun b hb => one (h' := s1.heap) (t' := 0) hb, q⟩
  · subst e
    cases r1
    obtain ⟨its, rv, p, hz⟩ := I1.tuple hq
    refine wpAny_pyIter_tuple (show s1.heap.IsTuple a its.toArray from p) ?_
    exact ⟨s1.heap.objs.size, [s1.heap.objs.size], _, _, H1, rfl, I1.kept (t' := s1.toks) fun b o e => Heap.get?_push_of_some _ e, L2.turn_tuple a _, ⟨_, Heap.get?_push_size _ rfl, rfl, rfl⟩, fun b hb => one (h' := s1.heap) (t' := 0) hb, q⟩
  · subst e
    obtain ⟨t, rfl⟩ := r1
    cases ha : z.cps.all (· < 128)
    · refine wpAny_pyIter_wide ha ?_
      exact ⟨s1.heap.objs.size, [s1.heap.objs.size], _, _, H1, rfl, I1.kept (t' := s1.toks) fun b o e => Heap.get?_push_of_some _ e, turn_str (t := t) _ (by decide) (fun A' hA => Walks.strWide hA _ z t) (fun A i s Q E st h => wpAny_pyIter_striter_wide st h), ⟨_, Heap.get?_push_size _ rfl, rfl, rfl⟩, fun b hb => one (h' := s1.heap) (t' := 0) hb, q⟩
    · refine wpAny_pyIter_ascii ha ?_
      exact ⟨s1.heap.objs.size, [s1.heap.objs.size], _, _, H1, rfl, I1.kept (t' := s1.toks) fun b o e => Heap.get?_push_of_some _ e, turn_str (t := t) _ (by decide) (fun A' hA => Walks.strAscii hA _ z t) (fun A i s Q E st h => wpAny_pyIter_striter_ascii st h), ⟨_, Heap.get?_push_size _ rfl, rfl, rfl⟩, fun b hb => one (h' := s1.heap) (t' := 0) hb, q⟩
end
noncomputable def PostS (K:PySem.W.Frag) (W:WX) (D:Ends) (ρ:List Addr) (H:Hp):SR→Prop
 | .nx e h=>∀ ρ' H' st,Step ρ H ρ' H'→RepH K ρ' h H'→RepS K ρ' H' e st→D.nx st H'
 | .rt d h=>∀ ρ' H' v,Step ρ H ρ' H'→RepH K ρ' h H'→RepV K ρ' H' d v→D.rt v H'
 | .bk e h=>∀ ρ' H' st,Step ρ H ρ' H'→RepH K ρ' h H'→RepS K ρ' H' e st→D.bk st H'
 | .ct e h=>∀ ρ' H' st,Step ρ H ρ' H'→RepH K ρ' h H'→RepS K ρ' H' e st→D.ct st H'
 | .exc c e h=>∀ ρ' H' st,Step ρ H ρ' H'→RepH K ρ' h H'→RepS K ρ' H' e st→W c st H'
 | .bad=>False
theorem PostS.mono {K:PySem.W.Frag} {W:WX} {D:Ends} {ρ ρ1:List Addr} {H H1:Hp} {r:SR} (p:PostS K W D ρ H r) (e:Step ρ H ρ1 H1):PostS K W D ρ1 H1 r:=by
 cases r with
 | nx _ _=>exact fun ρ' H' st e'=>p ρ' H' st (e.trans e')
 | rt _ _=>exact fun ρ' H' st e'=>p ρ' H' st (e.trans e')
 | bk _ _=>exact fun ρ' H' st e'=>p ρ' H' st (e.trans e')
 | ct _ _=>exact fun ρ' H' st e'=>p ρ' H' st (e.trans e')
 | exc _ _ _=>exact fun ρ' H' st e'=>p ρ' H' st (e.trans e')
 | bad=>exact p
noncomputable abbrev WF:WX:=fun _ _ _=>False
noncomputable def tDS (K:PySem.W.Frag) (W:WX) (m:Env→AH→SR):TS:=fun D σ H=>∃ ρ env h,RepS K ρ H env σ∧RepH K ρ h H∧PostS K W D ρ H (m env h)
theorem PostS.ofR {α : Type} {K : PySem.W.Frag} {W : WX} {D : Ends} {rep : List Addr → Hp → α → Prop} {ρ : List Addr} {H : Hp} {env : Env} {σ : L2.St} {r : R α} {f : α → AH → SR} (s : RepS K ρ H env σ) (p : PostS K W D ρ H (SR.ofR env r f))
    (k : ∀ ρ' h' a H', Step ρ H ρ' H' → RepH K ρ' h' H' → PostS K W D ρ' H' (f a h') → rep ρ' H' a) : Post K (W.at σ) rep ρ H r := by
  cases r with
  | ok a h => exact fun ρ' H' e r' => k ρ' h a H' e r' (PostS.mono p e)
  | exc c h => exact fun ρ' H' e r' => p ρ' H' σ e r' (s.mono e)
  | bad => exact p
section
variable {X:Cx} {F:Nat→List D→M D} {B:Nat} {W:WX}
theorem s_nil:PSs X [] (tDS X.K W (denS F B .skip)):=PSs.imp L2.pss_nil fun D σ H t=>by
 obtain ⟨ρ,env,h,s,r,p⟩:=t
 exact p ρ H σ (Step.refl ρ H) r s
theorem s_cons {st:Stmt} {rest:List Stmt} {a b:CS} (h1:PS X st (tDS X.K W (denS F B a))) (h2:PSs X rest (tDS X.K W (denS F B b))):PSs X (st::rest) (tDS X.K W (denS F B (.seq a b))):=PSs.imp (L2.pss_cons h1 h2) fun D σ H t=>by
 obtain ⟨ρ,env,h,s,r,p⟩:=t
 refine ⟨ρ,env,h,s,r,?_⟩
 rw [denS] at p
 cases e:denS F B a env h with
 | nx e1 g1 =>
  rw [e] at p
  exact fun ρ' H' st' e' r' s'=>⟨ρ',e1,g1,s',r',PostS.mono p e'⟩
 | rt _ _=>rw [e] at p; exact p
 | bk _ _=>rw [e] at p; exact p
 | ct _ _=>rw [e] at p; exact p
 | exc _ _ _=>rw [e] at p; exact p
 | bad=>rw [e] at p; exact p
theorem s_set {i : Nat} {x : Str} {e : Expr} {c : CE} {pos pos' : Pos} (hN : X.N.Nodup) (hi : X.N[i]? = some x) (hx : L2.Loc X.env.scope x) (he : PE X e (tD X.K W (den F c)))
    (hs : swapsWith e (some (.Name x pos')) pos.line X.env = pure false) (hf : X.fn x = true ∨ X.env.scope.names.lookup x = some .local) : PS X (.Assign [.Name x pos'] e pos) (tDS X.K W (denS F B (.set (.nm i) c))) := PS.imp (L2.ps_set hN hi hx he hs hf) fun D σ H t => by
  obtain ⟨ρ, env, h, s, r, p⟩ := t
  rw [denS] at p
  exact ⟨ρ, env, h, s, r, PostS.ofR s p fun ρ' h' d H' e' r' q v hv => q ρ' H' _ (Step.refl _ _) r' ((s.mono e').set i hv)⟩
theorem s_exp {e:Expr} {c:CE} {pos:Pos} (he:PE X e (tD X.K W (den F c))) (hs:swapsWith e none pos.line X.env=pure false):PS X (.Expr e pos) (tDS X.K W (denS F B (.exp c))):=PS.imp (L2.ps_expr he hs) fun D σ H t=>by
 obtain ⟨ρ,env,h,s,r,p⟩:=t
 rw [denS] at p
 exact ⟨ρ,env,h,s,r,PostS.ofR s p fun ρ' h' d H' e' r' q v hv=>q ρ' H' _ (Step.refl _ _) r' (s.mono e')⟩
theorem s_ret {e:Expr} {c:CE} {pos:Pos} (he:PE X e (tD X.K W (den F c))):PS X (.Return (some e) pos) (tDS X.K W (denS F B (.ret c))):=PS.imp (L2.ps_ret he) fun D σ H t=>by
 obtain ⟨ρ,env,h,s,r,p⟩:=t
 rw [denS] at p
 exact ⟨ρ,env,h,s,r,PostS.ofR s p fun ρ' h' d H' e' r' q v hv=>q ρ' H' v (Step.refl _ _) r' hv⟩
theorem s_retN {pos:Pos}:PS X (.Return none pos) (tDS X.K W (denS F B .retN)):=PS.imp L2.ps_retN fun D σ H t=>by
 obtain ⟨ρ,env,h,s,r,p⟩:=t
 rw [denS] at p
 exact p ρ H .non (Step.refl _ _) r rfl
theorem s_pass {pos:Pos}:PS X (.Pass pos) (tDS X.K W (denS F B .skip)):=PS.imp L2.ps_pass fun D σ H t=>by
 obtain ⟨ρ,env,h,s,r,p⟩:=t
 exact p ρ H σ (Step.refl ρ H) r s
theorem s_brk {pos:Pos}:PS X (.Break pos) (tDS X.K W (denS F B .brk)):=PS.imp L2.ps_break fun D σ H t=>by
 obtain ⟨ρ,env,h,s,r,p⟩:=t
 exact p ρ H σ (Step.refl ρ H) r s
theorem s_cnt {pos:Pos}:PS X (.Continue pos) (tDS X.K W (denS F B .cnt)):=PS.imp L2.ps_continue fun D σ H t=>by
 obtain ⟨ρ,env,h,s,r,p⟩:=t
 exact p ρ H σ (Step.refl ρ H) r s
theorem s_if {c : Expr} {a b : List Stmt} {pos : Pos} {cc : CT} {ca cb : CS} (hc : PT X c (tDT X.K W (denT F cc))) (ha : PSs X a (tDS X.K W (denS F B ca))) (hb : PSs X b (tDS X.K W (denS F B cb))) :
    PS X (.If c a b pos) (tDS X.K W (denS F B (.ite cc ca cb))) := PS.imp (L2.ps_if hc ha hb) fun D σ H t => by
  obtain ⟨ρ, env, h, s, r, p⟩ := t
  rw [denS] at p
  refine ⟨ρ, env, h, s, r, PostS.ofR s p fun ρ' h' k H' e' r' q => ?_⟩
  cases k with
  | true => exact L2.iteT ⟨ρ', env, h', s.mono e', r', q⟩
  | false => exact L2.iteF ⟨ρ', env, h', s.mono e', r', q⟩
noncomputable def tgOk (K:PySem.W.Frag) (t:TG) (g:L2.TG):Prop:=∀ (ρ:List Addr) (H:Hp) (env env':Env) (σ:L2.St) (d:D) (v:V) (Q:L2.St→Hp→Prop),RepS K ρ H env σ→RepV K ρ H d v→tgSet t d env=some env'→(∀ st,RepS K ρ H env' st→Q st H)→g v σ H Q
theorem tg_nm {K:PySem.W.Frag} (i:Nat):tgOk K (.nm i) (L2.gName i):=by
 intro ρ H env env' σ d v Q s hv e q
 cases e
 exact q _ (s.set i hv)
theorem PostS.turn {K : PySem.W.Frag} {D : Ends} {ρ : List Addr} {H : Hp} {r : SR} {f : Env → AH → SR} {N : L2.St → Hp → Prop} (p : PostS K W D ρ H (r.turn f))
    (hN : ∀ ρ' H' env h st, Step ρ H ρ' H' → RepH K ρ' h H' → RepS K ρ' H' env st → PostS K W D ρ' H' (f env h) → N st H') : PostS K WF { D with nx := N, ct := N, bk := D.nx } ρ H r := by
  cases r with
  | nx e g => exact fun ρ' H' st e' r' s' => hN ρ' H' e g st e' r' s' (PostS.mono p e')
  | ct e g => exact fun ρ' H' st e' r' s' => hN ρ' H' e g st e' r' s' (PostS.mono p e')
  | bk e g => exact p
  | rt _ _ => exact p
  | exc _ _ _ => exact False.elim p
  | bad => exact p
theorem one_turn {K : PySem.W.Frag} {E : Ends} {ρ : List Addr} {H : Hp} {env : Env} {h : AH} {σ : L2.St} {t : TG} {g : L2.TG} {cb : CS} {d : D} {v : V} {f : Env → AH → SR} {N : L2.St → Hp → Prop} (ht : tgOk K t g) (s : RepS K ρ H env σ) (r : RepH K ρ h H) (hv : RepV K ρ H d v)
    (p : PostS K W E ρ H ((turnOf t (denS F B cb) d env h).turn f)) (hN : ∀ ρ' H' env h st, Step ρ H ρ' H' → RepH K ρ' h H' → RepS K ρ' H' env st → PostS K W E ρ' H' (f env h) → N st H') :
    g v σ H fun σ2 H2 => tDS K WF (denS F B cb) { E with nx := N, ct := N, bk := E.nx } σ2 H2 := by
  unfold turnOf at p
  cases e : tgSet t d env with
  | none => rw [e] at p; exact False.elim p
  | some env' =>
    rw [e] at p
    exact ht ρ H env env' σ d v _ s hv e fun st s' => ⟨ρ, env', h, s', r, PostS.turn p hN⟩
theorem loop_row {K : PySem.W.Frag} {E : Ends} {ρ : List Addr} {H : Hp} {env : Env} {h : AH} {σ : L2.St} {t : TG} {g : L2.TG} {cb : CS} {J : L2.It} {xs : List D} (ht : tgOk K t g) (s : RepS K ρ H env σ) (r : RepH K ρ h H)
    (go : ∀ (i : Nat) ρ' H', Step ρ H ρ' H' → i < xs.length → J.go i H') (yl : ∀ (i : Nat) ρ' H' x H'', Step ρ H ρ' H' → i < xs.length → J.yld i H' x H'' → H'' = H' ∧ ∃ d, xs[i]? = some d ∧ RepV K ρ' H' d x) (sp : ∀ (i : Nat) ρ' H', Step ρ H ρ' H' → i = xs.length → J.stop i H')
    (p : PostS K W E ρ H (forRow (turnOf t (denS F B cb)) xs env h)) :
    ∃ Wi : Nat → Nat → L2.St → Hp → Prop, (∃ m, Wi 0 m σ H) ∧ ∀ i m σ H, Wi i m σ H →
      (J.stop i H ∧ E.nx σ H) ∨ (J.go i H ∧ ∃ N : L2.St → Hp → Prop, (∀ σ' H', N σ' H' → ∃ m', m' < m ∧ Wi (i + 1) m' σ' H') ∧ ∀ x H', J.yld i H x H' → g x σ H' fun σ2 H2 => tDS K WF (denS F B cb) { E with nx := N, ct := N, bk := E.nx } σ2 H2) := by
  refine ⟨fun i m σ' H' => m = xs.length - i ∧ i ≤ xs.length ∧ ∃ ρ' env' h', Step ρ H ρ' H' ∧ RepS K ρ' H' env' σ' ∧ RepH K ρ' h' H' ∧ PostS K W E ρ' H' (forRow (turnOf t (denS F B cb)) (xs.drop i) env' h'), ⟨_, rfl, Nat.zero_le _, ρ, env, h, Step.refl _ _, s, r, p⟩, ?_⟩
  rintro i m σ' H' ⟨rfl, hi, ρ', env', h', e', s', r', p'⟩
  by_cases hlt : i < xs.length
  · refine .inr ⟨go i ρ' H' e' hlt, fun σ2 H2 => ∃ ρ2 env2 h2, Step ρ H ρ2 H2 ∧ RepS K ρ2 H2 env2 σ2 ∧ RepH K ρ2 h2 H2 ∧ PostS K W E ρ2 H2 (forRow (turnOf t (denS F B cb)) (xs.drop (i + 1)) env2 h2), fun σ2 H2 q => ⟨xs.length - (i + 1), by omega, rfl, hlt, q⟩, fun x H'' y => ?_⟩
    obtain ⟨rfl, d, hd, hv⟩ := yl i ρ' H' x H'' e' hlt y
    rw [List.drop_eq_getElem_cons hlt] at p'
    have ed : xs[i] = d := by
      rw [List.getElem?_eq_getElem hlt] at hd
      exact Option.some.inj hd
    rw [ed, forRow] at p'
    exact one_turn ht s' r' hv p' fun ρ2 H2 env2 h2 st e2 r2 s2 p2 => ⟨ρ2, env2, h2, e'.trans e2, s2, r2, p2⟩
  · have e : i = xs.length := by omega
    subst e
    rw [List.drop_length] at p'
    exact .inl ⟨sp _ ρ' H' e' rfl, p' ρ' H' σ' (Step.refl _ _) r' s'⟩
theorem loop_live {K : PySem.W.Frag} {E : Ends} {ρ : List Addr} {H : Hp} {env : Env} {h : AH} {σ : L2.St} {t : TG} {g : L2.TG} {cb : CS} {k : Nat} {a : Addr} {n : Nat} (ht : tgOk K t g) (s : RepS K ρ H env σ) (r : RepH K ρ h H) (ha : ρ[k]? = some a)
    (p : PostS K W E ρ H (forLive (turnOf t (denS F B cb)) k n 0 env h)) :
    ∃ Wi : Nat → Nat → L2.St → Hp → Prop, (∃ m, Wi 0 m σ H) ∧ ∀ i m σ H, Wi i m σ H →
      ((L2.Itl K a).stop i H ∧ E.nx σ H) ∨ ((L2.Itl K a).go i H ∧ ∃ N : L2.St → Hp → Prop, (∀ σ' H', N σ' H' → ∃ m', m' < m ∧ Wi (i + 1) m' σ' H') ∧ ∀ x H', (L2.Itl K a).yld i H x H' → g x σ H' fun σ2 H2 => tDS K WF (denS F B cb) { E with nx := N, ct := N, bk := E.nx } σ2 H2) := by
  refine ⟨fun i m σ' H' => ∃ ρ' env' h', Step ρ H ρ' H' ∧ RepS K ρ' H' env' σ' ∧ RepH K ρ' h' H' ∧ PostS K W E ρ' H' (forLive (turnOf t (denS F B cb)) k m i env' h'), ⟨n, ρ, env, h, Step.refl _ _, s, r, p⟩, ?_⟩
  rintro i m σ' H' ⟨ρ', env', h', e', s', r', p'⟩
  cases m with
  | zero => exact False.elim p'
  | succ m =>
    rw [forLive] at p'
    cases q : getL h' k with
    | none => rw [q] at p'; exact False.elim p'
    | some xs =>
      rw [q] at p'
      obtain ⟨b, vs, h1, h2, h3⟩ := r'.list q
      rw [pre_get e'.pre ha] at h1
      cases h1
      cases qx : xs[i]? with
      | none =>
        simp only [qx] at p'
        refine .inl ⟨⟨vs, h2, ?_⟩, p' ρ' H' σ' (Step.refl _ _) r' s'⟩
        rw [h3.length]
        exact List.getElem?_eq_none_iff.mp qx
      | some d =>
        simp only [qx] at p'
        obtain ⟨w, hw, hv⟩ := h3.get qx
        refine .inr ⟨⟨vs, w, h2, hw⟩, fun σ2 H2 => ∃ ρ2 env2 h2, Step ρ H ρ2 H2 ∧ RepS K ρ2 H2 env2 σ2 ∧ RepH K ρ2 h2 H2 ∧ PostS K W E ρ2 H2 (forLive (turnOf t (denS F B cb)) k m (i + 1) env2 h2), fun σ2 H2 z => ⟨m, by omega, z⟩, fun x H'' y => ?_⟩
        obtain ⟨rfl, y⟩ := y
        have ew := y vs h2
        rw [hw] at ew
        cases ew
        exact one_turn ht s' r' hv p' fun ρ2 H2 env2 h2 st e2 r2 s2 p2 => ⟨ρ2, env2, h2, e'.trans e2, s2, r2, p2⟩
end
end Fy
set_option Elab.async false
set_option linter.all false
set_option maxRecDepth 100000
set_option maxHeartbeats 4000000
namespace Fy
open PySem PySem.Spec PyProof.Rows
open L2 (V Hp HO VK TE TT TA TS TI Cx Inv RelV Vals SqL SqT Rd upd upd_same upd_ne PE PT PA PS PSs EP OpR CallR IxR MtR SlR PO TO)
section
variable {X:Cx} {F:Nat→List D→M D} {W:WX}
theorem at_of {K:PySem.W.Frag} {ρ:List Addr} {H:Hp} {xs:List D} {vs:List V} {i:Int} {d:D} (l:RepL K ρ H xs vs) (e:(ixN xs.length i).bind (xs[·]?)=some d):∃ w,L2.atI vs i=some w∧RepV K ρ H d w:=by
 cases q:ixN xs.length i with
 | none=>rw [q] at e; cases e
 | some j =>
  rw [q] at e
  have e:xs[j]?=some d:=e
  obtain ⟨w,h1,h2⟩:=l.get e
  refine ⟨w,?_,h2⟩
  show (L2.ixN vs.length i).bind (fun j=>vs[j]?)=some w
  rw [l.length]
  have q':L2.ixN xs.length i=some j:=q
  rw [q']
  exact h1
theorem ix_D:IxR X (rB X.K .ix):=by
 rintro value slice pins s σ H x y v u Q I rx ry ⟨w,ρ,h,d,e,r,hd,he,p⟩ hs
 cases d with
 | tup xs =>
  cases e with
  | int i =>
   cases he
   obtain ⟨a,vs,rfl,h1,h2⟩:=hd
   have p:PostV X.K w Q ρ H (match (ixN xs.length i).bind (xs[·]?) with | some d=>.ok d h | none=>.bad):=p
   cases q:(ixN xs.length i).bind (xs[·]?) with
   | none=>rw [q] at p; exact False.elim p
   | some d =>
    rw [q] at p
    obtain ⟨w,h3,h4⟩:=at_of h2 q
    exact L2.ix_tup value slice pins s σ H _ _ v u Q I rx ry ⟨a,vs,i,w,rfl,rfl,h1,h3,PostV.now p r h4⟩ hs
  | _=>exact (show False from p).elim
 | str x =>
  cases e with
  | int i =>
   cases he
   cases hd
   have p:PostV X.K w Q ρ H (if x.length≤16777216 then (match (ixN x.length i).bind (x[·]?) with | some c=>.ok (.str [c]) h | none=>.bad) else .bad):=p
   obtain ⟨hz,p⟩:=PostV.ite p
   cases q:(ixN x.length i).bind (x[·]?) with
   | none=>rw [q] at p; exact False.elim p
   | some c =>
    rw [q] at p
    exact L2.ix_str value slice pins s σ H _ _ v u Q I rx ry ⟨⟨x.toArray⟩,i,c,rfl,rfl,by rw [str_len,szEq]; exact hz,q,PostV.now p r rfl⟩ hs
  | _=>exact (show False from p).elim
 | ref k =>
  cases e with
  | int i =>
   have p:PostV X.K w Q ρ H (match (getL h k).bind fun xs=>(ixN xs.length i).bind (xs[·]?) with | some d=>.ok d h | none=>ixK k (.int i) h):=p
   cases q:((getL h k).bind fun xs=>(ixN xs.length i).bind (xs[·]?)) with
   | none=>rw [q] at p; exact ix_K (ky:=.int i) I r hd he rx ry p hs
   | some d =>
    rw [q] at p
    cases he
    cases q0:getL h k with
    | none=>rw [q0] at q; cases q
    | some xs =>
     rw [q0] at q
     obtain ⟨a,vs,rfl,h1,h2⟩:=r.seen q0 hd
     obtain ⟨w,h3,h4⟩:=at_of h2 q
     exact L2.ix_list value slice pins s σ H _ _ v u Q I rx ry ⟨a,vs,i,w,rfl,rfl,h1,h3,PostV.now p r h4⟩ hs
  | str x=>exact ix_K (ky:=.str x) I r hd he rx ry p hs
  | _=>exact (show False from p).elim
 | _=>exact (show False from p).elim
theorem d_ix {a b:Expr} {ca cb:CE} {pos:Pos} (ha:PE X a (tD X.K W (den F ca))) (hb:PE X b (tD X.K W (den F cb))) (hs:L2.PlainIx b):PE X (.Subscript a b pos) (tD X.K W (den F (.bi .ix ca cb))):=PE.imp (L2.pe_ix ix_D ha hb hs) fun _ _ _ t=>two t
theorem un_negD:L2.UnR X (unaryOp .USub) (rU X.K .neg):=by
 rintro pins s σ H x v Q I rx ⟨w,ρ,h,d,r,hd,p⟩
 cases d with
 | int i=>cases hd; exact L2.un_neg pins s σ H _ v Q I rx ⟨i,rfl,PostV.now p r rfl⟩
 | _=>exact (show False from p).elim
theorem d_neg {a:Expr} {ca:CE} {pos:Pos} (ha:PE X a (tD X.K W (den F ca))):PE X (.UnaryOp .USub a pos) (tD X.K W (den F (.un .neg ca))):=PE.imp (L2.pe_un un_negD ha) fun _ _ _ t=>one t
theorem call_lenD:CallR X (.builtin "len") (rC X.K .len):=by
 rintro pins s σ H xs us Q I rv ⟨x,rfl,w,ρ,h,d,r,hd,p⟩
 cases d with
 | str x =>
  cases hd
  obtain ⟨hz,p⟩:=PostV.ite (c:=x.length≤16777216) p
  exact L2.call_len pins s σ H _ us Q I rv ⟨_,x.length,rfl,⟨by rw [str_len,szEq]; exact hz,by rw [str_len]⟩,PostV.now p r rfl⟩
 | tup ys =>
  obtain ⟨a,vs,rfl,h1,h2⟩:=hd
  exact L2.call_len pins s σ H _ us Q I rv ⟨_,ys.length,rfl,.inr ⟨vs,h1,h2.length.symm⟩,PostV.now (h:=h) p r rfl⟩
 | ref i =>
  have p:PostV X.K w Q ρ H (match getL h i with | some xs=>.ok (.int xs.length) h | none=>.bad):=p
  cases q:getL h i with
  | none=>rw [q] at p; exact False.elim p
  | some ys =>
   rw [q] at p
   obtain ⟨a,vs,rfl,h1,h2⟩:=r.seen q hd
   exact L2.call_len pins s σ H _ us Q I rv ⟨_,ys.length,rfl,.inl ⟨vs,h1,h2.length.symm⟩,PostV.now p r rfl⟩
 | _=>exact (show False from p).elim
theorem call_ordD:CallR X (.builtin "ord") (rC X.K .ord):=by
 rintro pins s σ H xs us Q I rv ⟨x,rfl,w,ρ,h,d,r,hd,p⟩
 cases d with
 | str x =>
  cases hd
  match x,p with
  | [c],p=>exact L2.call_ord pins s σ H _ us Q I rv ⟨_,rfl,rfl,PostV.now (h:=h) p r rfl⟩
  | [],p=>exact (show False from p).elim
  | _::_::_,p=>exact (show False from p).elim
 | _=>exact (show False from p).elim
theorem txI_eq (i:Int):((toString i:String):Str)=⟨(txI i).toArray⟩:=by
 show Str.ofString (toString i)=_
 rw [Str.ofString_eq_toList]
 rfl
theorem call_strD:CallR X (.type "str") (rC X.K .str):=by
 rintro pins s σ H xs us Q I rv ⟨x,rfl,w,ρ,h,d,r,hd,p⟩
 cases d with
 | int i =>
  cases hd
  obtain ⟨hz,p⟩:=PostV.ite (c:=i.natAbs.log2 < 1920) p
  exact L2.call_str_int pins s σ H _ us Q I rv ⟨i,rfl,hz,PostV.now p r (txI_eq i ▸ rfl)⟩
 | _=>exact (show False from p).elim
theorem call_intD:CallR X (.type "int") (rC X.K .int):=by
 rintro pins s σ H xs us Q I rv ⟨x,rfl,w,ρ,h,d,r,hd,p⟩
 cases d with
 | int i=>cases hd; exact L2.call_int1 pins s σ H _ us Q I rv (.inl ⟨i,rfl,PostV.now (h:=h) p r rfl⟩)
 | bl b=>cases hd; exact L2.call_int1 pins s σ H _ us Q I rv (.inr ⟨b,rfl,PostV.now (h:=h) p r rfl⟩)
 | str x =>
  cases hd
  obtain ⟨hc,p⟩:=PostV.ite (c:=x ≠ []∧x.length≤640∧isDig x=true) p
  obtain ⟨h1,h2,h3⟩:=hc
  obtain ⟨u,rfl,t,rfl⟩:=L2.vals1 rv
  have hd:PySem.NumText.AllDigits x:=fun c hc=>by
   have:=List.all_eq_true.mp h3 c hc
   exact of_decide_eq_true this
  exact PySem.W.KIN.call_text (PySem.intText_digits (x:=⟨x.toArray⟩) hd h1 (by rw [str_len]; omega)) (by rw [str_len]; exact h2) ⟨.int _,H,I.tok _,⟨_,rfl⟩,PostV.now p r rfl⟩
 | _=>exact (show False from p).elim
theorem call_tupleD:CallR X (.type "tuple") (rC X.K .tuple):=by
 rintro pins s σ H xs us Q I rv ⟨x,rfl,w,ρ,h,d,r,hd,p⟩
 cases d with
 | tup ys =>
  obtain ⟨a,vs,rfl,h1,h2⟩:=hd
  exact L2.call_tuple_of pins s σ H _ us Q I rv ⟨a,vs,rfl,.inr ⟨h1,PostV.now (h:=h) p r ⟨a,vs,rfl,h1,h2⟩⟩⟩
 | ref i =>
  have p:PostV X.K w Q ρ H (match getL h i with | some xs=>.ok (.tup xs) h | none=>.bad):=p
  cases q:getL h i with
  | none=>rw [q] at p; exact False.elim p
  | some ys =>
   rw [q] at p
   obtain ⟨a,vs,rfl,h1,h2⟩:=r.seen q hd
   exact L2.call_tuple_of pins s σ H _ us Q I rv ⟨a,vs,rfl,.inl ⟨h1,PostV.newT p r h2⟩⟩
 | _=>exact (show False from p).elim
theorem call_min2D (hc:X.calm=true):CallR X (.builtin "min") (rC2 X.K .min2):=by
 rintro pins s σ H xs us Q I rv ⟨x,y,rfl,w,ρ,h,d,e,r,hd,he,p⟩
 cases d with
 | int i =>
  cases e with
  | int j=>cases hd; cases he; exact L2.call_min2 hc pins s σ H _ us Q I rv ⟨i,j,rfl,PostV.now (h:=h) p r rfl⟩
  | _=>exact (show False from p).elim
 | _=>exact (show False from p).elim
theorem call_max2D (hc:X.calm=true):CallR X (.builtin "max") (rC2 X.K .max2):=by
 rintro pins s σ H xs us Q I rv ⟨x,y,rfl,w,ρ,h,d,e,r,hd,he,p⟩
 cases d with
 | int i =>
  cases e with
  | int j=>cases hd; cases he; exact L2.call_max2 hc pins s σ H _ us Q I rv ⟨i,j,rfl,PostV.now (h:=h) p r rfl⟩
  | _=>exact (show False from p).elim
 | _=>exact (show False from p).elim
theorem isNI {ca:CE} {σ:L2.St} {H:Hp} {Q:VK} (t:tD X.K W (den F (.un .isN ca)) σ H Q):L2.tIsN (tD X.K W (den F ca)) σ H Q:=by
 obtain ⟨ρ,env,h,s,r,p⟩:=one t
 refine ⟨ρ,env,h,s,r,Post.imp p fun ρ' H' d q v hv=>?_⟩
 obtain ⟨w1,ρ1,h1,d1,r1,hd1,p1⟩:=q v hv
 have e:=PostV.now (h:=h1) p1 r1 (v:=.bl (decide (v=.non))) (by
  cases d1 <;> first
   | (cases hd1; rfl)
   | (obtain ⟨a,vs,rfl,_⟩:=hd1; rfl)
   | (obtain ⟨a,_,rfl⟩:=hd1; rfl))
 exact e
theorem notNI {ca:CE} {σ:L2.St} {H:Hp} {Q:VK} (t:tD X.K W (den F (.un .notN ca)) σ H Q):L2.tNotN (tD X.K W (den F ca)) σ H Q:=by
 obtain ⟨ρ,env,h,s,r,p⟩:=one t
 refine ⟨ρ,env,h,s,r,Post.imp p fun ρ' H' d q v hv=>?_⟩
 obtain ⟨w1,ρ1,h1,d1,r1,hd1,p1⟩:=q v hv
 have e:=PostV.now (h:=h1) p1 r1 (v:=.bl (!decide (v=.non))) (by
  cases d1 <;> first
   | (cases hd1; rfl)
   | (obtain ⟨a,vs,rfl,_⟩:=hd1; rfl)
   | (obtain ⟨a,_,rfl⟩:=hd1; rfl))
 exact e
theorem un_bl {o:Un} (ho:o=.isN ∨ o=.notN) {ca:CE} (env:Env) (h:AH) (d:D) (h':AH) (e:den F (.un o ca) env h=.ok d h'):∃ k,d=.bl k:=by
 rw [den] at e
 obtain ⟨x,g1,_,e⟩:=bind_ok e
 rcases ho with rfl | rfl <;> (cases e; exact ⟨_,rfl⟩)
theorem d_isN {a:Expr} {ca:CE} {j:Nat} {pos pos':Pos} (ha:PE X a (tD X.K W (den F ca))):PE X (.Compare a [.Is] [.Constant .none j pos'] pos) (tD X.K W (den F (.un .isN ca))):=PE.imp (L2.pe_cmp (L2.pc_isN ha)) fun σ H Q t=>isNI t
theorem d_notN {a:Expr} {ca:CE} {j:Nat} {pos pos':Pos} (ha:PE X a (tD X.K W (den F ca))):PE X (.Compare a [.IsNot] [.Constant .none j pos'] pos) (tD X.K W (den F (.un .notN ca))):=PE.imp (L2.pe_cmp (L2.pc_notN ha)) fun σ H Q t=>notNI t
theorem dt_isN {a:Expr} {ca:CE} {j:Nat} {pos pos':Pos} (ha:PE X a (tD X.K W (den F ca))):PT X (.Compare a [.Is] [.Constant .none j pos'] pos) (tDT X.K W (denT F (.val (.un .isN ca)))):=PT.imp (L2.pt_cmp (L2.pc_isN ha)) fun σ H Q t=>isNI (valI (un_bl (.inl rfl)) t)
theorem dt_notN {a:Expr} {ca:CE} {j:Nat} {pos pos':Pos} (ha:PE X a (tD X.K W (den F ca))):PT X (.Compare a [.IsNot] [.Constant .none j pos'] pos) (tDT X.K W (denT F (.val (.un .notN ca)))):=PT.imp (L2.pt_cmp (L2.pc_notN ha)) fun σ H Q t=>notNI (valI (un_bl (.inr rfl)) t)
end
end Fy
set_option Elab.async false
set_option linter.all false
set_option maxRecDepth 100000
set_option maxHeartbeats 4000000
namespace Fy
open PySem PySem.Spec PyProof.Rows
open L2 (V Hp HO VK TE TT TA TS TI Cx Inv RelV Vals SqL SqT Rd upd upd_same upd_ne PE PT PA PS PSs EP OpR CallR IxR MtR SlR PO TO PI PG PIE Turn FpOk Ends)
section
variable {X:Cx} {F:Nat→List D→M D} {B:Nat} {W:WX}
theorem PS.nox {st:Stmt} {t:TS} (h:PS X.nox st t):PS X st t:=fun pins s σ H D I hw =>
 wpAny_mono (h pins s σ H D (I.wish _) hw) (fun _ _ q=>q.unwish) fun _ _ z=>False.elim z
theorem dt_not {a:Expr} {ca:CT} {pos:Pos} (ha:PT X a (tDT X.K W (denT F ca))):PT X (.UnaryOp .Not a pos) (tDT X.K W (denT F (.not ca))):=PT.imp (L2.pt_not ha) fun σ H Q t=>by
 obtain ⟨ρ,env,h,s,r,p⟩:=t
 rw [denT] at p
 exact ⟨ρ,env,h,s,r,Post.bind p fun ρ1 h1 k H1 e1 r1 q=>Post.ret q r1⟩
theorem dw_and {a b:Expr} {rest:List Expr} {ca cb:CT} {pos:Pos} (ha:PT X a (tDT X.K W (denT F ca))) (hb:L2.PW X (.BoolOp .And (b::rest) pos) (tDT X.K W (denT F cb))):L2.PW X (.BoolOp .And (a::b::rest) pos) (tDT X.K W (denT F (.and ca cb))):=fun wh pins s σ H Q I t =>
 L2.pw_and ha hb wh pins s σ H Q I (by
  obtain ⟨ρ,env,h,s,r,p⟩:=t
  rw [denT] at p
  refine ⟨ρ,env,h,s,r,Post.bind p fun ρ1 h1 k H1 e1 r1 q=>?_⟩
  cases k with
  | true=>exact L2.iteT ⟨ρ1,env,h1,s.mono e1,r1,q⟩
  | false=>exact L2.iteF (Post.ret q r1))
theorem dw_or {a b:Expr} {rest:List Expr} {ca cb:CT} {pos:Pos} (ha:PT X a (tDT X.K W (denT F ca))) (hb:L2.PW X (.BoolOp .Or (b::rest) pos) (tDT X.K W (denT F cb))):L2.PW X (.BoolOp .Or (a::b::rest) pos) (tDT X.K W (denT F (.or ca cb))):=fun wh pins s σ H Q I t =>
 L2.pw_or ha hb wh pins s σ H Q I (by
  obtain ⟨ρ,env,h,s,r,p⟩:=t
  rw [denT] at p
  refine ⟨ρ,env,h,s,r,Post.bind p fun ρ1 h1 k H1 e1 r1 q=>?_⟩
  cases k with
  | true=>exact L2.iteT (Post.ret q r1)
  | false=>exact L2.iteF ⟨ρ1,env,h1,s.mono e1,r1,q⟩)
end
end Fy
set_option Elab.async false
set_option linter.all false
set_option maxRecDepth 100000
set_option maxHeartbeats 4000000
namespace Fy
open PySem PySem.Spec PyProof.Rows PySem.SeqAt
open L2 (V Hp HO VK TE TT TA TS TI Cx Inv RelV Vals SqL SqT Rd upd upd_same upd_ne PE PT PA PS PSs EP OpR CallR IxR MtR SlR PO TO PI PG PIE Turn FpOk Ends)
noncomputable def pairB (f:D→D→Option Bool) (xs ys:List D) (j:Nat):Bool:=match xs[j]?,ys[j]? with
 | some x,some y=>(f x y).getD false
 | _,_=>false
theorem eqW_at {f : D → D → Option Bool} : ∀ {xs ys : List D} {b : Bool}, eqW f xs ys = some b →
    (∀ j x y, xs[j]? = some x → ys[j]? = some y → f x y = some (pairB f xs ys j)) ∧ b = ((List.range (min xs.length ys.length)).all (pairB f xs ys) && (xs.length == ys.length))
  | [], [], b, e => by
    cases e
    exact ⟨fun j x y h => by simp at h, rfl⟩
  | [], y :: ys, b, e => by
    cases e
    exact ⟨fun j x y h => by simp at h, by simp⟩
  | x :: xs, [], b, e => by
    cases e
    exact ⟨fun j x y _ h => by simp at h, by simp⟩
  | x :: xs, y :: ys, b, e => by
    unfold eqW at e
    cases e1 : f x y with
    | none => rw [e1] at e; cases e
    | some c =>
      cases e2 : eqW f xs ys with
      | none => rw [e1, e2] at e; cases e
      | some d =>
        rw [e1, e2] at e
        cases e
        obtain ⟨h1, h2⟩ := eqW_at e2
        refine ⟨fun j x' y' hx hy => ?_, ?_⟩
        · cases j with
          | zero =>
            cases hx
            cases hy
            show f x y = some ((f x y).getD false)
            rw [e1]
            rfl
          | succ j => exact h1 j x' y' (by simpa using hx) (by simpa using hy)
        · rw [h2]
          have e3 : pairB f (x :: xs) (y :: ys) 0 = c := by
            show (f x y).getD false = c
            rw [e1]
            rfl
          have e4 : ∀ j, pairB f (x :: xs) (y :: ys) (j + 1) = pairB f xs ys j := fun j => by
            unfold pairB
            simp
          have e5 : min (x :: xs).length (y :: ys).length = min xs.length ys.length + 1 := by simp
          rw [e5, List.range_succ_eq_map, List.all_cons, e3, List.all_map]
          have e6 : (pairB f (x :: xs) (y :: ys) ∘ Nat.succ) = pairB f xs ys := funext e4
          rw [e6]
          simp [Bool.and_assoc]
section
variable {X:Cx} {pins:List (Addr × Obj)} {σ:L2.St} {H:Hp} {s:Shared} {ρ:List Addr} {h:AH}
theorem inv_non {y:D} (h:RepV X.K ρ H y .non):y=.non:=by
 cases y with
 | non=>rfl
 | tup xs=>obtain ⟨_,_,z,_⟩:=h; cases z
 | ref i=>obtain ⟨_,_,z⟩:=h; cases z
 | _=>cases h
theorem inv_bl {y:D} {c:Bool} (h:RepV X.K ρ H y (.bl c)):y=.bl c:=by
 cases y with
 | bl d=>cases h; rfl
 | tup xs=>obtain ⟨_,_,z,_⟩:=h; cases z
 | ref i=>obtain ⟨_,_,z⟩:=h; cases z
 | _=>cases h
theorem inv_int {y:D} {c:Int} (h:RepV X.K ρ H y (.int c)):y=.int c:=by
 cases y with
 | int d=>cases h; rfl
 | tup xs=>obtain ⟨_,_,z,_⟩:=h; cases z
 | ref i=>obtain ⟨_,_,z⟩:=h; cases z
 | _=>cases h
theorem inv_str {y:D} {c:Tx} (h:RepV X.K ρ H y (.str ⟨c.toArray⟩)):y=.str c:=by
 cases y with
 | str d =>
  have z:V.str ⟨c.toArray⟩=V.str ⟨d.toArray⟩:=h
  have z:c.toArray=d.toArray:=by injection z with z; injection z
  have z:c=d:=by simpa using congrArg Array.toList z
  rw [z]
 | tup xs=>obtain ⟨_,_,z,_⟩:=h; cases z
 | ref i=>obtain ⟨_,_,z⟩:=h; cases z
 | _=>cases h
theorem inv_ref {y:D} {a:Addr} (h:RepV X.K ρ H y (.ref a)):(∃ ys vs,y=.tup ys∧SqT X.K H a vs∧RepL X.K ρ H ys vs) ∨ ∃ j,y=.ref j∧ρ[j]?=some a:=by
 cases y with
 | tup xs=>obtain ⟨_,vs,z,h1,h2⟩:=h; cases z; exact .inl ⟨xs,vs,rfl,h1,h2⟩
 | ref i=>obtain ⟨_,h1,z⟩:=h; cases z; exact .inr ⟨i,rfl,h1⟩
 | _=>cases h
theorem plain_of {x:D} {v:V} {vv:Value} (h:RepV X.K ρ H x v) (r:RelV v vv):vv=.none ∨ (∃ c,vv=.bool c) ∨ (∃ c t,vv=.int c t) ∨ (∃ c t,vv=.str c t) ∨ ∃ c,vv=.ref c:=by
 cases x with
 | non=>cases h; exact .inl r
 | bl c=>cases h; exact .inr (.inl ⟨c,r⟩)
 | int c=>cases h; obtain ⟨t,r⟩:=r; exact .inr (.inr (.inl ⟨c,t,r⟩))
 | str c=>cases h; obtain ⟨t,r⟩:=r; exact .inr (.inr (.inr (.inl ⟨_,t,r⟩)))
 | tup xs=>obtain ⟨a,_,rfl,_⟩:=h; exact .inr (.inr (.inr (.inr ⟨a,r⟩)))
 | ref i=>obtain ⟨a,_,rfl⟩:=h; exact .inr (.inr (.inr (.inr ⟨a,r⟩)))
theorem same_true (I:Inv X pins σ H s) (r:RepH X.K ρ h H):∀ (n:Nat) (x y:D) (b:Bool) (v:V),eqD h n x y=some b→RepV X.K ρ H x v→RepV X.K ρ H y v→b=true:=by
 intro n
 have rows:∀ m,(∀ (x y:D) (b:Bool) (v:V),eqD h m x y=some b→RepV X.K ρ H x v→RepV X.K ρ H y v→b=true)→∀ (xs ys:List D) (b:Bool) (vs:List V),eqW (eqD h m) xs ys=some b→RepL X.K ρ H xs vs→RepL X.K ρ H ys vs→b=true:=by
  intro m ih xs
  induction xs with
  | nil =>
   intro ys b vs e hx hy
   cases hx
   cases ys with
   | nil=>cases e; rfl
   | cons y ys=>obtain ⟨_,_,z,_⟩:=hy; cases z
  | cons x xs ihx =>
   intro ys b vs e hx hy
   obtain ⟨v,rest,rfl,h1,h2⟩:=hx
   cases ys with
   | nil=>cases hy
   | cons y ys =>
    obtain ⟨v',rest',z,k1,k2⟩:=hy
    cases z
    unfold eqW at e
    cases e1:eqD h m x y with
    | none=>rw [e1] at e; cases e
    | some c =>
     cases e2:eqW (eqD h m) xs ys with
     | none=>rw [e1,e2] at e; cases e
     | some d =>
      rw [e1,e2] at e
      cases e
      rw [ih x y c v e1 h1 k1,ihx ys d rest e2 h2 k2]
      rfl
 induction n with
 | zero =>
  intro x y b v e hx hy
  cases x with
  | non=>cases hx; cases inv_non hy; cases e; rfl
  | bl c=>cases hx; cases inv_bl hy; cases e; simp
  | int c=>cases hx; cases inv_int hy; cases e; simp
  | str c=>cases hx; cases inv_str hy; cases e; simp
  | tup xs =>
   obtain ⟨a,vs,rfl,k1,k2⟩:=hx
   rcases inv_ref hy with ⟨ys,ws,rfl,k3,k4⟩ | ⟨j,rfl,k3⟩
   ·cases e
   ·cases e
  | ref i =>
   obtain ⟨a,k1,rfl⟩:=hx
   rcases inv_ref hy with ⟨ys,ws,rfl,k3,k4⟩ | ⟨j,rfl,k3⟩
   ·cases e
   ·cases e
 | succ n ih =>
  intro x y b v e hx hy
  cases x with
  | non=>cases hx; cases inv_non hy; cases e; rfl
  | bl c=>cases hx; cases inv_bl hy; cases e; simp
  | int c=>cases hx; cases inv_int hy; cases e; simp
  | str c=>cases hx; cases inv_str hy; cases e; simp
  | tup xs =>
   obtain ⟨a,vs,rfl,k1,k2⟩:=hx
   rcases inv_ref hy with ⟨ys,ws,rfl,k3,k4⟩ | ⟨j,rfl,k3⟩
   ·have:=I.tuple_inj k1 k3
    subst this
    exact rows n ih xs ys b vs e k2 k4
   ·cases e
  | ref i =>
   obtain ⟨a,k1,rfl⟩:=hx
   rcases inv_ref hy with ⟨ys,ws,rfl,k3,k4⟩ | ⟨j,rfl,k3⟩
   ·cases e
   ·have e:(match getL h i,getL h j with | some xs,some ys=>eqW (eqD h n) xs ys | _,_=>none)=some b:=e
    cases q:getL h i with
    | none=>rw [q] at e; cases e
    | some xs =>
     cases q2:getL h j with
     | none=>rw [q,q2] at e; cases e
     | some ys =>
      rw [q,q2] at e
      obtain ⟨a1,vs,m1,m2,m3⟩:=r.list q
      obtain ⟨a2,ws,n1,n2,n3⟩:=r.list q2
      rw [k1] at m1
      rw [k3] at n1
      cases m1
      cases n1
      have:=I.list_inj m2 n2
      subst this
      exact rows n ih xs ys b vs e m3 n3
theorem eqOf (I : Inv X pins σ H s) (r : RepH X.K ρ h H) : ∀ (m : Nat), (∀ (x y : D) (b : Bool) (v u : V) (vv uu : Value) (A : Around), eqD h m x y = some b → RepV X.K ρ H x v → RepV X.K ρ H y u → RelV v vv → RelV u uu → A.units + m < cLine → RcAt A s vv uu b) →
    ∀ (x y : D) (b : Bool) (v u : V) (vv uu : Value) (A : Around), eqD h m x y = some b → RepV X.K ρ H x v → RepV X.K ρ H y u → RelV v vv → RelV u uu → A.units + m < cLine → EqAt A s vv uu b := by
  intro m ih x y b v u vv uu A e hx hy rv ru hu prog w E Q hq
  unfold eqBool
  refine wpAny_holding ?_
  refine wpAny_ite_split (fun hab => ?_) (fun _ => ?_)
  · have hab := eq_of_beq hab
    subst hab
    have := rv.inj ru
    subst this
    have := same_true I r m x y b v e hx hy
    subst this
    exact wpAny_bind (wpAny_rule (wpAny_pure hq))
  · have go := ih x y b v u vv uu A e hx hy rv ru hu prog w E (fun c s' => wpAny (model prog w) A (truthOfDropped c) Q E s') (wpAny_truthy_bool hq)
    rcases plain_of hx rv with rfl | ⟨c, rfl⟩ | ⟨c, t, rfl⟩ | ⟨c, t, rfl⟩ | ⟨c, rfl⟩ <;> exact wpAny_bind go
theorem seqs (I : Inv X pins σ H s) (r : RepH X.K ρ h H) : ∀ (m : Nat) (A : Around), (∀ (x y : D) (b : Bool) (v u : V) (vv uu : Value) (A : Around), eqD h m x y = some b → RepV X.K ρ H x v → RepV X.K ρ H y u → RelV v vv → RelV u uu → A.units + m < cLine → RcAt A s vv uu b) → A.units + (m + 1) < cLine →
    ∀ (xs ys : List D) (b : Bool) (vs us : List V) (its its2 : List Value), eqW (eqD h m) xs ys = some b → RepL X.K ρ H xs vs → RepL X.K ρ H ys us → Vals vs its → Vals us its2 →
      (∀ j (h1 : j < its.toArray.size) (h2 : j < its2.toArray.size), EqAt A.in1 s its.toArray[j] its2.toArray[j] (pairB (eqD h m) xs ys j)) := by
  intro m A ih hu xs ys b vs us its its2 e hx hy rv ru j h1 h2
  obtain ⟨k1, _⟩ := eqW_at e
  have l1 := rv.length
  have l2 := ru.length
  have l3 := hx.length
  have l4 := hy.length
  rw [List.size_toArray] at h1 h2
  have q1 : xs[j]? = some (xs[j]'(by omega)) := by simp
  have q2 : ys[j]? = some (ys[j]'(by omega)) := by simp
  obtain ⟨w1, p1, p2⟩ := hx.get q1
  obtain ⟨w2, p3, p4⟩ := hy.get q2
  obtain ⟨u1, p5, p6⟩ := rv.get p1
  obtain ⟨u2, p7, p8⟩ := ru.get p3
  have f1 : its.toArray[j]'(by simpa using h1) = u1 := by
    have : its[j]? = some (its[j]'h1) := by simp
    rw [this] at p5
    simpa using p5
  have f2 : its2.toArray[j]'(by simpa using h2) = u2 := by
    have : its2[j]? = some (its2[j]'h2) := by simp
    rw [this] at p7
    simpa using p7
  rw [f1, f2]
  exact eqOf I r m ih _ _ _ w1 w2 u1 u2 A.in1 (k1 j _ _ q1 q2) p2 p4 p6 p8 (by show A.units + 1 + m < cLine; omega)
theorem eqAtD (I:Inv X pins σ H s) (r:RepH X.K ρ h H):∀ (n:Nat) (x y:D) (b:Bool) (v u:V) (vv uu:Value) (A:Around),eqD h n x y=some b→RepV X.K ρ H x v→RepV X.K ρ H y u→RelV v vv→RelV u uu→A.units+n < cLine→RcAt A s vv uu b:=by
 intro n
 have tups:∀ {l b:Addr} {vs us:List V},SqT X.K H l vs→SqT X.K H b us→∃ its its2:List Value,Vals vs its∧Vals us its2∧s.heap.IsTuple l its.toArray∧s.heap.IsTuple b its2.toArray:=fun h1 h2=>by
  obtain ⟨its,k1,k2,_⟩:=I.tuple h1
  obtain ⟨its2,k3,k4,_⟩:=I.tuple h2
  exact ⟨its,its2,k1,k3,k2,k4⟩
 have strEq:∀ {A:Around} (x y:Tx) (t t':Tok),RcAt A s (.str ⟨x.toArray⟩ t) (.str ⟨y.toArray⟩ t') (x == y):=fun x y t t'=>by
  have e:(x == y)=((⟨x.toArray⟩:Str) == (⟨y.toArray⟩:Str)):=by
   rw [Bool.eq_iff_iff]
   simp
  rw [e]
  exact RcAt.str_str _ _ _ _
 induction n with
 | zero =>
  intro x y b v u vv uu A e hx hy rv ru hu
  have hu0:A.units < cLine:=by omega
  cases x with
  | non =>
   cases y with
   | non=>cases hx; cases rv; cases hy; cases ru; cases e; exact RcAt.none_none
   | _=>cases e
  | bl x =>
   cases y with
   | bl y=>cases hx; cases rv; cases hy; cases ru; cases e; exact RcAt.bool_bool _ _
   | int y=>cases hx; cases rv; cases hy; obtain ⟨t',rfl⟩:=ru; cases e; exact RcAt.bool_int _ _ _
   | _=>cases e
  | int x =>
   cases y with
   | bl y=>cases hx; obtain ⟨t,rfl⟩:=rv; cases hy; cases ru; cases e; exact RcAt.int_bool _ _ _
   | int y=>cases hx; obtain ⟨t,rfl⟩:=rv; cases hy; obtain ⟨t',rfl⟩:=ru; cases e; exact RcAt.int_int _ _ _ _
   | _=>cases e
  | str x =>
   cases y with
   | str y=>cases hx; obtain ⟨t,rfl⟩:=rv; cases hy; obtain ⟨t',rfl⟩:=ru; cases e; exact strEq _ _ _ _
   | _=>cases e
  | tup x =>
   cases y with
   | _=>cases e
  | ref x =>
   cases y with
   | _=>cases e
 | succ n ih =>
  intro x y b v u vv uu A e hx hy rv ru hu
  have hu0:A.units < cLine:=by omega
  have tt:∀ {a a2:Addr} {vs us:List V} {xs ys:List D},SqT X.K H a vs→SqT X.K H a2 us→RepL X.K ρ H xs vs→RepL X.K ρ H ys us→eqW (eqD h n) xs ys=some b→RcAt A s (.ref a) (.ref a2) b:=fun k1 m1 k2 m2 e=>by
   obtain ⟨its,its2,q1,q2,q3,q4⟩:=tups k1 m1
   have:=RcAt.tuples (e:=pairB (eqD h n) _ _) q3 q4 hu0 (seqs I r n A ih (by omega) _ _ b _ _ its its2 e k2 m2 q1 q2)
   obtain ⟨_,eb⟩:=eqW_at e
   rw [eb]
   have l1:=q1.length
   have l2:=q2.length
   have l3:=k2.length
   have l4:=m2.length
   rw [List.size_toArray,List.size_toArray,← l1,← l2,l3,l4] at this
   exact this
  have ll:∀ {i j:Nat} {a a2:Addr},ρ[i]?=some a→ρ[j]?=some a2→(match getL h i,getL h j with | some xs,some ys=>eqW (eqD h n) xs ys | _,_=>none)=some b→RcAt A s (.ref a) (.ref a2) b:=fun {i j a a2} k1 m1 e=>by
   cases q:getL h i with
   | none=>rw [q] at e; cases e
   | some xs =>
    cases q2:getL h j with
    | none=>rw [q,q2] at e; cases e
    | some ys =>
     rw [q,q2] at e
     obtain ⟨a1,vs,p1,p2,p3⟩:=r.list q
     obtain ⟨a2',us,o1,o2,o3⟩:=r.list q2
     rw [k1] at p1
     rw [m1] at o1
     cases p1
     cases o1
     obtain ⟨its,r1,pl1,_⟩:=I.list p2
     obtain ⟨its2,r2,pl2,_⟩:=I.list o2
     have l1:=r1.length
     have l2:=r2.length
     have l3:=p3.length
     have l4:=o3.length
     obtain ⟨_,eb⟩:=eqW_at e
     rw [eb]
     by_cases hsz:xs.length=ys.length
     ·have:=RcAt.lists (e:=pairB (eqD h n) xs ys) pl1.isList pl2.isList (by rw [List.size_toArray,List.size_toArray]; omega) hu0 (seqs I r n A ih (by omega) _ _ b _ _ its its2 e p3 o3 r1 r2)
      rw [List.size_toArray,← l1,l3] at this
      rw [← hsz,Nat.min_self,beq_self_eq_true,Bool.and_true]
      exact this
     ·have e2:(xs.length == ys.length)=false:=by simpa using hsz
      rw [e2,Bool.and_false]
      exact RcAt.lists_lengths pl1.isList pl2.isList (by rw [List.size_toArray,List.size_toArray,← l1,← l2,l3,l4]; simpa using hsz) hu0
  cases x with
  | non =>
   cases y with
   | non=>cases hx; cases rv; cases hy; cases ru; cases e; exact RcAt.none_none
   | _=>cases e
  | bl x =>
   cases y with
   | bl y=>cases hx; cases rv; cases hy; cases ru; cases e; exact RcAt.bool_bool _ _
   | int y=>cases hx; cases rv; cases hy; obtain ⟨t',rfl⟩:=ru; cases e; exact RcAt.bool_int _ _ _
   | _=>cases e
  | int x =>
   cases y with
   | bl y=>cases hx; obtain ⟨t,rfl⟩:=rv; cases hy; cases ru; cases e; exact RcAt.int_bool _ _ _
   | int y=>cases hx; obtain ⟨t,rfl⟩:=rv; cases hy; obtain ⟨t',rfl⟩:=ru; cases e; exact RcAt.int_int _ _ _ _
   | _=>cases e
  | str x =>
   cases y with
   | str y=>cases hx; obtain ⟨t,rfl⟩:=rv; cases hy; obtain ⟨t',rfl⟩:=ru; cases e; exact strEq _ _ _ _
   | _=>cases e
  | tup x =>
   cases y with
   | tup y=>obtain ⟨a,vs,rfl,k1,k2⟩:=hx; cases rv; obtain ⟨a2,us,rfl,m1,m2⟩:=hy; cases ru; exact tt k1 m1 k2 m2 e
   | _=>cases e
  | ref x =>
   cases y with
   | ref y=>obtain ⟨a,k1,rfl⟩:=hx; cases rv; obtain ⟨a2,m1,rfl⟩:=hy; cases ru; exact ll k1 m1 e
   | _=>cases e
theorem neAtD (I:Inv X pins σ H s) (r:RepH X.K ρ h H):∀ (n:Nat) (x y:D) (b:Bool) (v u:V) (vv uu:Value) (A:Around),eqD h (n+1) x y=some b→RepV X.K ρ H x v→RepV X.K ρ H y u→RelV v vv→RelV u uu→A.units+(n+1) < cLine→RcNeAt A s vv uu (!b):=by
 intro n
 have tups:∀ {l b:Addr} {vs us:List V},SqT X.K H l vs→SqT X.K H b us→∃ its its2:List Value,Vals vs its∧Vals us its2∧s.heap.IsTuple l its.toArray∧s.heap.IsTuple b its2.toArray:=fun h1 h2=>by
  obtain ⟨its,k1,k2,_⟩:=I.tuple h1
  obtain ⟨its2,k3,k4,_⟩:=I.tuple h2
  exact ⟨its,its2,k1,k3,k2,k4⟩
 have strEq:∀ {A:Around} (x y:Tx) (t t':Tok),RcNeAt A s (.str ⟨x.toArray⟩ t) (.str ⟨y.toArray⟩ t') (!(x == y)):=fun x y t t'=>by
  have e:(x == y)=((⟨x.toArray⟩:Str) == (⟨y.toArray⟩:Str)):=by
   rw [Bool.eq_iff_iff]
   simp
  rw [e]
  exact RcNeAt.str_str _ _ _ _
 intro x y b v u vv uu A e hx hy rv ru hu
 have hu0:A.units < cLine:=by omega
 have tt:∀ {a a2:Addr} {vs us:List V} {xs ys:List D},SqT X.K H a vs→SqT X.K H a2 us→RepL X.K ρ H xs vs→RepL X.K ρ H ys us→eqW (eqD h n) xs ys=some b→RcNeAt A s (.ref a) (.ref a2) (!b):=fun k1 m1 k2 m2 e=>by
  obtain ⟨its,its2,q1,q2,q3,q4⟩:=tups k1 m1
  have:=RcNeAt.tuples (e:=pairB (eqD h n) _ _) q3 q4 hu0 (seqs I r n A (eqAtD I r n) (by omega) _ _ b _ _ its its2 e k2 m2 q1 q2)
  obtain ⟨_,eb⟩:=eqW_at e
  rw [eb]
  have l1:=q1.length
  have l2:=q2.length
  have l3:=k2.length
  have l4:=m2.length
  rw [List.size_toArray,List.size_toArray,← l1,← l2,l3,l4] at this
  exact this
 have ll:∀ {i j:Nat} {a a2:Addr},ρ[i]?=some a→ρ[j]?=some a2→(match getL h i,getL h j with | some xs,some ys=>eqW (eqD h n) xs ys | _,_=>none)=some b→RcNeAt A s (.ref a) (.ref a2) (!b):=fun {i j a a2} k1 m1 e=>by
  cases q:getL h i with
  | none=>rw [q] at e; cases e
  | some xs =>
   cases q2:getL h j with
   | none=>rw [q,q2] at e; cases e
   | some ys =>
    rw [q,q2] at e
    obtain ⟨a1,vs,p1,p2,p3⟩:=r.list q
    obtain ⟨a2',us,o1,o2,o3⟩:=r.list q2
    rw [k1] at p1
    rw [m1] at o1
    cases p1
    cases o1
    obtain ⟨its,r1,pl1,_⟩:=I.list p2
    obtain ⟨its2,r2,pl2,_⟩:=I.list o2
    have l1:=r1.length
    have l2:=r2.length
    have l3:=p3.length
    have l4:=o3.length
    obtain ⟨_,eb⟩:=eqW_at e
    rw [eb]
    by_cases hsz:xs.length=ys.length
    ·have:=RcNeAt.lists (e:=pairB (eqD h n) xs ys) pl1.isList pl2.isList (by rw [List.size_toArray,List.size_toArray]; omega) hu0 (seqs I r n A (eqAtD I r n) (by omega) _ _ b _ _ its its2 e p3 o3 r1 r2)
     rw [List.size_toArray,← l1,l3] at this
     rw [← hsz,Nat.min_self,beq_self_eq_true,Bool.and_true]
     exact this
    ·have e2:(xs.length == ys.length)=false:=by simpa using hsz
     rw [e2,Bool.and_false]
     exact RcNeAt.lists_lengths pl1.isList pl2.isList (by rw [List.size_toArray,List.size_toArray,← l1,← l2,l3,l4]; simpa using hsz) hu0
 cases x with
 | non =>
  cases y with
  | non=>cases hx; cases rv; cases hy; cases ru; cases e; exact RcNeAt.none_none
  | _=>cases e
 | bl x =>
  cases y with
  | bl y=>cases hx; cases rv; cases hy; cases ru; cases e; exact RcNeAt.bool_bool _ _
  | int y=>cases hx; cases rv; cases hy; obtain ⟨t',rfl⟩:=ru; cases e; exact RcNeAt.bool_int _ _ _
  | _=>cases e
 | int x =>
  cases y with
  | bl y=>cases hx; obtain ⟨t,rfl⟩:=rv; cases hy; cases ru; cases e; exact RcNeAt.int_bool _ _ _
  | int y=>cases hx; obtain ⟨t,rfl⟩:=rv; cases hy; obtain ⟨t',rfl⟩:=ru; cases e; exact RcNeAt.int_int _ _ _ _
  | _=>cases e
 | str x =>
  cases y with
  | str y=>cases hx; obtain ⟨t,rfl⟩:=rv; cases hy; obtain ⟨t',rfl⟩:=ru; cases e; exact strEq _ _ _ _
  | _=>cases e
 | tup x =>
  cases y with
  | tup y=>obtain ⟨a,vs,rfl,k1,k2⟩:=hx; cases rv; obtain ⟨a2,us,rfl,m1,m2⟩:=hy; cases ru; exact tt k1 m1 k2 m2 e
  | _=>cases e
 | ref x =>
  cases y with
  | ref y=>obtain ⟨a,k1,rfl⟩:=hx; cases rv; obtain ⟨a2,m1,rfl⟩:=hy; cases ru; exact ll k1 m1 e
  | _=>cases e
end
section
variable {X:Cx}
theorem op_eqD (hu:X.A.units+64 < cLine):OpR X (compareOp .Eq) (rB X.K .eq):=by
 rintro pins s σ H x y v u Q I rx ry ⟨w,ρ,h,d,e,r,hd,he,p⟩
 have p:PostV X.K w Q ρ H (match eqD h 40 d e with | some b=>.ok (.bl b) h | none=>.bad):=p
 cases q:eqD h 40 d e with
 | none=>rw [q] at p; exact False.elim p
 | some b =>
  rw [q] at p
  exact eqAtD I r 40 d e b x y v u X.A q hd he rx ry (by omega) X.prog X.w X.xe _ ⟨.bl b,H,I,rfl,PostV.now p r rfl⟩
theorem op_neD (hu:X.A.units+64 < cLine):OpR X (compareOp .NotEq) (rB X.K .ne):=by
 rintro pins s σ H x y v u Q I rx ry ⟨w,ρ,h,d,e,r,hd,he,p⟩
 have p:PostV X.K w Q ρ H (match eqD h 40 d e with | some b=>.ok (.bl (!b)) h | none=>.bad):=p
 cases q:eqD h 40 d e with
 | none=>rw [q] at p; exact False.elim p
 | some b =>
  rw [q] at p
  exact neAtD I r 39 d e b x y v u X.A q hd he rx ry (by omega) X.prog X.w X.xe _ ⟨.bl (!b),H,I,rfl,PostV.now p r rfl⟩
end
end Fy
set_option Elab.async false
set_option linter.all false
set_option maxRecDepth 100000
set_option maxHeartbeats 4000000
namespace Fy
open PySem PySem.Spec PyProof.Rows PySem.StrLaws Builtin.Str
open L2 (V Hp HO VK TE TT TA TS TI Cx Inv RelV Vals SqL SqT Rd upd upd_same upd_ne PE PT PA PS PSs EP OpR CallR IxR MtR SlR PO TO PI PG PIE Turn FpOk Ends)
theorem cutN_eq (n d:Nat) (o:Option Int):cutN n d o=HT.sIx n d o:=by cases o <;> rfl
theorem cutX_eq (xs:List V) (lo hi:Option Int):L2.cutV xs lo hi=cutX xs lo hi:=by
 unfold L2.cutV cutX
 rw [cutN_eq,cutN_eq]
theorem cutN_le (n d:Nat) (hd:d≤n) (o:Option Int):cutN n d o≤n:=by rw [cutN_eq]; exact HT.sIx_le n d hd o
theorem RepL.cut {K:PySem.W.Frag} {ρ:List Addr} {H:Hp} {xs:List D} {vs:List V} (l:RepL K ρ H xs vs) (lo hi:Option Int):RepL K ρ H (cutX xs lo hi) (cutX vs lo hi):=by
 unfold cutX
 rw [l.length]
 exact (l.drop _).take _
theorem ix_cut (lo hi:Option Int) (n:Nat):strSliceIndices lo hi 1 n=(List.range (cutN n n hi - cutN n 0 lo)).map fun k=>cutN n 0 lo+k:=by
 have c1:(match lo with | none=>(0:Int) | some i=>max 0 (min (if i < 0 then i+(n:Int) else i) (n:Int)))=(cutN n 0 lo:Int):=by
  cases lo with
  | none=>rfl
  | some v=>unfold cutN; simp only; split <;> omega
 have c2:(match hi with | none=>(n:Int) | some i=>max 0 (min (if i < 0 then i+(n:Int) else i) (n:Int)))=(cutN n n hi:Int):=by
  cases hi with
  | none=>rfl
  | some v=>unfold cutN; simp only; split <;> omega
 have e:strSliceIndices lo hi 1 n=sliceRange (cutN n 0 lo:Int) (cutN n n hi:Int) 1:=by
  rw [← c1,← c2]
  unfold strSliceIndices
  cases lo <;> cases hi <;> simp
 rw [e]
 unfold sliceRange
 simp only [show (1:Int) > 0 from by decide,if_true]
 by_cases hlt:(cutN n 0 lo:Int) < (cutN n n hi:Int)
 ·rw [if_pos hlt]
  have e3:(((cutN n n hi:Int) - (cutN n 0 lo:Int)+1 - 1) / 1).toNat=cutN n n hi - cutN n 0 lo:=by
   rw [Int.ediv_one]
   omega
  rw [e3]
  refine List.map_congr_left fun k _=>?_
  omega
 ·rw [if_neg hlt]
  have:cutN n n hi - cutN n 0 lo=0:=by omega
  rw [this]
  rfl
theorem slice_cut (x:Tx) (lo hi:Option Int):Txt.slice ⟨x.toArray⟩ lo hi=⟨(cutX x lo hi).toArray⟩:=by
 have hl:(⟨x.toArray⟩:Str).length=x.length:=str_len x
 have a1:=cutN_le x.length 0 (Nat.zero_le _) lo
 have a2:=cutN_le x.length x.length (Nat.le_refl _) hi
 have pk:((strSliceIndices lo hi 1 (⟨x.toArray⟩:Str).length).filterMap ((⟨x.toArray⟩:Str).cps[·]?))=cutX x lo hi:=by
  rw [hl,ix_cut]
  unfold cutX
  by_cases hc:cutN x.length 0 lo≤cutN x.length x.length hi
  ·have:=picks x (cutN x.length x.length hi - cutN x.length 0 lo) (cutN x.length 0 lo) (by omega)
   simpa using this
  ·have:cutN x.length x.length hi - cutN x.length 0 lo=0:=by omega
   rw [this]
   simp
 unfold Txt.slice
 split
 ·rename_i hc
  have hc':(strSliceIndices lo hi 1 (⟨x.toArray⟩:Str).length).length=x.length:=by simpa [hl] using hc
  rw [hl,ix_cut,List.length_map,List.length_range] at hc'
  have e:cutX x lo hi=x:=by
   unfold cutX
   have z:cutN x.length 0 lo=0:=by omega
   rw [z,List.drop_zero]
   exact List.take_of_length_le (by omega)
  rw [e]
 ·rw [pk]
section
open HT
variable {prog:Program} {w:World} {A:Around} {E:Value→Shared→Prop} {s:Shared}
theorem tuple_whole {t sl : Addr} {items : Array Value} {vl vu : Value} {lo hi : Option Int} {Q : Value → Shared → Prop} (ht : IsTup s.heap t items) (hs : s.heap.IsSliceOf sl vl vu .none) (pl : IsPart vl lo) (pu : IsPart vu hi)
    (hw : sIx items.size 0 lo = 0 ∧ sIx items.size items.size hi = items.size) (h : Q (.ref t) s) : wpAny (model prog w) A (getItem (.ref t) (.ref sl)) Q E s := by
  obtain ⟨os, hos, hcs, hds⟩ := id hs
  have hTs : s.TypeIs (.ref sl) "slice" := ⟨os, hos, hcs⟩
  unfold getItem
  try with_reducible refine wpAny_holding ?_
  first | refine wpAny_bind (wpAny_pure ?_) | skip
  refine wpAny_bind (wpAny_sequenceKey ht.typeIs (by decide) ?_)
  refine wpAny_bind (wpAny_callSpecial?_slot (name := Str.ofString "__getitem__") ht.typeIs PyProof.Rows.slot_tuple_getitem
    (wpAny_call_entry PyProof.Rows.slot_tuple_getitem ht.typeIs entry_tuple_getitem ?_ (args_tuple_getitem _ _)))
  show wpAny _ _ (Builtin.Tuple.tupleItemsOf (.ref t) >>= _) _ _ s
  refine wpAny_bind (tupleItemsOf_ ht ?_)
  refine wpAny_bind (wpAny_typeOf hTs ?_)
  rw [if_pos (by decide)]
  refine wpAny_bind (sliceApplied_gen hs pl pu ?_)
  have hno : ((((sIx items.size 0 lo : Nat) : Int) == 0 && (1 : Int) == 1 && (sIx items.size items.size hi - sIx items.size 0 lo) == items.size) = true) := by
    rw [hw.1, hw.2]
    simp
  show wpAny _ _ (if (((sIx items.size 0 lo : Nat) : Int) == 0 && (1 : Int) == 1 && (sIx items.size items.size hi - sIx items.size 0 lo) == items.size) = true then _ else _) _ _ s
  rw [if_pos hno]
  refine wpAny_bind ?_
  unfold Builtin.Tuple.tupleIsExact
  refine wpAny_bind (wpAny_typeOf ht.typeIs (wpAny_pure ?_))
  rw [if_pos (by decide)]
  exact wpAny_bind (wpAny_rule (wpAny_pure ⟨_, rfl, wpAny_pure h⟩))
end
section
variable {X:Cx} {F:Nat→List D→M D} {W:WX}
theorem part_of {v:Value} {o:Option Int} (p:IsPart v o):∃ q:Option (Int × Tok),v=partValue q∧q.map (·.1)=o:=by
 cases p with
 | none=>exact ⟨none,rfl,rfl⟩
 | int i t=>exact ⟨some (i,t),rfl,rfl⟩
noncomputable def rSl (K:PySem.W.Frag):V→Option Int→Option Int→Hp→VK→Prop:=fun x lo hi H Q=>∃ (w:W1),∃ ρ h d,RepH K ρ h H∧RepV K ρ H d x∧PostV K w Q ρ H (slD d lo hi h)
theorem sl_D:SlR X (rSl X.K):=by
 rintro pins s σ H x v vl vu lo hi sl Q I rx hs pl pu ⟨w,ρ,h,d,r,hd,p⟩
 unfold slD at p
 cases d with
 | str x =>
  cases hd
  obtain ⟨t,rfl⟩:=rx
  obtain ⟨hz,p⟩:=PostV.ite (c:=x.length≤16777216) p
  obtain ⟨ql,rfl,rfl⟩:=part_of pl
  obtain ⟨qu,rfl,rfl⟩:=part_of pu
  refine ⟨"str",_,F.slot_str_getitem.lookup,typeIs_str _ _ _,wpAny_getItem_str_slice (l:=ql) (u:=qu) (st:=none) hs rfl ?_⟩
  refine post_val_or_str ?_
  show (Txt.slice ⟨x.toArray⟩ (ql.map (·.1)) (qu.map (·.1))).length≤sizeLine∧∀ t' k,EP X pins σ Q (.str (Txt.slice ⟨x.toArray⟩ (ql.map (·.1)) (qu.map (·.1))) t') { s with toks:=k }
  refine ⟨Nat.le_trans (Txt.slice_le _ _ _) (by rw [str_len,szEq]; exact hz),fun t' k=>?_⟩
  rw [slice_cut]
  exact ⟨.str ⟨(cutX x (ql.map fun z:Int × Tok=>z.1) (qu.map fun z:Int × Tok=>z.1)).toArray⟩,H,I.tok k,⟨t',rfl⟩,PostV.now p r rfl⟩
 | tup xs =>
  obtain ⟨a,vs,rfl,h1,h2⟩:=hd
  by_cases hw:HT.sIx vs.length 0 lo=0∧HT.sIx vs.length vs.length hi=vs.length
  ·cases rx
   obtain ⟨its,rv,ht,hz⟩:=I.tuple h1
   refine ⟨"tuple",_,PyProof.Rows.slot_tuple_getitem.lookup,ht.typeIs,tuple_whole ht hs pl pu (by rw [List.size_toArray,← rv.length]; exact hw) ?_⟩
   refine ⟨.ref a,H,I,rfl,PostV.now p r ⟨a,vs,rfl,h1,?_⟩⟩
   have e:cutX xs lo hi=xs:=by
    unfold cutX
    rw [cutN_eq,cutN_eq,← h2.length,hw.1,hw.2,List.drop_zero,Nat.sub_zero,h2.length]
    exact List.take_length
   rw [e]
   exact h2
  ·exact L2.sl_tup pins s σ H _ v vl vu lo hi sl Q I rx hs pl pu ⟨a,vs,rfl,h1,hw,by rw [cutX_eq]; exact PostV.newT p r (h2.cut lo hi)⟩
 | ref i =>
  simp only at p
  cases q:getL h i with
  | none=>rw [q] at p; exact False.elim p
  | some xs =>
   rw [q] at p
   obtain ⟨a,vs,rfl,h1,h2⟩:=r.seen q hd
   exact L2.sl_list pins s σ H _ v vl vu lo hi sl Q I rx hs pl pu ⟨a,vs,rfl,h1,by rw [cutX_eq]; exact (PostV.newL p r (h2.cut lo hi)).2⟩
 | _=>exact (show False from p).elim
noncomputable def tDP (K:PySem.W.Frag) (W:WX) (m:Env→M (Option Int)):TO:=fun σ H Q=>∃ ρ env h,RepS K ρ H env σ∧RepH K ρ h H∧Post K (W.at σ) (fun _ H' o=>Q o H') ρ H (m env h)
theorem PO.imp {o:Option Expr} {t t':TO} (h:PO X o t) (i:∀ σ H Q,t' σ H Q→t σ H Q):PO X o t':=fun pins s σ H Q I q=>h pins s σ H Q I (i σ H Q q)
theorem dp_no:PO X none (tDP X.K W (denP F .no)):=PO.imp L2.po_none fun σ H Q t=>by
 obtain ⟨ρ,env,h,s,r,p⟩:=t
 rw [denP] at p
 exact Post.ret p r
theorem dp_at {e:Expr} {c:CE} (he:PE X e (tD X.K W (den F c))):PO X (some e) (tDP X.K W (denP F (.at c))):=PO.imp (L2.po_some he) fun σ H Q t=>by
 obtain ⟨ρ,env,h,s,r,p⟩:=t
 rw [denP] at p
 refine ⟨ρ,env,h,s,r,Post.bind p fun ρ1 h1 d H1 e1 r1 q v hv=>?_⟩
 cases d with
 | int i=>cases hv; exact ⟨i,rfl,Post.ret (a:=some i) q r1⟩
 | _=>exact False.elim q
theorem d_sl {a : Expr} {lo hi : Option Expr} {ca : CE} {cl ch : CP} {p2 pos : Pos} (ha : PE X a (tD X.K W (den F ca))) (hl : PO X lo (tDP X.K W (denP F cl))) (hh : PO X hi (tDP X.K W (denP F ch))) :
    PE X (.Subscript a (.Slice lo hi none p2) pos) (tD X.K W (den F (.sl ca cl ch))) := PE.imp (L2.pe_slice sl_D ha hl hh) fun σ H Q t => by
  obtain ⟨ρ, env, h, s, r, p⟩ := t
  rw [den] at p
  exact ⟨ρ, env, h, s, r, Post.bind p fun ρ1 h1 d H1 e1 r1 q v hv => ⟨ρ1, env, h1, s.mono e1, r1, Post.bind q fun ρ2 h2 l H2 e2 r2 q2 => ⟨ρ2, env, h2, (s.mono e1).mono e2, r2, Post.bind q2 fun ρ3 h3 u H3 e3 r3 q3 => ⟨_, ρ3, h3, d, r3, (hv.mono e2 _ _).mono e3 _ _, q3⟩⟩⟩⟩
end
end Fy
set_option Elab.async false
set_option linter.all false
set_option maxRecDepth 100000
set_option maxHeartbeats 4000000
namespace Fy
open PySem PySem.Spec PyProof.Rows
open L2 (V Hp HO VK TE TT TA TS TI Cx Inv RelV Vals SqL SqT Rd upd upd_same upd_ne PE PT PA PS PSs EP OpR CallR IxR MtR SlR PO TO PI PG PIE Turn FpOk Ends)
noncomputable def tyS:Ty→String
 | .int=>"int" | .str=>"str" | .bool=>"bool" | .list=>"list" | .tuple=>"tuple"
section
variable (K:PySem.W.Frag)
theorem kt_non (t:Ty):PySem.W.kitOne K (.type "NoneType") (.type (tyS t))=some false:=by cases t <;> first | rfl | kernel_rfl
theorem kt_bl (t:Ty):PySem.W.kitOne K (.type "bool") (.type (tyS t))=some (t == .bool || t == .int):=by cases t <;> first | rfl | kernel_rfl
theorem kt_int (t:Ty):PySem.W.kitOne K (.type "int") (.type (tyS t))=some (t == .int):=by cases t <;> first | rfl | kernel_rfl
theorem kt_str (t:Ty):PySem.W.kitOne K (.type "str") (.type (tyS t))=some (t == .str):=by cases t <;> first | rfl | kernel_rfl
theorem kt_tup (t:Ty):PySem.W.kitOne K (.type "tuple") (.type (tyS t))=some (t == .tuple):=by cases t <;> first | rfl | kernel_rfl
theorem kt_lst (t:Ty):PySem.W.kitOne K (.type "list") (.type (tyS t))=some (t == .list):=by cases t <;> first | rfl | kernel_rfl
end
section
variable {X:Cx} {F:Nat→List D→M D} {W:WX}
theorem isi_ok {pins : List (Addr × Obj)} {σ : L2.St} {H : Hp} {s : Shared} {ρ : List Addr} {h : AH} {t : Ty} {d : D} {x : V} {u : Value} {b : Bool} {A : Around} {E : Value → Shared → Prop} {Q : Value → Shared → Prop}
    (I : Inv X pins σ H s) (r : RepH X.K ρ h H) (hd : RepV X.K ρ H d x) (rx : RelV x u) (e : isiD h t d = some b) (q : ∀ tk, Q (.bool b) { s with toks := tk }) :
    wpAny (model X.prog X.w) A (call (.builtin "isinstance") [u, .type (tyS t)]) Q E s := by
  cases d with
  | non => cases hd; cases e; cases (show u = Value.none from rx); exact PySem.W.kia_one PySem.W.kitx_none I.kIn True.intro (kt_non _ t) (fun z => nomatch z) q
  | bl c => cases hd; cases e; cases (show u = Value.bool c from rx); exact PySem.W.kia_one PySem.W.kitx_bool I.kIn True.intro (kt_bl _ t) (fun z => nomatch z) q
  | int i => cases hd; cases e; obtain ⟨tk, z⟩ := rx; cases z; exact PySem.W.kia_one PySem.W.kitx_int I.kIn True.intro (kt_int _ t) (fun z => nomatch z) q
  | str y => cases hd; cases e; obtain ⟨tk, z⟩ := rx; cases z; exact PySem.W.kia_one PySem.W.kitx_str I.kIn True.intro (kt_str _ t) (fun z => nomatch z) q
  | tup ys =>
    obtain ⟨a, vs, rfl, h1, h2⟩ := hd
    cases e
    cases rx
    obtain ⟨its, _, ⟨o, k1, k2, _⟩, _⟩ := I.tuple h1
    exact PySem.W.kia_one PySem.W.kitx_tuple I.kIn ⟨o, k1, k2⟩ (kt_tup _ t) (fun z => nomatch z) q
  | ref i =>
    have e : (getL h i).map (fun _ => t == .list) = some b := e
    cases z : getL h i with
    | none => rw [z] at e; cases e
    | some ys =>
      rw [z] at e
      cases e
      obtain ⟨a, vs, rfl, h1, h2⟩ := r.seen z hd
      cases rx
      obtain ⟨its, _, pl, _⟩ := I.list h1
      obtain ⟨o, n, k1, k2, _⟩ := pl
      exact PySem.W.kia_one PySem.W.kitx_list I.kIn ⟨o, k1, k2⟩ (kt_lst _ t) (fun z => nomatch z) q
noncomputable def rIsi (K:PySem.W.Frag) (t:Ty):List V→Hp→VK→Prop:=fun xs H Q=>∃ x,xs=[x,.ty (tyS t)]∧rU K (.isi t) x H Q
theorem call_isiD (t:Ty):CallR X (.builtin "isinstance") (rIsi X.K t):=by
 rintro pins s σ H xs us Q I rv ⟨x,rfl,w,ρ,h,d,r,hd,p⟩
 obtain ⟨u,w,rfl,ru,rw'⟩:=L2.Vals.two rv
 cases rw'
 have p:PostV X.K w Q ρ H (match isiD h t d with | some b=>.ok (.bl b) h | none=>.bad):=p
 cases e:isiD h t d with
 | none=>rw [e] at p; exact False.elim p
 | some b =>
  rw [e] at p
  exact isi_ok I r hd ru e fun tk=>⟨.bl b,H,I.tok tk,rfl,PostV.now p r rfl⟩
theorem d_isi {a : Expr} {ca : CE} {t : Ty} {x y : Str} {p1 p2 pos : Pos} (hx : x = "isinstance") (hg : L2.Gl X x) (hm : X.mg x = none) (hgT : L2.Gl X y) (hmT : X.mg y = none) (hv : bootBuiltins y = some (.type (tyS t))) (hn : y ≠ "__name__") (hdb : (y == ("__debug__" : Str)) = false)
    (ha : PE X a (tD X.K W (den F ca))) (hst : starEach [a, .Name y p2] X.env = [(false, eval a X.env), (false, eval (.Name y p2) X.env)]) : PE X (.Call (.Name x p1) [a, .Name y p2] [] pos) (tD X.K W (den F (.un (.isi t) ca))) := by
  subst hx
  refine PE.imp (L2.pe_callB (call_isiD t) hg hm boot_isinstance (L2.pa_cons ha (L2.pa_cons (L2.pe_bltn (v := .ty (tyS t)) hgT hmT hv rfl hn hdb) L2.pa_nil (by rfl)) (by rw [hst]; rfl)) (he := by rw [hst]; rfl)) fun σ H Q q => ?_
  obtain ⟨ρ, env, h, s, r', p⟩ := one q
  exact ⟨ρ, env, h, s, r', Post.imp p fun ρ' H' d q v hv => ⟨v, rfl, q v hv⟩⟩
theorem d_me {o : Bi} {ca cb : CE} {e : Expr} {T : String} {r : V → List V → Hp → VK → Prop} (he : PE X e (L2.tBM X.K T r (tD X.K W (den F ca)) (L2.tCons (tD X.K W (den F cb)) L2.tNil)))
    (hty : ∀ ρ h d v H, RepH X.K ρ h H → RepV X.K ρ H d v → ∀ h', meOk o d h = .ok () h' → h' = h ∧ L2.tyV X.K T v H) (hexc : ∀ d h c h', meOk o d h ≠ .exc c h') (hr : ∀ x y H Q, rB X.K o x y H Q → r x [y] H Q) : PE X e (tD X.K W (den F (.me o ca cb))) := PE.imp he fun σ H Q t => by
  obtain ⟨ρ, env, h, s, r', p⟩ := t
  rw [den] at p
  refine ⟨ρ, env, h, s, r', Post.bind p fun ρ1 h1 d H1 e1 r1 q v hv => ?_⟩
  unfold M.bind at q
  cases z : meOk o d h1 with
  | ok u h2 =>
    rw [z] at q
    obtain ⟨rfl, ty⟩ := hty ρ1 h1 d v H1 r1 hv _ z
    refine ⟨ty, ρ1, env, _, s.mono e1, r1, ?_⟩
    exact Post.bind q fun ρ2 h2 d2 H2 e2 r2 q2 w hw => hr v w H2 Q ⟨_, ρ2, h2, d, d2, r2, hv.mono e2 _ _, hw, q2⟩
  | exc c h2 => exact absurd z (hexc _ _ _ _)
  | bad => rw [z] at q; exact False.elim q
theorem meOk_exc (o:Bi) (d:D) (h:AH) (c:Nat) (h':AH):meOk o d h ≠ .exc c h':=by
 unfold meOk
 intro z
 split at z
 all_goals first | cases z | (split at z <;> cases z)
theorem d_append {a b : Expr} {ca cb : CE} {x : Str} {apos cpos : Pos} (hx : x = "append") (ha : PE X a (tD X.K W (den F ca))) (hb : PE X b (tD X.K W (den F cb))) (hbase : attributeBase a x X.env (eval a X.env) = eval a X.env) (hline : (apos.endLine == cpos.line) = true)
    (hst : starEach [b] X.env = [(false, eval b X.env)]) : PE X (.Call (.Attribute a x apos) [b] [] cpos) (tD X.K W (den F (.me .append ca cb))) := by
  subst hx
  refine d_me (L2.pe_bm PySem.F.plainAttrs_list PySem.F.slot_list_append PySem.F.type_list_append L2.mt_append ha (L2.pa_cons hb L2.pa_nil (by rw [hst]; rfl)) hbase (by rw [hst]; rfl) hline (by rw [hst]; rfl)) (fun ρ h d v H r hv h' z => ?_) (meOk_exc _) (fun x y H Q z => ?_)
  · cases d with
    | ref i =>
      have z : (match getL h i with | some _ => R.ok () h | none => .bad) = .ok () h' := z
      cases e : getL h i with
      | none => rw [e] at z; cases z
      | some xs =>
        rw [e] at z
        cases z
        obtain ⟨a, vs, rfl, h1, _⟩ := r.seen e hv
        exact ⟨rfl, .inl ⟨rfl, vs, h1⟩⟩
    | _ => cases z
  · obtain ⟨w, ρ, h, d, e, r, hd, he, p⟩ := z
    cases d with
    | ref k =>
      have p : PostV X.K w Q ρ H (match h[k]? with | some (.lst xs) => if xs.length < 16777216 then .ok .non (h.set k (.lst (xs ++ [e]))) else .bad | _ => .bad) := p
      split at p
      · rename_i xs q
        obtain ⟨hz, p⟩ := PostV.ite p
        obtain ⟨a, vs, rfl, ha, hH, hl⟩ := r.own q hd
        refine ⟨a, vs, y, rfl, rfl, hH, by rw [hl.length, szEq]; exact hz, ?_⟩
        have hl' : RepL X.K ρ H (xs ++ [e]) (vs ++ [y]) := hl.append ⟨y, [], rfl, he, rfl⟩
        exact p ρ _ (Step.turn hH rfl (List.mem_of_getElem? ha)) (r.setList q ha hH hl') _ rfl
      · exact False.elim p
    | _ => exact (show False from p).elim
open PySem.StrLaws Builtin.Str in
theorem occ_first (x:Tx) (c:Nat):∀ (l:List Nat) (free:Nat),(∀ i ∈ l,free≤i)→(forIn l ((#[]:Array Nat),free) (occBody ⟨x.toArray⟩ ⟨#[c]⟩ x.length 1)).run.fst.toList=(l.find? fun i=>x[i]? == some c).toList
 | [],free,_=>rfl
 | a::l,free,hf=>by
  have full:∀ (l:List Nat) (st:Array Nat × Nat),st.fst.size=1→(forIn l st (occBody ⟨x.toArray⟩ ⟨#[c]⟩ x.length 1)).run.fst=st.fst:=by
   intro l
   induction l with
   | nil=>intro st _; rfl
   | cons b l ih =>
    intro st hs
    rw [List.forIn_cons]
    unfold occBody
    rw [if_neg (by intro h; have:=h.1.1.1; omega)]
    exact ih _ hs
  have sub1:=subAt_one ⟨x.toArray⟩ c a
  rw [str_len] at sub1
  rw [List.forIn_cons,List.find?_cons]
  unfold occBody
  have ha:free≤a:=hf a (List.mem_cons_self ..)
  by_cases hc:x[a]?=some c
  ·have hc':=sub1.mpr hc
   have c1:(((#[]:Array Nat),free).fst.size < 1∧((#[]:Array Nat),free).snd≤a)∧a+(⟨#[c]⟩:Str).length≤x.length:=⟨⟨by simp,ha⟩,hc'.1⟩
   rw [if_pos ⟨c1,hc'.2⟩]
   have fl:=full l (#[a],a+(⟨#[c]⟩:Str).length) rfl
   have e:(x[a]? == some c)=true:=by simp [hc]
   rw [e]
   exact congrArg Array.toList fl
  ·have c2:¬ (((((#[]:Array Nat),free).fst.size < 1∧((#[]:Array Nat),free).snd≤a)∧a+(⟨#[c]⟩:Str).length≤x.length)∧subAt ⟨x.toArray⟩ ⟨#[c]⟩ a=true):=fun h=>hc (sub1.mp ⟨h.1.2,h.2⟩)
   rw [if_neg c2]
   have e:(x[a]? == some c)=false:=by simp [hc]
   rw [e]
   exact occ_first x c l free fun i hi=>hf i (List.mem_cons_of_mem _ hi)
theorem find_range (x : Tx) (c : Nat) : ∀ (n : Nat) (k : Nat), n + k = x.length + 1 → ((List.range' k n).find? fun i => x[i]? == some c) = ((x.drop k).findIdx? (· == c)).map (· + k)
  | 0, k, h => by
    have : x.drop k = [] := List.drop_eq_nil_of_le (by omega)
    rw [this]
    rfl
  | n + 1, k, h => by
    rw [List.range'_succ, List.find?_cons]
    by_cases hk : k < x.length
    · rw [List.drop_eq_getElem_cons hk, List.findIdx?_cons, List.getElem?_eq_getElem hk]
      by_cases hc : x[k] = c
      · simp [hc]
      · have ih := find_range x c n (k + 1) (by omega)
        have e1 : (some x[k] == some c) = false := by simp [hc]
        have e2 : (x[k] == c) = false := by simp [hc]
        rw [e1, e2]
        simp only [Bool.false_eq_true, if_false]
        rw [ih, Option.map_map]
        congr 1
        funext j
        simp only [Function.comp]
        omega
    · have hn : n = 0 := by omega
      subst hn
      have : x.drop k = [] := List.drop_eq_nil_of_le (by omega)
      rw [this, List.getElem?_eq_none (by omega)]
      rfl
theorem occ_one (x : Tx) (c : Nat) : Builtin.Str.occurrences ⟨x.toArray⟩ ⟨#[c]⟩ 0 x.length 1 = (x.findIdx? (· == c)).toList := by
  rw [PySem.StrLaws.occ_eq, occ_first x c _ 0 (fun _ _ => Nat.zero_le _), find_range x c _ 0 (by omega), List.drop_zero]
  cases x.findIdx? (· == c) <;> rfl
theorem d_find {a b : Expr} {ca cb : CE} {x : Str} {apos cpos : Pos} (hx : x = "find") (ha : PE X a (tD X.K W (den F ca))) (hb : PE X b (tD X.K W (den F cb))) (hbase : attributeBase a x X.env (eval a X.env) = eval a X.env) (hline : (apos.endLine == cpos.line) = true)
    (hst : starEach [b] X.env = [(false, eval b X.env)]) : PE X (.Call (.Attribute a x apos) [b] [] cpos) (tD X.K W (den F (.me .find ca cb))) := by
  subst hx
  have mt : L2.MtR X "str.find" fun x ys H Q => ∃ y, ys = [y] ∧ rB X.K .find x y H Q := by
    rintro pins s σ H x ys v us Q I rx rv ⟨y, rfl, w, ρ, h, d, e, r, hd, he, p⟩
    obtain ⟨u, rfl, ru⟩ := L2.Vals.one rv
    cases d with
    | str z =>
      cases e with
      | str w =>
        cases hd
        cases he
        match w, p, ru with
        | [c], p, ru =>
          obtain ⟨t, rfl⟩ := rx
          obtain ⟨t', rfl⟩ := ru
          refine PySem.call_gives PySem.F.slot_str_find (typeIs_str _ _ _) PySem.F.entry_str_find (PySem.F.args_str_find_2 _ _) (PySem.gives_str_find _ _ _ _) ?_
          rw [str_len]
          have e1 : (⟨[c].toArray⟩ : Str) = ⟨#[c]⟩ := rfl
          rw [e1, occ_one]
          refine ⟨.int (findC z c), H, I.tok _, ⟨s.toks, ?_⟩, PostV.now (h := h) p r rfl⟩
          unfold findC
          cases z.findIdx? (· == c) <;> rfl
        | [], p, _ => exact (show False from p).elim
        | _ :: _ :: _, p, _ => exact (show False from p).elim
      | _ => exact (show False from p).elim
    | _ => exact (show False from p).elim
  refine d_me (L2.pe_bm PySem.F.plainAttrs_str PySem.F.slot_str_find PySem.F.type_str_find mt ha (L2.pa_cons hb L2.pa_nil (by rw [hst]; rfl)) hbase (by rw [hst]; rfl) hline (by rw [hst]; rfl)) (fun ρ h d v H r hv h' z => ?_) (meOk_exc _) (fun x y H Q z => ⟨y, rfl, z⟩)
  cases d with
  | str y => cases z; cases hv; exact ⟨rfl, rfl⟩
  | _ => cases z
theorem ints_vs {K:PySem.W.Frag} {ρ:List Addr} {H:Hp}:∀ {ds:List D} {vs:List V} {ns:List Int},intsOf ds=some ns→RepL K ρ H ds vs→vs=ns.map V.int
 | [],_,_,e,h=>by cases e; cases h; rfl
 | d::ds,_,ns,e,⟨v,vs,hv,h1,h2⟩=>by
  subst hv
  cases d with
  | int b =>
   unfold intsOf at e
   cases q:intsOf ds with
   | none=>rw [q] at e; cases e
   | some cs =>
    rw [q] at e
    cases e
    cases h1
    rw [List.map_cons,ints_vs q h2]
  | _=>cases e
theorem in_ints (a:Int) (ns:List Int):L2.inV (.int a) (ns.map V.int)=ns.contains a:=by
 unfold L2.inV
 rw [List.any_map,List.contains_eq_any_beq]
 congr 1
 funext i
 show L2.eqV (.int i) (.int a)=(a == i)
 rw [Bool.eq_iff_iff]
 simp [L2.eqV]
 exact eq_comm
theorem flat_ints (ns:List Int):(ns.map V.int).all L2.flatV=true:=by
 rw [List.all_map,List.all_eq_true]
 intro _ _
 rfl
theorem anyD_spec {f:D→Option Bool}:∀ {xs:List D} {b:Bool},anyD f xs=some b→∃ g:Nat→Bool,(∀ k (hk:k < xs.length),f xs[k]=some (g k))∧(b=true ↔ ∃ k,k < xs.length∧g k=true)
 | [],b,h=>by cases h; exact ⟨fun _=>false,fun k hk=>absurd hk (Nat.not_lt_zero k),by simp⟩
 | x::xs,b,h=>by
  unfold anyD at h
  cases q:f x with
  | none=>rw [q] at h; cases h
  | some a =>
   cases z:anyD f xs with
   | none=>rw [q,z] at h; cases h
   | some c =>
    rw [q,z] at h
    cases h
    obtain ⟨g,h1,h2⟩:=anyD_spec z
    refine ⟨fun k=>match k with | 0=>a | k+1=>g k,fun k hk=>?_,?_⟩
    ·cases k with
     | zero=>exact q
     | succ k=>exact h1 k (by simpa using hk)
    ·rw [Bool.or_eq_true,h2]
     constructor
     ·rintro (z | ⟨k,k1,k2⟩)
      ·exact ⟨0,by simp,z⟩
      ·exact ⟨k+1,by simpa using k1,k2⟩
     ·rintro ⟨k,k1,k2⟩
      cases k with
      | zero=>exact .inl k2
      | succ k=>exact .inr ⟨k,by simpa using k1,k2⟩
open Classical in
theorem in_any {pins : List (Addr × Obj)} {s : Shared} {σ : L2.St} {H : Hp} {ρ : List Addr} {h : AH} (I : Inv X pins σ H s) (r : RepH X.K ρ h H) (hu : X.A.units + 64 < cLine) {a : Addr} {vs : List V} {ds : List D} {d : D} {x : V} {v u : Value} {b : Bool} {Q : VK} (h1 : SqL X.K H a vs) (h2 : RepL X.K ρ H ds vs) (hd : RepV X.K ρ H d x) (rx : RelV x v) (ry : RelV (.ref a) u)
    (qb : anyD (fun x => eqTop h x d) ds = some b) (p : Q (.bl b) H) : wpAny (model X.prog X.w) X.A (compareOp .In v u) (L2.EP X pins σ Q) X.xe s := by
  cases ry
  obtain ⟨its, rr, pl, hz⟩ := I.list h1
  obtain ⟨g, g1, g2⟩ := anyD_spec qb
  have l1 := rr.length
  have l2 := h2.length
  have at' : ∀ k (hk : k < its.length), SeqAt.EqAt X.A.in1 s its[k] v (g k) := fun k hk => by
    have q1 : ds[k]? = some (ds[k]'(by omega)) := by simp
    obtain ⟨w1, p1, p2⟩ := h2.get q1
    obtain ⟨u1, p5, p6⟩ := rr.get p1
    have f1 : its[k]'hk = u1 := by
      have : its[k]? = some (its[k]'hk) := by simp
      rw [this] at p5
      simpa using p5
    rw [f1]
    exact eqOf I r 40 (eqAtD I r 40) _ d _ w1 x u1 v X.A.in1 (g1 k (by omega)) p2 hd p6 rx (by show X.A.units + 1 + 40 < cLine; omega)
  refine SeqAt.in_listAt (fun w => decide (∃ k, ∃ hk : k < its.length, its[k] = w ∧ g k = true)) pl.isList (fun w hw => ?_) ⟨.bl b, H, I, ?_, p⟩
  · by_cases z : ∃ k, ∃ hk : k < its.length, its[k] = w ∧ g k = true
    · rw [decide_eq_true z]
      obtain ⟨k, hk, rfl, e⟩ := z
      have := at' k hk
      rw [e] at this
      exact this
    · rw [decide_eq_false z]
      obtain ⟨k, hk, rfl⟩ := List.mem_iff_getElem.mp (show w ∈ its by simpa using hw)
      have := at' k hk
      rw [show g k = false from Bool.eq_false_iff.mpr fun e => z ⟨k, hk, rfl, e⟩] at this
      exact this
  · show Value.bool _ = Value.bool _
    congr 1
    rw [Bool.eq_iff_iff, g2]
    simp only [List.any_toArray, List.any_eq_true, decide_eq_true_eq]
    constructor
    · rintro ⟨w, hw, k, hk, _, e⟩
      exact ⟨k, by omega, e⟩
    · rintro ⟨k, hk, e⟩
      exact ⟨its[k]'(by omega), List.getElem_mem _, k, by omega, rfl, e⟩
theorem strs_vs {K:PySem.W.Frag} {ρ:List Addr} {H:Hp}:∀ {ds:List D} {vs:List V} {ns:List Tx},strsOf ds=some ns→RepL K ρ H ds vs→vs=ns.map fun y=>V.str ⟨y.toArray⟩
 | [],_,_,e,h=>by cases e; cases h; rfl
 | d::ds,_,ns,e,⟨v,vs,hv,h1,h2⟩=>by
  subst hv
  cases d with
  | str b =>
   unfold strsOf at e
   cases q:strsOf ds with
   | none=>rw [q] at e; cases e
   | some cs =>
    rw [q] at e
    cases e
    cases h1
    rw [List.map_cons,strs_vs q h2]
  | _=>cases e
theorem in_strs (a:Tx) (ns:List Tx):L2.inV (.str ⟨a.toArray⟩) (ns.map fun y=>V.str ⟨y.toArray⟩)=ns.contains a:=by
 unfold L2.inV
 rw [List.any_map,List.contains_eq_any_beq]
 congr 1
 funext i
 show L2.eqV (.str ⟨i.toArray⟩) (.str ⟨a.toArray⟩)=(a == i)
 rw [Bool.eq_iff_iff]
 simp [L2.eqV]
 exact eq_comm
theorem flat_strs (ns:List Tx):(ns.map fun y=>V.str ⟨y.toArray⟩).all L2.flatV=true:=by
 rw [List.all_map,List.all_eq_true]
 intro _ _
 rfl
theorem op_inD (hu:X.A.units+64 < cLine):OpR X (compareOp .In) (rB X.K .isin):=by
 rintro pins s σ H x y v u Q I rx ry ⟨w,ρ,h,d,e,r,hd,he,p⟩
 cases d with
 | str a =>
  cases e with
  | str b =>
   cases hd; cases he
   match a,p,rx with
   | [c],p,rx =>
    obtain ⟨t,rfl⟩:=rx
    obtain ⟨t',rfl⟩:=ry
    refine PyProof.Rows.in_str ?_
    refine ⟨.bl (b.contains c),H,I,?_,PostV.now (h:=h) p r rfl⟩
    show Value.bool _=Value.bool _
    have e1:(⟨[c].toArray⟩:Str)=⟨#[c]⟩:=rfl
    rw [e1,PySem.StrLaws.found_one]
    congr 1
    rw [Bool.eq_iff_iff]
    simp
   | [],p,_=>exact (show False from p).elim
   | _::_::_,p,_=>exact (show False from p).elim
  | tup ds =>
   have p:PostV X.K w Q ρ H (match strsOf ds with | some ys=>.ok (.bl (ys.contains a)) h | none=>.bad):=p
   cases q:strsOf ds with
   | none=>rw [q] at p; exact False.elim p
   | some ys =>
    rw [q] at p
    obtain ⟨l,vs,rfl,h1,h2⟩:=he
    have hv:=strs_vs q h2
    subst hv
    cases hd
    refine L2.op_in_seq pins s σ H _ _ v u Q I rx ry ⟨l,_,rfl,.inr h1,rfl,flat_strs ys,?_⟩
    show Q (.bl (L2.inV (.str ⟨a.toArray⟩) (ys.map fun y=>V.str ⟨y.toArray⟩))) H
    rw [in_strs]
    exact PostV.now (h:=h) p r rfl
  | _=>exact (show False from p).elim
 | int c =>
  cases e with
  | ref i =>
   have p:PostV X.K w Q ρ H (match (getL h i).bind intsOf with | some xs=>.ok (.bl (xs.contains c)) h | none=>hasK i (.int c) h):=p
   cases q1:(getL h i).bind intsOf with
   | none=>rw [q1] at p; exact in_K (ky:=.int c) I r hd he rx ry p
   | some ns =>
    rw [q1] at p
    cases q:getL h i with
    | none=>rw [q] at q1; cases q1
    | some ds =>
     rw [q] at q1
     obtain ⟨a,vs,rfl,h1,h2⟩:=r.seen q he
     have hv:=ints_vs q1 h2
     subst hv
     cases hd
     refine L2.op_in_seq pins s σ H _ _ v u Q I rx ry ⟨a,_,rfl,.inl h1,rfl,flat_ints ns,?_⟩
     show Q (.bl (L2.inV (.int c) (ns.map V.int))) H
     rw [in_ints]
     exact PostV.now (h:=h) p r rfl
  | _=>exact (show False from p).elim
 | tup as =>
  cases e with
  | ref i =>
   have p:PostV X.K w Q ρ H (match (getL h i).bind (anyD fun x=>eqTop h x (.tup as)) with | some b=>.ok (.bl b) h | none=>.bad):=p
   cases q:getL h i with
   | none=>rw [q] at p; exact False.elim p
   | some ds =>
    rw [q] at p
    have p:PostV X.K w Q ρ H (match anyD (fun x=>eqTop h x (.tup as)) ds with | some b=>.ok (.bl b) h | none=>.bad):=p
    cases qb:anyD (fun x=>eqTop h x (.tup as)) ds with
    | none=>rw [qb] at p; exact False.elim p
    | some b =>
     rw [qb] at p
     obtain ⟨a,vs,rfl,h1,h2⟩:=r.seen q he
     exact in_any I r hu h1 h2 hd rx ry qb (PostV.now (h:=h) p r rfl)
  | _=>exact (show False from p).elim
 | _=>exact (show False from p).elim
theorem op_notinD:OpR X (compareOp .NotIn) (rB X.K .notin):=by
 rintro pins s σ H x y v u Q I rx ry ⟨w,ρ,h,d,e,r,hd,he,p⟩
 cases d with
 | str a =>
  cases e with
  | str b =>
   cases hd; cases he
   match a,p,rx with
   | [c],p,rx =>
    obtain ⟨t,rfl⟩:=rx
    obtain ⟨t',rfl⟩:=ry
    refine PyProof.Rows.notIn_str ?_
    refine ⟨.bl (!b.contains c),H,I,?_,PostV.now (h:=h) p r rfl⟩
    show Value.bool _=Value.bool _
    have e1:(⟨[c].toArray⟩:Str)=⟨#[c]⟩:=rfl
    rw [e1,PySem.StrLaws.found_one]
    congr 2
    rw [Bool.eq_iff_iff]
    simp
   | [],p,_=>exact (show False from p).elim
   | _::_::_,p,_=>exact (show False from p).elim
  | _=>exact (show False from p).elim
 | int c =>
  cases e with
  | ref i =>
   have p:PostV X.K w Q ρ H (match (getL h i).bind intsOf with | some xs=>.ok (.bl (!xs.contains c)) h | none=>.bad):=p
   cases q:getL h i with
   | none=>rw [q] at p; exact False.elim p
   | some ds =>
    rw [q] at p
    have p:PostV X.K w Q ρ H (match intsOf ds with | some xs=>.ok (.bl (!xs.contains c)) h | none=>.bad):=p
    cases qb:intsOf ds with
    | none=>rw [qb] at p; exact False.elim p
    | some ns =>
     rw [qb] at p
     obtain ⟨a,vs,rfl,h1,h2⟩:=r.seen q he
     have hv:=ints_vs qb h2
     subst hv
     cases hd
     refine L2.op_notIn_seq pins s σ H _ _ v u Q I rx ry ⟨a,_,rfl,.inl h1,rfl,flat_ints ns,?_⟩
     show Q (.bl (!L2.inV (.int c) (ns.map V.int))) H
     rw [in_ints]
     exact PostV.now (h:=h) p r rfl
  | _=>exact (show False from p).elim
 | _=>exact (show False from p).elim
theorem bools_rep {K:PySem.W.Frag} {ρ:List Addr} {H:Hp}:∀ {ds:List D} {vs:List V} {us:List Value} {bs:List Bool},boolsOf ds=some bs→RepL K ρ H ds vs→Vals vs us→LSm.BoolsAre us bs
 | [],_,_,_,e,h,r=>by
  cases e
  cases h
  cases r
  exact .nil
 | d::ds,_,us,bs,e,⟨v,vs,hv,h1,h2⟩,r=>by
  subst hv
  cases d with
  | bl b =>
   unfold boolsOf at e
   cases q:boolsOf ds with
   | none=>rw [q] at e; cases e
   | some cs =>
    rw [q] at e
    cases e
    cases h1
    cases r with
    | cons r1 r2 =>
     cases r1
     exact .cons b (bools_rep q h2 r2)
  | _=>cases e
theorem call_allD (hc:X.calm=true):CallR X (.builtin "all") (rC X.K .all):=by
 rintro pins s σ H xs us Q I rv ⟨x,rfl,w,ρ,h,d,r,hd,p⟩
 cases d with
 | ref i =>
  have p:PostV X.K w Q ρ H (match (getL h i).bind allB with | some b=>.ok (.bl b) h | none=>.bad):=p
  cases q:getL h i with
  | none=>rw [q] at p; exact False.elim p
  | some ds =>
   rw [q] at p
   have p:PostV X.K w Q ρ H (match (boolsOf ds).map (·.all id) with | some b=>.ok (.bl b) h | none=>.bad):=p
   cases qb:boolsOf ds with
   | none=>rw [qb] at p; exact False.elim p
   | some bs =>
    rw [qb] at p
    obtain ⟨a,vs,rfl,h1,h2⟩:=r.seen q hd
    obtain ⟨u,rfl,ru⟩:=L2.Vals.one rv
    cases ru
    obtain ⟨its,rv',pl,hz⟩:=I.list h1
    have hb:=bools_rep qb h2 rv'
    have hl:=pl.isList
    have hlt:a < s.heap.objs.size:=by obtain ⟨_,e,_⟩:=hl; exact Heap.lt_size e
    refine PySem.call_all_walk (wpAny_pyIter_list hl ?_)
    refine ⟨s.heap.objs.size,[s.heap.objs.size,a],[s.heap.objs.size],its.toArray.size,_,_,fun i=>(bs[i]?).getD true,rfl,Walks.list (A:=X.A.in1) (I.ok.hd hc) _ a (Nat.ne_of_lt hlt) its.toArray,
     ⟨⟨_,Heap.get?_push_size _ rfl,rfl,rfl⟩,hl.push _⟩,fun i v s' Q' E' hP hQ=>?_,fun h' tk hk=>?_⟩
    ·obtain ⟨b,e,rfl⟩:=hb.get i v (by simpa using hP)
     simp only [e,Option.getD_some] at hQ
     exact wpAny_truthy_bool hQ
    ·have e:((List.range its.toArray.size).all fun i=>(bs[i]?).getD true)=bs.all id:=by
      rw [show its.toArray.size=bs.length by simpa using hb.length]
      exact LSm.range_all bs
     rw [e]
     exact ⟨.bl (bs.all id),H,I.kept (t':=tk) (LSm.kept_iter hk),rfl,PostV.now p r rfl⟩
 | _=>exact (show False from p).elim
theorem isB_val {ρ:List Addr} {H:Hp} {h:AH} {b:Bool} {d:D} {v:V} {u:Value} {Q:VK} {w:W1} (r:RepH X.K ρ h H) (hd:RepV X.K ρ H d v) (rv:RelV v u) (p:PostV X.K w Q ρ H (unD (.isB b) d h)):∃ k,((u == Value.bool b)=k)∧Q (.bl k) H:=by
 cases d with
 | bl c =>
  cases hd
  cases rv
  refine ⟨_,rfl,PostV.now (h:=h) (d:=.bl (b == c)) p r ?_⟩
  cases b <;> cases c <;> rfl
 | non=>cases hd; cases rv; exact ⟨_,rfl,PostV.now (h:=h) (d:=.bl false) p r rfl⟩
 | int i=>cases hd; obtain ⟨t,rfl⟩:=rv; exact ⟨_,rfl,PostV.now (h:=h) (d:=.bl false) p r rfl⟩
 | str x=>cases hd; obtain ⟨t,rfl⟩:=rv; exact ⟨_,rfl,PostV.now (h:=h) (d:=.bl false) p r rfl⟩
 | tup xs=>exact (show False from p).elim
 | ref i=>exact (show False from p).elim
noncomputable def tIsB (K:PySem.W.Frag) (b:Bool) (ta:TE):TE:=fun σ H Q=>ta σ H fun x H1=>rU K (.isB b) x H1 Q
theorem pc_isB {a:Expr} {ta:TE} {b:Bool} {j:Nat} {pos':Pos} (ha:PE X a ta):L2.PC X .Is a (.Constant (.bool b) j pos') (tIsB X.K b ta):=by
 intro pins s σ H Q I h
 refine L2.thn (ha pins s σ H _ I h) fun v s1 ⟨x,H1,I1,r1,w,ρ,hh,d,r,hd,p⟩=>?_
 obtain ⟨k,hk,q⟩:=isB_val r hd r1 p
 refine Constant_bool ?_
 have key:∀ Qv:Value→Shared→Prop,Qv (.bool (v == .bool b)) s1→wpAny (model X.prog X.w) X.A (compareOp .Is v (.bool b)) Qv X.xe s1:=by
  intro Qv hQ
  rcases plain_of hd r1 with rfl | ⟨c,rfl⟩ | ⟨c,t,rfl⟩ | ⟨c,t,rfl⟩ | ⟨c,rfl⟩ <;> exact wpAny_pure hQ
 refine key _ ⟨.bl k,H1,I1,by rw [hk]; rfl,q⟩
theorem isBI {b:Bool} {ca:CE} {σ:L2.St} {H:Hp} {Q:VK} (t:tD X.K W (den F (.un (.isB b) ca)) σ H Q):tIsB X.K b (tD X.K W (den F ca)) σ H Q:=one t
theorem isB_bl {b:Bool} {ca:CE} (env:Env) (h:AH) (d:D) (h':AH) (e:den F (.un (.isB b) ca) env h=.ok d h'):∃ k,d=.bl k:=by
 rw [den] at e
 obtain ⟨x,g1,_,e⟩:=bind_ok e
 cases x <;> first | (cases e; exact ⟨_,rfl⟩) | cases e
theorem d_isB {a:Expr} {ca:CE} {b:Bool} {j:Nat} {pos pos':Pos} (ha:PE X a (tD X.K W (den F ca))):PE X (.Compare a [.Is] [.Constant (.bool b) j pos'] pos) (tD X.K W (den F (.un (.isB b) ca))):=PE.imp (L2.pe_cmp (pc_isB ha)) fun σ H Q t=>isBI t
theorem dt_isB {a:Expr} {ca:CE} {b:Bool} {j:Nat} {pos pos':Pos} (ha:PE X a (tD X.K W (den F ca))):PT X (.Compare a [.Is] [.Constant (.bool b) j pos'] pos) (tDT X.K W (denT F (.val (.un (.isB b) ca)))):=PT.imp (L2.pt_cmp (pc_isB ha)) fun σ H Q t=>isBI (valI isB_bl t)
theorem nsB_val {ρ:List Addr} {H:Hp} {h:AH} {b:Bool} {d:D} {v:V} {u:Value} {Q:VK} {w:W1} (r:RepH X.K ρ h H) (hd:RepV X.K ρ H d v) (rv:RelV v u) (p:PostV X.K w Q ρ H (unD (.nsB b) d h)):∃ k,((!(u == Value.bool b))=k)∧Q (.bl k) H:=by
 cases d with
 | bl c =>
  cases hd
  cases rv
  refine ⟨_,rfl,PostV.now (h:=h) (d:=.bl (!(b == c))) p r ?_⟩
  cases b <;> cases c <;> rfl
 | non=>cases hd; cases rv; exact ⟨_,rfl,PostV.now (h:=h) (d:=.bl true) p r rfl⟩
 | int i=>cases hd; obtain ⟨t,rfl⟩:=rv; exact ⟨_,rfl,PostV.now (h:=h) (d:=.bl true) p r rfl⟩
 | str x=>cases hd; obtain ⟨t,rfl⟩:=rv; exact ⟨_,rfl,PostV.now (h:=h) (d:=.bl true) p r rfl⟩
 | tup xs=>exact (show False from p).elim
 | ref i=>exact (show False from p).elim
noncomputable def tNsB (K:PySem.W.Frag) (b:Bool) (ta:TE):TE:=fun σ H Q=>ta σ H fun x H1=>rU K (.nsB b) x H1 Q
theorem pc_nsB {a:Expr} {ta:TE} {b:Bool} {j:Nat} {pos':Pos} (ha:PE X a ta):L2.PC X .IsNot a (.Constant (.bool b) j pos') (tNsB X.K b ta):=by
 intro pins s σ H Q I h
 refine L2.thn (ha pins s σ H _ I h) fun v s1 ⟨x,H1,I1,r1,w,ρ,hh,d,r,hd,p⟩=>?_
 obtain ⟨k,hk,q⟩:=nsB_val r hd r1 p
 refine Constant_bool ?_
 have key:∀ Qv:Value→Shared→Prop,Qv (.bool (!(v == .bool b))) s1→wpAny (model X.prog X.w) X.A (compareOp .IsNot v (.bool b)) Qv X.xe s1:=by
  intro Qv hQ
  rcases plain_of hd r1 with rfl | ⟨c,rfl⟩ | ⟨c,t,rfl⟩ | ⟨c,t,rfl⟩ | ⟨c,rfl⟩ <;> exact wpAny_pure hQ
 refine key _ ⟨.bl k,H1,I1,by rw [hk]; rfl,q⟩
theorem nsB_bl {b:Bool} {ca:CE} (env:Env) (h:AH) (d:D) (h':AH) (e:den F (.un (.nsB b) ca) env h=.ok d h'):∃ k,d=.bl k:=by
 rw [den] at e
 obtain ⟨x,g1,_,e⟩:=bind_ok e
 cases x <;> first | (cases e; exact ⟨_,rfl⟩) | cases e
theorem d_nsB {a:Expr} {ca:CE} {b:Bool} {j:Nat} {pos pos':Pos} (ha:PE X a (tD X.K W (den F ca))):PE X (.Compare a [.IsNot] [.Constant (.bool b) j pos'] pos) (tD X.K W (den F (.un (.nsB b) ca))):=PE.imp (L2.pe_cmp (pc_nsB ha)) fun σ H Q t=>one t
theorem dt_nsB {a:Expr} {ca:CE} {b:Bool} {j:Nat} {pos pos':Pos} (ha:PE X a (tD X.K W (den F ca))):PT X (.Compare a [.IsNot] [.Constant (.bool b) j pos'] pos) (tDT X.K W (denT F (.val (.un (.nsB b) ca)))):=PT.imp (L2.pt_cmp (pc_nsB ha)) fun σ H Q t=>one (valI nsB_bl t)
end
end Fy
set_option Elab.async false
set_option linter.all false
set_option maxRecDepth 100000
set_option maxHeartbeats 4000000
namespace Fy
open PySem PySem.Spec PyProof.Rows
open L2 (V Hp HO VK TE TT TA TS TI Cx Inv RelV Vals SqL SqT Rd upd upd_same upd_ne PE PT PA PS PSs EP OpR CallR IxR MtR SlR PO TO)
section
variable {K:PySem.W.Frag} {ρ:List Addr} {H:Hp}
end
section
variable {prog:Program} {w:World} {K:Type} [DecidableEq K] {knd:KeyKind prog w K} {A:Around} {E:Value→Shared→Prop} {s:Shared}
end
section
variable {prog:Program} {w:World} {K:Type} [DecidableEq K]
end
section
variable {X:Cx} {F:Nat→List D→M D} {W:WX}
end
end Fy
set_option Elab.async false
set_option linter.all false
set_option maxRecDepth 100000
set_option maxHeartbeats 4000000
namespace Fy
open PySem PySem.Spec PyProof.Rows
open L2 (V Hp HO VK TE TT TA TS TI Cx Inv RelV Vals SqL SqT Rd upd upd_same upd_ne PE PT PA PS PSs EP OpR CallR IxR MtR SlR PO TO)
section
open PySem.Builtin PySem.Builtin.Str
theorem occ_go (a : Tx) (c limit : Nat) : ∀ (r : Tx) (k : Nat) (f : Array Nat) (free : Nat), a.drop k = r → free ≤ k → f.size ≤ limit →
    (forIn (List.range' k (r.length + 1)) (f, free) (StrLaws.occBody ⟨a.toArray⟩ ⟨#[c]⟩ a.length limit)).run.fst.toList = f.toList ++ (posC c k r).take (limit - f.size)
  | [], k, f, free, hr, hf, hl => by
    show (forIn [k] (f, free) (StrLaws.occBody ⟨a.toArray⟩ ⟨#[c]⟩ a.length limit)).run.fst.toList = _
    rw [List.forIn_cons]
    have hk : a.length ≤ k := by
      have := congrArg List.length hr
      rw [List.length_drop] at this
      simp at this
      omega
    unfold StrLaws.occBody
    rw [if_neg (by rintro ⟨⟨_, z⟩, _⟩; have z : k + 1 ≤ a.length := z; omega)]
    show f.toList = f.toList ++ List.take _ []
    simp
  | x :: r, k, f, free, hr, hf, hl => by
    have hx : a[k]? = some x := by
      have := List.getElem?_drop (xs := a) (i := k) (j := 0)
      rw [hr] at this
      simpa using this.symm
    have hr' : a.drop (k + 1) = r := by
      rw [← List.drop_drop, hr]
      rfl
    rw [List.length_cons, List.range'_succ, List.forIn_cons]
    have key : (k + (⟨#[c]⟩ : PySem.Str).length ≤ a.length ∧ subAt ⟨a.toArray⟩ ⟨#[c]⟩ k = true) ↔ x = c := by
      have := StrLaws.subAt_one ⟨a.toArray⟩ c k
      have e : (⟨a.toArray⟩ : PySem.Str).length = a.length := by show a.toArray.size = _; simp
      rw [e] at this
      rw [this]
      show a.toArray.toList[k]? = some c ↔ _
      rw [List.toList_toArray, hx]
      constructor
      · intro h; exact Option.some.inj h
      · intro h; rw [h]
    unfold StrLaws.occBody
    unfold posC
    by_cases e : x = c
    · rw [if_pos e]
      by_cases hz : f.size < limit
      · rw [if_pos ⟨⟨⟨hz, hf⟩, (key.mpr e).1⟩, (key.mpr e).2⟩]
        have ih := occ_go a c limit r (k + 1) (f.push k) (k + 1) hr' (Nat.le_refl _) (by rw [Array.size_push]; omega)
        refine ih.trans ?_
        rw [Array.toList_push, Array.size_push, show limit - f.size = (limit - (f.size + 1)) + 1 by omega, List.take_succ_cons]
        simp
      · rw [if_neg (fun z => hz z.1.1.1)]
        have ih := occ_go a c limit r (k + 1) f free hr' (by omega) hl
        refine ih.trans ?_
        rw [show limit - f.size = 0 by omega]
        simp
    · rw [if_neg e, if_neg (fun z => e (key.mp ⟨z.1.2, z.2⟩))]
      exact occ_go a c limit r (k + 1) f free hr' (by omega) hl
theorem occ_pos (a:Tx) (c limit:Nat):occurrences ⟨a.toArray⟩ ⟨#[c]⟩ 0 a.length limit=(posC c 0 a).take limit:=by
 rw [StrLaws.occ_eq]
 have:=occ_go a c limit a 0 #[] 0 rfl (Nat.le_refl _) (Nat.zero_le _)
 simpa using this
theorem posC_len (c:Nat):∀ (k:Nat) (a:Tx),(posC c k a).length≤a.length
 | _,[]=>Nat.le_refl _
 | k,x::r=>by
  have:=posC_len c (k+1) r
  unfold posC
  split
  ·simp only [List.length_cons]; omega
  ·simp only [List.length_cons]; omega
theorem lastC_spec (c:Nat):∀ (k:Nat) (a:Tx),(lastC c k a=none∧∀ i:Nat,a[i]? ≠ some c) ∨ ∃ i:Nat,lastC c k a=some (k+i)∧a[i]?=some c∧∀ j:Nat,i < j→a[j]? ≠ some c
 | k,[]=>.inl ⟨rfl,fun i=>by simp⟩
 | k,x::r=>by
  unfold lastC
  rcases lastC_spec c (k+1) r with ⟨h1,h2⟩ | ⟨i,h1,h2,h3⟩
  ·rw [h1]
   simp only
   by_cases e:x=c
   ·rw [if_pos e]
    refine .inr ⟨0,rfl,by rw [e]; rfl,fun j hj=>?_⟩
    rw [show j=(j - 1)+1 by omega,List.getElem?_cons_succ]
    exact h2 _
   ·rw [if_neg e]
    refine .inl ⟨rfl,fun i=>?_⟩
    cases i with
    | zero=>simpa using e
    | succ i=>rw [List.getElem?_cons_succ]; exact h2 i
  ·rw [h1]
   refine .inr ⟨i+1,by show some (k+1+i)=_; congr 1; omega,by rw [List.getElem?_cons_succ]; exact h2,fun j hj=>?_⟩
   rw [show j=(j - 1)+1 by omega,List.getElem?_cons_succ]
   exact h3 _ (by omega)
theorem last_pos (a:Tx) (c:Nat):lastOccurrence ⟨a.toArray⟩ ⟨#[c]⟩ 0 a.length=lastC c 0 a:=by
 have e:(⟨a.toArray⟩:PySem.Str).length=a.length:=by show a.toArray.size=_; simp
 have at':∀ i,StrLaws.At ⟨a.toArray⟩ ⟨#[c]⟩ (⟨a.toArray⟩:PySem.Str).length i ↔ a[i]?=some c:=fun i=>by
  have:=StrLaws.subAt_one ⟨a.toArray⟩ c i
  exact this
 have key:=StrLaws.last_spec ⟨a.toArray⟩ ⟨#[c]⟩
 rw [e] at key at'
 rcases key with ⟨h1,h2⟩ | ⟨i,h1,h2,h3⟩
 ·rw [h1]
  rcases lastC_spec c 0 a with ⟨g1,g2⟩ | ⟨j,g1,g2,g3⟩
  ·rw [g1]
  ·exact absurd ((at' j).mpr g2) (h2 j)
 ·rw [h1]
  rcases lastC_spec c 0 a with ⟨g1,g2⟩ | ⟨j,g1,g2,g3⟩
  ·exact absurd ((at' i).mp h2) (g2 i)
  ·rw [g1,Nat.zero_add]
   rcases Nat.lt_trichotomy i j with z | z | z
   ·exact absurd ((at' j).mpr g2) (h3 j z)
   ·rw [z]
   ·exact absurd ((at' i).mp h2) (g3 i z)
theorem sub_cut (a:Tx) (i j:Nat):strSub ⟨a.toArray⟩ i j=⟨((a.drop i).take (j - i)).toArray⟩:=by
 unfold strSub
 congr 1
 apply Array.toList_inj.mp
 rw [Array.toList_extract,List.toList_toArray,List.toList_toArray]
 try simp [List.extract]
theorem parts_cut (a : Tx) (cuts : List Nat) : partsBetween ⟨a.toArray⟩ cuts 1 = (partsT a cuts).map fun p => ⟨p.toArray⟩ := by
  unfold partsBetween partsT
  rw [List.map_map]
  show List.map _ ((0 :: cuts.map (· + 1)).zip (cuts ++ [a.toArray.size])) = _
  rw [List.size_toArray]
  congr 1
  funext ⟨i, j⟩
  exact sub_cut a i j
theorem kind_one {c:Nat} (hc:c < 256) (x:PySem.Str):Builtin.Str.strKind x < Builtin.Str.strKind ⟨#[c]⟩ ↔ False:=by
 have h1:Builtin.Str.strKind ⟨#[c]⟩=1:=by
  unfold Builtin.Str.strKind
  rw [if_pos (by simpa using hc)]
 have h2:1≤Builtin.Str.strKind x:=by
  unfold Builtin.Str.strKind
  split
  ·omega
  ·split <;> omega
 constructor
 ·intro h; omega
 ·exact False.elim
end
section
variable {K:PySem.W.Frag} {ρ:List Addr} {H:Hp}
theorem rep_strs:∀ ps:List Tx,RepL K ρ H (ps.map D.str) (ps.map fun p=>V.str ⟨p.toArray⟩)
 | []=>rfl
 | p::ps=>⟨_,_,rfl,rfl,rep_strs ps⟩
end
theorem vals_strs:∀ (tk:Nat) (ps:List Tx),Vals (ps.map fun p=>V.str ⟨p.toArray⟩) (strsFrom tk (ps.map fun p=>(⟨p.toArray⟩:Str)))
 | _,[]=>.nil
 | tk,p::ps=>.cons ⟨tk,rfl⟩ (vals_strs (tk+1) ps)
theorem parts_nil (z:Tx):partsT z []=[z]:=by
 unfold partsT
 show [(z.drop 0).take (z.length - 0)]=[z]
 rw [List.drop_zero,Nat.sub_zero,List.take_length]
section
variable {X:Cx} {F:Nat→List D→M D} {W:WX}
theorem str_ty {o:Bi} (ho:∀ d h h',meOk o d h=.ok () h'→h'=h∧∃ y,d=.str y):∀ ρ h d v H,RepH X.K ρ h H→RepV X.K ρ H d v→∀ h',meOk o d h=.ok () h'→h'=h∧L2.tyV X.K "str" v H:=fun ρ h d v H r hv h' z=>by
 obtain ⟨rfl,y,rfl⟩:=ho d h h' z
 cases hv
 exact ⟨rfl,rfl⟩
theorem d_split {a b : Expr} {ca cb : CE} {x : Str} {apos cpos : Pos} (hx : x = "split") (ha : PE X a (tD X.K W (den F ca))) (hb : PE X b (tD X.K W (den F cb))) (hbase : attributeBase a x X.env (eval a X.env) = eval a X.env) (hline : (apos.endLine == cpos.line) = true)
    (hst : starEach [b] X.env = [(false, eval b X.env)]) : PE X (.Call (.Attribute a x apos) [b] [] cpos) (tD X.K W (den F (.me .split ca cb))) := by
  subst hx
  have mt : L2.MtR X "str.split" fun x ys H Q => ∃ y, ys = [y] ∧ rB X.K .split x y H Q := by
    rintro pins s σ H x ys v us Q I rx rv ⟨y, rfl, w, ρ, h, d, e, r, hd, he, p⟩
    obtain ⟨u, rfl, ru⟩ := L2.Vals.one rv
    cases d with
    | str z =>
      cases e with
      | str w' =>
        cases hd
        cases he
        match w', p, ru with
        | [c], p, ru =>
          obtain ⟨t, rfl⟩ := rx
          obtain ⟨t', rfl⟩ := ru
          have p : PostV X.K w Q ρ H (if c < 256 ∧ z.length ≤ 1000000 then newL ((partsT z (posC c 0 z)).map .str) h else .bad) := p
          obtain ⟨⟨hc, hl⟩, p⟩ := PostV.ite p
          obtain ⟨hz, q⟩ := PostV.newL p r (rep_strs _)
          have fin : ∀ (its : List Value) (tk : Nat), Vals ((partsT z (posC c 0 z)).map fun x => V.str ⟨x.toArray⟩) its → EP X pins σ Q (.ref s.heap.objs.size) { s with heap := s.heap.push { cls := .type "list", data := .seq its.toArray }, toks := tk } := fun its tk hv =>
            ⟨.ref _, _, I.laid (t' := tk) (o := .lst _) (fun b ob q => Heap.get?_push_of_some _ q) (Nat.le_refl _) ⟨hz, _, 0, hv, Heap.get?_push_size _ rfl⟩, rfl, q _ (I.hok.fresh (Nat.le_refl _))⟩
          have e1 : (⟨[c].toArray⟩ : Str) = ⟨#[c]⟩ := rfl
          have kd := kind_one hc (⟨z.toArray⟩ : Str)
          have sl : (⟨z.toArray⟩ : Str).length = z.length := str_len z
          have oc : Builtin.Str.occurrences ⟨z.toArray⟩ ⟨#[c]⟩ 0 (⟨z.toArray⟩ : Str).length ((⟨z.toArray⟩ : Str).length + 1) = posC c 0 z := by
            rw [sl, occ_pos]
            exact List.take_of_length_le (by have := posC_len c 0 z; omega)
          by_cases h0 : z = []
          · have h1 : (decide ((⟨z.toArray⟩ : Str).length < (⟨[c].toArray⟩ : Str).length) || decide (Builtin.Str.strKind ⟨z.toArray⟩ < Builtin.Str.strKind ⟨[c].toArray⟩)) = true := by
              rw [sl, h0]; rfl
            refine call_meets PySem.F.slot_str_split (typeIs_str _ _ _) PySem.F.entry_str_split (PySem.F.args_str_split_2 _ _) (meets_str_split_cannot_occur _ _ _ _ h1) ?_
            exact fin [Value.str ⟨z.toArray⟩ t] s.toks (by subst h0; exact .cons ⟨t, rfl⟩ .nil)
          · have hz1 : 1 ≤ z.length := by cases z with | nil => exact absurd rfl h0 | cons _ _ => simp
            have h1 : (decide ((⟨z.toArray⟩ : Str).length < (⟨[c].toArray⟩ : Str).length) || decide (Builtin.Str.strKind ⟨z.toArray⟩ < Builtin.Str.strKind ⟨[c].toArray⟩)) = false := by
              rw [sl, Bool.or_eq_false_iff, decide_eq_false_iff_not, decide_eq_false_iff_not]
              exact ⟨by show ¬ z.length < 1; omega, fun z => kd.mp z⟩
            cases hp : posC c 0 z with
            | nil =>
              refine call_meets PySem.F.slot_str_split (typeIs_str _ _ _) PySem.F.entry_str_split (PySem.F.args_str_split_2 _ _) (meets_str_split_not_found _ _ _ _ h1 rfl (by rw [e1, oc, hp]; rfl)) ?_
              refine fin [Value.str ⟨z.toArray⟩ t] s.toks ?_
              rw [hp, parts_nil]
              exact .cons ⟨t, rfl⟩ .nil
            | cons i r' =>
              have pb : Builtin.Str.partsBetween ⟨z.toArray⟩ (Builtin.Str.occurrences ⟨z.toArray⟩ ⟨[c].toArray⟩ 0 (⟨z.toArray⟩ : Str).length ((⟨z.toArray⟩ : Str).length + 1)) (⟨[c].toArray⟩ : Str).length = (partsT z (posC c 0 z)).map fun p => ⟨p.toArray⟩ := by
                rw [e1, oc]; exact parts_cut z _
              refine call_meets PySem.F.slot_str_split (typeIs_str _ _ _) PySem.F.entry_str_split (PySem.F.args_str_split_2 _ _) (meets_str_split_sep _ _ _ _ h1 rfl (by rw [e1, oc, hp]; rfl) (by rw [sl, szEq]; omega) (by rw [pb, List.length_map]; rw [List.length_map] at hz; exact hz)) ?_
              show EP X pins σ Q _ _
              rw [pb]
              exact fin _ _ (vals_strs s.toks _)
        | [], p, _ => exact (show False from p).elim
        | _ :: _ :: _, p, _ => exact (show False from p).elim
      | _ => exact (show False from p).elim
    | _ => exact (show False from p).elim
  refine d_me (L2.pe_bm PySem.F.plainAttrs_str PySem.F.slot_str_split PySem.F.type_str_split mt ha (L2.pa_cons hb L2.pa_nil (by rw [hst]; rfl)) hbase (by rw [hst]; rfl) hline (by rw [hst]; rfl)) (str_ty fun d h h' z => ?_) (meOk_exc _) (fun x y H Q z => ⟨y, rfl, z⟩)
  cases d with
  | str y => cases z; exact ⟨rfl, y, rfl⟩
  | _ => cases z
theorem d_part {a b : Expr} {ca cb : CE} {x : Str} {apos cpos : Pos} (hx : x = "partition") (ha : PE X a (tD X.K W (den F ca))) (hb : PE X b (tD X.K W (den F cb))) (hbase : attributeBase a x X.env (eval a X.env) = eval a X.env) (hline : (apos.endLine == cpos.line) = true)
    (hst : starEach [b] X.env = [(false, eval b X.env)]) : PE X (.Call (.Attribute a x apos) [b] [] cpos) (tD X.K W (den F (.me .part ca cb))) := by
  subst hx
  have mt : L2.MtR X "str.partition" fun x ys H Q => ∃ y, ys = [y] ∧ rB X.K .part x y H Q := by
    rintro pins s σ H x ys v us Q I rx rv ⟨y, rfl, w, ρ, h, d, e, r, hd, he, p⟩
    obtain ⟨u, rfl, ru⟩ := L2.Vals.one rv
    cases d with
    | str z =>
      cases e with
      | str w' =>
        cases hd
        cases he
        match w', p, ru with
        | [c], p, ru =>
          obtain ⟨t, rfl⟩ := rx
          obtain ⟨t', rfl⟩ := ru
          have p : PostV X.K w Q ρ H (if z.length ≤ 1000000 then .ok (.tup ((partT z c).map .str)) h else .bad) := p
          obtain ⟨hl, p⟩ := PostV.ite p
          have q := PostV.newT p r (rep_strs _)
          have hz3 : (partT z c).length ≤ sizeLine := by unfold partT; split <;> exact (by decide : 3 ≤ sizeLine)
          have fin : ∀ (its : List Value) (tk : Nat), Vals ((partT z c).map fun x => V.str ⟨x.toArray⟩) its → EP X pins σ Q (.ref s.heap.objs.size) { s with heap := s.heap.push { cls := .type "tuple", data := .seq its.toArray }, toks := tk } := fun its tk hv =>
            ⟨.ref _, _, I.laid (t' := tk) (o := .tup _) (fun b ob q => Heap.get?_push_of_some _ q) (Nat.le_refl _) ⟨by rw [List.length_map]; exact hz3, its, hv, IsTup.new _ _⟩, rfl, q _ (I.hok.fresh (Nat.le_refl _))⟩
          have e1 : (⟨[c].toArray⟩ : Str) = ⟨#[c]⟩ := rfl
          have sl : (⟨z.toArray⟩ : Str).length = z.length := str_len z
          have oc : Builtin.Str.occurrences ⟨z.toArray⟩ ⟨[c].toArray⟩ 0 (⟨z.toArray⟩ : Str).length 1 = (posC c 0 z).take 1 := by
            rw [sl, e1, occ_pos]
          refine call_meets PySem.F.slot_str_partition (typeIs_str _ _ _) PySem.F.entry_str_partition (PySem.F.args_str_partition_2 _ _) (meets_str_partition _ _ _ _ rfl (by rw [sl, szEq]; omega)) ?_
          rw [oc]
          cases hp : posC c 0 z with
          | nil =>
            have e2 : partT z c = [z, [], []] := by unfold partT; rw [hp]
            exact fin [.str ⟨z.toArray⟩ t, .str Str.empty s.toks, .str Str.empty s.toks] _ (by rw [e2]; exact .cons ⟨_, rfl⟩ (.cons ⟨_, rfl⟩ (.cons ⟨_, rfl⟩ .nil)))
          | cons i r' =>
            have e2 : partT z c = [z.take i, [c], z.drop (i + 1)] := by unfold partT; rw [hp]
            have c1 : Builtin.Str.strSub ⟨z.toArray⟩ 0 i = ⟨(z.take i).toArray⟩ := by rw [sub_cut]; simp
            have c2 : Builtin.Str.strSub ⟨z.toArray⟩ (i + (⟨[c].toArray⟩ : Str).length) (⟨z.toArray⟩ : Str).length = ⟨(z.drop (i + 1)).toArray⟩ := by
              rw [sub_cut, sl]
              congr 2
              exact List.take_of_length_le (by rw [List.length_drop]; exact Nat.le_refl _)
            refine fin [.str (Builtin.Str.strSub ⟨z.toArray⟩ 0 i) s.toks, .str ⟨[c].toArray⟩ t', .str (Builtin.Str.strSub ⟨z.toArray⟩ (i + (⟨[c].toArray⟩ : Str).length) (⟨z.toArray⟩ : Str).length) (s.toks + 1)] _ ?_
            rw [e2, c1, c2]
            exact .cons ⟨_, rfl⟩ (.cons ⟨_, rfl⟩ (.cons ⟨_, rfl⟩ .nil))
        | [], p, _ => exact (show False from p).elim
        | _ :: _ :: _, p, _ => exact (show False from p).elim
      | _ => exact (show False from p).elim
    | _ => exact (show False from p).elim
  refine d_me (L2.pe_bm PySem.F.plainAttrs_str PySem.F.slot_str_partition PySem.F.type_str_partition mt ha (L2.pa_cons hb L2.pa_nil (by rw [hst]; rfl)) hbase (by rw [hst]; rfl) hline (by rw [hst]; rfl)) (str_ty fun d h h' z => ?_) (meOk_exc _) (fun x y H Q z => ⟨y, rfl, z⟩)
  cases d with
  | str y => cases z; exact ⟨rfl, y, rfl⟩
  | _ => cases z
theorem d_rpart {a b : Expr} {ca cb : CE} {x : Str} {apos cpos : Pos} (hx : x = "rpartition") (ha : PE X a (tD X.K W (den F ca))) (hb : PE X b (tD X.K W (den F cb))) (hbase : attributeBase a x X.env (eval a X.env) = eval a X.env) (hline : (apos.endLine == cpos.line) = true)
    (hst : starEach [b] X.env = [(false, eval b X.env)]) : PE X (.Call (.Attribute a x apos) [b] [] cpos) (tD X.K W (den F (.me .rpart ca cb))) := by
  subst hx
  have mt : L2.MtR X "str.rpartition" fun x ys H Q => ∃ y, ys = [y] ∧ rB X.K .rpart x y H Q := by
    rintro pins s σ H x ys v us Q I rx rv ⟨y, rfl, w, ρ, h, d, e, r, hd, he, p⟩
    obtain ⟨u, rfl, ru⟩ := L2.Vals.one rv
    cases d with
    | str z =>
      cases e with
      | str w' =>
        cases hd
        cases he
        match w', p, ru with
        | [c], p, ru =>
          obtain ⟨t, rfl⟩ := rx
          obtain ⟨t', rfl⟩ := ru
          have p : PostV X.K w Q ρ H (if z.length ≤ 1000000 then .ok (.tup ((rpartT z c).map .str)) h else .bad) := p
          obtain ⟨hl, p⟩ := PostV.ite p
          have q := PostV.newT p r (rep_strs _)
          have hz3 : (rpartT z c).length ≤ sizeLine := by unfold rpartT; split <;> exact (by decide : 3 ≤ sizeLine)
          have fin : ∀ (its : List Value) (tk : Nat), Vals ((rpartT z c).map fun x => V.str ⟨x.toArray⟩) its → EP X pins σ Q (.ref s.heap.objs.size) { s with heap := s.heap.push { cls := .type "tuple", data := .seq its.toArray }, toks := tk } := fun its tk hv =>
            ⟨.ref _, _, I.laid (t' := tk) (o := .tup _) (fun b ob q => Heap.get?_push_of_some _ q) (Nat.le_refl _) ⟨by rw [List.length_map]; exact hz3, its, hv, IsTup.new _ _⟩, rfl, q _ (I.hok.fresh (Nat.le_refl _))⟩
          have e1 : (⟨[c].toArray⟩ : Str) = ⟨#[c]⟩ := rfl
          have sl : (⟨z.toArray⟩ : Str).length = z.length := str_len z
          have oc : Builtin.Str.lastOccurrence ⟨z.toArray⟩ ⟨[c].toArray⟩ 0 (⟨z.toArray⟩ : Str).length = lastC c 0 z := by
            rw [sl, e1, last_pos]
          refine call_meets PySem.F.slot_str_rpartition (typeIs_str _ _ _) PySem.F.entry_str_rpartition (PySem.F.args_str_rpartition_2 _ _) (meets_str_rpartition _ _ _ _ rfl (by rw [sl, szEq]; omega)) ?_
          rw [oc]
          cases hp : lastC c 0 z with
          | none =>
            have e2 : rpartT z c = [[], [], z] := by unfold rpartT; rw [hp]
            exact fin [.str Str.empty s.toks, .str Str.empty s.toks, .str ⟨z.toArray⟩ t] _ (by rw [e2]; exact .cons ⟨_, rfl⟩ (.cons ⟨_, rfl⟩ (.cons ⟨_, rfl⟩ .nil)))
          | some i =>
            have e2 : rpartT z c = [z.take i, [c], z.drop (i + 1)] := by unfold rpartT; rw [hp]
            have c1 : Builtin.Str.strSub ⟨z.toArray⟩ 0 i = ⟨(z.take i).toArray⟩ := by rw [sub_cut]; simp
            have c2 : Builtin.Str.strSub ⟨z.toArray⟩ (i + (⟨[c].toArray⟩ : Str).length) (⟨z.toArray⟩ : Str).length = ⟨(z.drop (i + 1)).toArray⟩ := by
              rw [sub_cut, sl]
              congr 2
              exact List.take_of_length_le (by rw [List.length_drop]; exact Nat.le_refl _)
            refine fin [.str (Builtin.Str.strSub ⟨z.toArray⟩ 0 i) s.toks, .str ⟨[c].toArray⟩ t', .str (Builtin.Str.strSub ⟨z.toArray⟩ (i + (⟨[c].toArray⟩ : Str).length) (⟨z.toArray⟩ : Str).length) (s.toks + 1)] _ ?_
            rw [e2, c1, c2]
            exact .cons ⟨_, rfl⟩ (.cons ⟨_, rfl⟩ (.cons ⟨_, rfl⟩ .nil))
        | [], p, _ => exact (show False from p).elim
        | _ :: _ :: _, p, _ => exact (show False from p).elim
      | _ => exact (show False from p).elim
    | _ => exact (show False from p).elim
  refine d_me (L2.pe_bm PySem.F.plainAttrs_str PySem.F.slot_str_rpartition PySem.F.type_str_rpartition mt ha (L2.pa_cons hb L2.pa_nil (by rw [hst]; rfl)) hbase (by rw [hst]; rfl) hline (by rw [hst]; rfl)) (str_ty fun d h h' z => ?_) (meOk_exc _) (fun x y H Q z => ⟨y, rfl, z⟩)
  cases d with
  | str y => cases z; exact ⟨rfl, y, rfl⟩
  | _ => cases z
theorem d_splm {a b c : Expr} {ca cb cc : CE} {x : Str} {apos cpos : Pos} (hx : x = "split") (ha : PE X a (tD X.K W (den F ca))) (hb : PE X b (tD X.K W (den F cb))) (hc : PE X c (tD X.K W (den F cc))) (hbase : attributeBase a x X.env (eval a X.env) = eval a X.env) (hline : (apos.endLine == cpos.line) = true)
    (hst : starEach [b, c] X.env = [(false, eval b X.env), (false, eval c X.env)]) (hst2 : starEach [c] X.env = [(false, eval c X.env)]) : PE X (.Call (.Attribute a x apos) [b, c] [] cpos) (tD X.K W (den F (.splm ca cb cc))) := by
  subst hx
  have mt : L2.MtR X "str.split" fun x ys H Q => ∃ (y z : V) (w : W1) (ρ : List Addr) (h : AH) (d e f : D), ys = [y, z] ∧ RepH X.K ρ h H ∧ RepV X.K ρ H d x ∧ RepV X.K ρ H e y ∧ RepV X.K ρ H f z ∧ PostV X.K w Q ρ H (splmD d e f h) := by
    rintro pins s σ H x vs v us Q I rx rv ⟨y, z, w, ρ, h, d, e, f, rfl, r, hd, he, hf, p⟩
    obtain ⟨u, u2, rfl, ru, ru2⟩ := L2.Vals.two rv
    cases d with
    | str z =>
      cases e with
      | str w' =>
        cases f with
        | int k =>
          cases hd
          cases he
          cases hf
          match w', p, ru with
          | [c], p, ru =>
            obtain ⟨t, rfl⟩ := rx
            obtain ⟨t', rfl⟩ := ru
            obtain ⟨t2, rfl⟩ := ru2
            have p : PostV X.K w Q ρ H (if (c < 256 ∧ z.length ≤ 1000000) ∧ 0 ≤ k ∧ k ≤ 1000000 then newL ((partsT z ((posC c 0 z).take k.toNat)).map .str) h else .bad) := p
            obtain ⟨⟨⟨hc, hl⟩, hk0, hk1⟩, p⟩ := PostV.ite p
            obtain ⟨hz, q⟩ := PostV.newL p r (rep_strs _)
            have fin : ∀ (its : List Value) (tk : Nat), Vals ((partsT z ((posC c 0 z).take k.toNat)).map fun x => V.str ⟨x.toArray⟩) its → EP X pins σ Q (.ref s.heap.objs.size) { s with heap := s.heap.push { cls := .type "list", data := .seq its.toArray }, toks := tk } := fun its tk hv =>
              ⟨.ref _, _, I.laid (t' := tk) (o := .lst _) (fun b ob q => Heap.get?_push_of_some _ q) (Nat.le_refl _) ⟨hz, _, 0, hv, Heap.get?_push_size _ rfl⟩, rfl, q _ (I.hok.fresh (Nat.le_refl _))⟩
            have e1 : (⟨[c].toArray⟩ : Str) = ⟨#[c]⟩ := rfl
            have kd := kind_one hc (⟨z.toArray⟩ : Str)
            have sl : (⟨z.toArray⟩ : Str).length = z.length := str_len z
            have lm : limitOf ⟨z.toArray⟩ k = k.toNat := if_neg (by omega)
            have oc : Builtin.Str.occurrences ⟨z.toArray⟩ ⟨#[c]⟩ 0 (⟨z.toArray⟩ : Str).length (limitOf ⟨z.toArray⟩ k) = (posC c 0 z).take k.toNat := by
              rw [sl, occ_pos, lm]
            have hk : (decide (k < -(2 ^ 63 : Int)) || decide (k ≥ 2 ^ 63)) = false := by
              rw [Bool.or_eq_false_iff, decide_eq_false_iff_not, decide_eq_false_iff_not]
              exact ⟨by omega, by omega⟩
            by_cases h0 : z = []
            · have h1 : (decide ((⟨z.toArray⟩ : Str).length < (⟨[c].toArray⟩ : Str).length) || decide (Builtin.Str.strKind ⟨z.toArray⟩ < Builtin.Str.strKind ⟨[c].toArray⟩)) = true := by
                rw [sl, h0]; rfl
              refine call_meets PySem.F.slot_str_split (typeIs_str _ _ _) PySem.F.entry_str_split (PySem.F.args_str_split_3 _ _ _) (meets_str_split_max_cannot_occur _ _ _ _ _ _ hk h1) ?_
              exact fin [Value.str ⟨z.toArray⟩ t] s.toks (by
                subst h0
                rw [show (posC c 0 []).take k.toNat = [] by show List.take _ [] = []; simp]
                exact .cons ⟨t, rfl⟩ .nil)
            · have hz1 : 1 ≤ z.length := by cases z with | nil => exact absurd rfl h0 | cons _ _ => simp
              have h1 : (decide ((⟨z.toArray⟩ : Str).length < (⟨[c].toArray⟩ : Str).length) || decide (Builtin.Str.strKind ⟨z.toArray⟩ < Builtin.Str.strKind ⟨[c].toArray⟩)) = false := by
                rw [sl, Bool.or_eq_false_iff, decide_eq_false_iff_not, decide_eq_false_iff_not]
                exact ⟨by show ¬ z.length < 1; omega, fun z => kd.mp z⟩
              cases hp : (posC c 0 z).take k.toNat with
              | nil =>
                refine call_meets PySem.F.slot_str_split (typeIs_str _ _ _) PySem.F.entry_str_split (PySem.F.args_str_split_3 _ _ _) (meets_str_split_max_not_found _ _ _ _ _ _ hk h1 rfl (by rw [e1, oc, hp]; rfl)) ?_
                refine fin [Value.str ⟨z.toArray⟩ t] s.toks ?_
                rw [hp, parts_nil]
                exact .cons ⟨t, rfl⟩ .nil
              | cons i r' =>
                have pb : Builtin.Str.partsBetween ⟨z.toArray⟩ (Builtin.Str.occurrences ⟨z.toArray⟩ ⟨[c].toArray⟩ 0 (⟨z.toArray⟩ : Str).length (limitOf ⟨z.toArray⟩ k)) (⟨[c].toArray⟩ : Str).length = (partsT z ((posC c 0 z).take k.toNat)).map fun p => ⟨p.toArray⟩ := by
                  rw [e1, oc]; exact parts_cut z _
                refine call_meets PySem.F.slot_str_split (typeIs_str _ _ _) PySem.F.entry_str_split (PySem.F.args_str_split_3 _ _ _) (meets_str_split_sep_max _ _ _ _ _ _ hk h1 rfl (by rw [e1, oc, hp]; rfl) (by rw [sl, szEq]; omega) (by rw [pb, List.length_map]; rw [List.length_map] at hz; exact hz)) ?_
                show EP X pins σ Q _ _
                rw [pb]
                exact fin _ _ (vals_strs s.toks _)
          | [], p, _ => exact (show False from p).elim
          | _ :: _ :: _, p, _ => exact (show False from p).elim
        | _ => exact (show False from p).elim
      | _ => exact (show False from p).elim
    | _ => exact (show False from p).elim
  refine PE.imp (L2.pe_bm PySem.F.plainAttrs_str PySem.F.slot_str_split PySem.F.type_str_split mt ha (L2.pa_cons hb (L2.pa_cons hc L2.pa_nil (by rw [hst2]; rfl)) (by rw [hst, hst2])) hbase (by rw [hst]; rfl) hline (by rw [hst, hst2]) (by rw [hst2]; rfl)) fun σ H Q t => ?_
  obtain ⟨ρ, env, h, s, r', p⟩ := t
  rw [den] at p
  refine ⟨ρ, env, h, s, r', Post.bind p fun ρ1 h1 d H1 e1 r1 q v hv => ?_⟩
  unfold M.bind at q
  cases z : meOk .split d h1 with
  | ok u h2 =>
    rw [z] at q
    have ty : h2 = h1 ∧ L2.tyV X.K "str" v H1 := by
      cases d with
      | str y => cases z; cases hv; exact ⟨rfl, rfl⟩
      | _ => cases z
    obtain ⟨rfl, ty⟩ := ty
    refine ⟨ty, ρ1, env, _, s.mono e1, r1, ?_⟩
    exact Post.bind q fun ρ2 h2 d2 H2 e2 r2 q2 w hw => ⟨ρ2, env, h2, (s.mono e1).mono e2, r2, Post.bind q2 fun ρ3 h3 d3 H3 e3 r3 q3 w3 hw3 => ⟨w, w3, _, ρ3, h3, d, d2, d3, rfl, r3, (hv.mono e2 _ _).mono e3 _ _, hw.mono e3 _ _, hw3, q3⟩⟩
  | exc c h2 => exact absurd z (meOk_exc _ _ _ _ _)
  | bad => rw [z] at q; exact False.elim q
end
end Fy
set_option Elab.async false
set_option linter.all false
set_option maxRecDepth 100000
set_option maxHeartbeats 4000000
namespace Fy
open PySem PySem.Spec PyProof.Rows
open L2 (V Hp HO VK TE TT TA TS TI Cx Inv RelV Vals SqL SqT Rd upd upd_same upd_ne PE PT PA PS PSs EP OpR CallR IxR MtR SlR PO TO PI PG PIE Turn FpOk Ends)
section
variable {X:Cx} {F:Nat→List D→M D} {W:WX}
theorem zfill_eq (z:Tx) (n:Int) (h0:0≤n) (hd:isDig z=true):Txt.zfill ⟨z.toArray⟩ n=⟨(List.replicate (n.toNat - z.length) 48++z).toArray⟩:=by
 unfold Txt.zfill
 rw [str_len]
 by_cases h:n≤(z.length:Int)
 ·rw [if_pos h,show n.toNat - z.length=0 by omega]; rfl
 ·rw [if_neg h]
  have key:zfilled ⟨z.toArray⟩ (n.toNat - z.length)=Builtin.Str.padded ⟨z.toArray⟩ (n.toNat - z.length) 0 48:=by
   unfold zfilled
   split
   ·rename_i e
    have e:z[0]?=some 43:=by simpa using e
    have:=List.all_eq_true.mp hd 43 (List.mem_of_getElem? e)
    cases of_decide_eq_true this
    omega
   ·rename_i e
    have e:z[0]?=some 45:=by simpa using e
    have:=List.all_eq_true.mp hd 45 (List.mem_of_getElem? e)
    cases of_decide_eq_true this
    omega
   ·rfl
  rw [key]
  unfold Builtin.Str.padded
  congr 1
  simp
theorem d_zfill {a b : Expr} {ca cb : CE} {x : Str} {apos cpos : Pos} (hx : x = "zfill") (ha : PE X a (tD X.K W (den F ca))) (hb : PE X b (tD X.K W (den F cb))) (hbase : attributeBase a x X.env (eval a X.env) = eval a X.env) (hline : (apos.endLine == cpos.line) = true)
    (hst : starEach [b] X.env = [(false, eval b X.env)]) : PE X (.Call (.Attribute a x apos) [b] [] cpos) (tD X.K W (den F (.me .zfill ca cb))) := by
  subst hx
  have mt : L2.MtR X "str.zfill" fun x ys H Q => ∃ y, ys = [y] ∧ rB X.K .zfill x y H Q := by
    rintro pins s σ H x ys v us Q I rx rv ⟨y, rfl, w, ρ, h, d, e, r, hd, he, p⟩
    obtain ⟨u, rfl, ru⟩ := L2.Vals.one rv
    cases d with
    | str z =>
      cases e with
      | int n =>
        cases hd
        cases he
        obtain ⟨⟨h1, h2, h3, h4⟩, p⟩ := PostV.ite (c := 0 ≤ n ∧ n ≤ 1000 ∧ isDig z = true ∧ z.length ≤ 1000) p
        obtain ⟨t, rfl⟩ := rx
        obtain ⟨t', rfl⟩ := ru
        refine PySem.SC.zfill ?_ fun t2 k => ?_
        · unfold PadOk fitsSsize
          rw [Bool.and_eq_true, Bool.not_eq_true', Bool.not_eq_true']
          exact ⟨by rw [decide_eq_false (by omega), decide_eq_false (by omega)]; rfl, decide_eq_false (by rw [szEq]; omega)⟩
        · rw [zfill_eq z n h1 h3]
          exact ⟨V.str ⟨(List.replicate (n.toNat - z.length) 48 ++ z : List Nat).toArray⟩, H, I.tok _, ⟨_, rfl⟩, PostV.now p r rfl⟩
      | _ => exact (show False from p).elim
    | _ => exact (show False from p).elim
  refine d_me (L2.pe_bm PySem.F.plainAttrs_str PySem.F.slot_str_zfill PySem.F.type_str_zfill mt ha (L2.pa_cons hb L2.pa_nil (by rw [hst]; rfl)) hbase (by rw [hst]; rfl) hline (by rw [hst]; rfl)) (fun ρ h d v H r hv h' z => ?_) (meOk_exc _) (fun x y H Q z => ⟨y, rfl, z⟩)
  cases d with
  | str y => cases z; cases hv; exact ⟨rfl, rfl⟩
  | _ => cases z
theorem strs_rep {K:PySem.W.Frag} {ρ:List Addr} {H:Hp}:∀ {ds:List D} {vs:List V} {us:List Value} {xs:List Tx},strsOf ds=some xs→RepL K ρ H ds vs→Vals vs us→∃ l:List (Str × Tok),us=strValues l∧l.map (·.1)=xs.map fun x=>⟨x.toArray⟩
 | [],_,_,_,e,h,r=>by
  cases e
  cases h
  cases r
  exact ⟨[],rfl,rfl⟩
 | d::ds,_,us,bs,e,⟨v,vs,hv,h1,h2⟩,r=>by
  subst hv
  cases d with
  | str b =>
   unfold strsOf at e
   cases q:strsOf ds with
   | none=>rw [q] at e; cases e
   | some cs =>
    rw [q] at e
    cases e
    cases h1
    cases r with
    | cons r1 r2 =>
     obtain ⟨t,rfl⟩:=r1
     obtain ⟨l,rfl,e2⟩:=strs_rep q h2 r2
     exact ⟨(⟨b.toArray⟩,t)::l,rfl,by rw [List.map_cons,List.map_cons,e2]⟩
  | _=>cases e
theorem join_eq (z:Tx):∀ xs:List Tx,Str.join ⟨z.toArray⟩ (xs.map fun x=>⟨x.toArray⟩)=⟨(joinT z xs).toArray⟩
 | []=>rfl
 | [x]=>rfl
 | x::y::r=>by
  have ih:=join_eq z (y::r)
  show (⟨x.toArray⟩:Str)++⟨z.toArray⟩++Str.join ⟨z.toArray⟩ ((y::r).map fun x=>⟨x.toArray⟩)=_
  rw [ih,str_app,str_app]
  rfl
theorem d_join {a b : Expr} {ca cb : CE} {x : Str} {apos cpos : Pos} (hx : x = "join") (ha : PE X a (tD X.K W (den F ca))) (hb : PE X b (tD X.K W (den F cb))) (hbase : attributeBase a x X.env (eval a X.env) = eval a X.env) (hline : (apos.endLine == cpos.line) = true)
    (hst : starEach [b] X.env = [(false, eval b X.env)]) : PE X (.Call (.Attribute a x apos) [b] [] cpos) (tD X.K W (den F (.me .join ca cb))) := by
  subst hx
  have mt : L2.MtR X "str.join" fun x ys H Q => ∃ y, ys = [y] ∧ rB X.K .join x y H Q := by
    rintro pins s σ H x ys v us Q I rx rv ⟨y, rfl, w, ρ, h, d, e, r, hd, he, p⟩
    obtain ⟨u, rfl, ru⟩ := L2.Vals.one rv
    cases d with
    | str z =>
      cases e with
      | ref i =>
        cases hd
        have p : PostV X.K w Q ρ H (match (getL h i).bind strsOf with | some xs => if joinN z xs ≤ 16777216 then .ok (.str (joinT z xs)) h else .bad | none => .bad) := p
        cases q : getL h i with
        | none => rw [q] at p; exact False.elim p
        | some ds =>
          rw [q] at p
          cases qs : strsOf ds with
          | none =>
            have p : PostV X.K w Q ρ H (match strsOf ds with | some xs => if joinN z xs ≤ 16777216 then .ok (.str (joinT z xs)) h else .bad | none => .bad) := p
            rw [qs] at p; exact False.elim p
          | some xs =>
            have p : PostV X.K w Q ρ H (match strsOf ds with | some xs => if joinN z xs ≤ 16777216 then .ok (.str (joinT z xs)) h else .bad | none => .bad) := p
            rw [qs] at p
            obtain ⟨hz, p⟩ := PostV.ite (c := joinN z xs ≤ 16777216) p
            obtain ⟨a', vs, rfl, h1, h2⟩ := r.seen q he
            cases ru
            obtain ⟨t, rfl⟩ := rx
            obtain ⟨its, rv', pl, _⟩ := I.list h1
            obtain ⟨l, rfl, el⟩ := strs_rep qs h2 rv'
            refine PySem.SC.join (l := l) (texts := xs.map fun x => ⟨x.toArray⟩) pl.isList el ?_ fun t2 k => ?_
            · unfold JoinOk
              rw [PySem.StrLaws.joinTotal, Bool.not_eq_true']
              refine decide_eq_false ?_
              rw [szEq, List.map_map, List.length_map, str_len]
              unfold joinN at hz
              have : (xs.map ((fun p : Str => p.length) ∘ fun x => (⟨x.toArray⟩ : Str))) = xs.map List.length := List.map_congr_left fun x _ => str_len x
              rw [this]
              omega
            · have e : Txt.join ⟨z.toArray⟩ (xs.map fun x => ⟨x.toArray⟩) = ⟨(joinT z xs).toArray⟩ := by
                unfold Txt.join
                rw [PySem.StrLaws.glued_eq_join, join_eq]
              rw [e]
              exact ⟨.str ⟨(joinT z xs).toArray⟩, H, I.tok _, ⟨_, rfl⟩, PostV.now p r rfl⟩
      | _ => exact (show False from p).elim
    | _ => exact (show False from p).elim
  refine d_me (L2.pe_bm PySem.F.plainAttrs_str PySem.F.slot_str_join PySem.F.type_str_join mt ha (L2.pa_cons hb L2.pa_nil (by rw [hst]; rfl)) hbase (by rw [hst]; rfl) hline (by rw [hst]; rfl)) (fun ρ h d v H r hv h' z => ?_) (meOk_exc _) (fun x y H Q z => ⟨y, rfl, z⟩)
  cases d with
  | str y => cases z; cases hv; exact ⟨rfl, rfl⟩
  | _ => cases z
end
end Fy
set_option Elab.async false
set_option linter.all false
set_option maxRecDepth 100000
set_option maxHeartbeats 4000000
namespace Fy
open PySem PySem.Spec PyProof.Rows
open L2 (V Hp HO VK TE TT TA TS TI Cx Inv RelV Vals SqL SqT Rd upd upd_same upd_ne PE PT PA PS PSs EP OpR CallR IxR MtR SlR PO TO PI PG PIE Turn FpOk Ends thn)
section
variable {X:Cx} {F:Nat→List D→M D} {W:WX}
theorem d_fstr {a b : Expr} {ca cb : CE} {c : Str} {j : Nat} {p1 p2 p3 pos : Pos} (ha : PE X a (tD X.K W (den F ca))) (hb : PE X b (tD X.K W (den F cb))) :
    PE X (.JoinedStr [.FormattedValue a (-1) none p1, .Constant (.str c) j p2, .FormattedValue b (-1) none p3] pos) (tD X.K W (den F (.bi .add (.bi .add ca (.lit (.str c.cps.toList))) cb))) := by
  intro pins s σ H Q I t
  obtain ⟨ρ, env, h, st, r, p⟩ := t
  have p : PostV X.K (W.at σ) Q ρ H (M.bind (den F ca env) (fun x => M.bind (biD .add x (.str c.cps.toList)) fun y => M.bind (den F cb env) fun z => biD .add y z) h) := by
    rw [den, den, den] at p
    rw [bind_assoc] at p
    exact p
  have cc : (⟨c.cps.toList.toArray⟩ : Str) = c := by simp
  refine wpAny_JoinedStr ?_
  refine wpAny_FormattedValue_plain (thn (ha pins s σ H (fun v H1 => ∃ z : Tx, v = V.str ⟨z.toArray⟩ ∧ z.length + c.cps.toList.length ≤ 16777216 ∧ tD X.K W (fun e => M.bind (den F cb e) fun y => biD .add (.str (z ++ c.cps.toList)) y) σ H1 Q) I
    ⟨ρ, env, h, st, r, Post.bind p fun ρ1 h1 d H1 e1 r1 q v hv => ?_⟩) fun v s1 ⟨x, H1, I1, r1, q1⟩ => ?_)
  · cases d with
    | str z =>
      cases hv
      unfold M.bind at q
      rw [show biD .add (.str z) (.str c.cps.toList) h1 = (if z.length + c.cps.toList.length ≤ 16777216 then .ok (.str (z ++ c.cps.toList)) h1 else .bad) from rfl] at q
      by_cases hz : z.length + c.cps.toList.length ≤ 16777216
      · rw [if_pos hz] at q
        exact ⟨z, rfl, hz, ρ1, env, h1, st.mono e1, r1, q⟩
      · rw [if_neg hz] at q; exact False.elim q
    | _ => exact (show False from q).elim
  · obtain ⟨z, rfl, hz, t2⟩ := q1
    obtain ⟨t, rfl⟩ := r1
    have key : ∀ t' s', Inv X pins σ H1 s' → ∃ y u, Value.str ⟨z.toArray⟩ t' = .str y u ∧ (Str.empty ++ y).length ≤ sizeLine ∧ Joins (model X.prog X.w) X.A X.xe (evalEach [.Constant (.str c) j p2, .FormattedValue b (-1) none p3] X.env) (Str.empty ++ y) (fun out s₁ => out.length ≤ sizeLine ∧ EP X pins σ Q (.str out s₁.toks) { s₁ with toks := s₁.toks + 1 }) s' := by
      intro t' s' I'
      have e0 : Str.empty ++ (⟨z.toArray⟩ : Str) = ⟨z.toArray⟩ := str_app [] z
      refine ⟨⟨z.toArray⟩, t', rfl, by rw [e0, str_len, szEq]; omega, ?_⟩
      rw [e0]
      refine thn (L2.pe_str (X := X) (x := c) (j := j) (pos := p2) pins s' σ H1 (fun v H' => v = V.str c ∧ H' = H1) I' ⟨rfl, rfl⟩) fun v s2 ⟨x, H2, I2, r2, ex, eh⟩ => ?_
      subst ex eh
      obtain ⟨u, rfl⟩ := r2
      have e1 : (⟨z.toArray⟩ : Str) ++ c = ⟨(z ++ c.cps.toList).toArray⟩ := by
        conv => lhs; rw [← cc]
        exact str_app z c.cps.toList
      refine ⟨c, u, rfl, by rw [e1, str_len, List.length_append, szEq]; exact hz, ?_⟩
      rw [e1]
      obtain ⟨ρ2, env2, h2, st2, rr2, pp2⟩ := t2
      refine wpAny_FormattedValue_plain (thn (hb pins s2 σ H2 (fun v H3 => ∃ y : Tx, v = V.str ⟨y.toArray⟩ ∧ (z ++ c.cps.toList).length + y.length ≤ 16777216 ∧ Q (.str ⟨(z ++ c.cps.toList ++ y).toArray⟩) H3) I2
        ⟨ρ2, env2, h2, st2, rr2, Post.bind pp2 fun ρ3 h3 d H3 e3 r3 q v hv => ?_⟩) fun v s3 ⟨x, H3, I3, r3, q3⟩ => ?_)
      · cases d with
        | str y =>
          cases hv
          have q : PostV X.K (W.at σ) Q ρ3 H3 (if (z ++ c.cps.toList).length + y.length ≤ 16777216 then .ok (.str (z ++ c.cps.toList ++ y)) h3 else .bad) := q
          obtain ⟨hz2, q⟩ := PostV.ite q
          exact ⟨y, rfl, hz2, q.now r3 rfl⟩
        | _ => exact (show False from q).elim
      · obtain ⟨y, rfl, hz2, qq⟩ := q3
        obtain ⟨t3, rfl⟩ := r3
        have last : ∀ t4 s4, Inv X pins σ H3 s4 → ∃ y' u', Value.str ⟨y.toArray⟩ t4 = .str y' u' ∧ ((⟨(z ++ c.cps.toList).toArray⟩ : Str) ++ y').length ≤ sizeLine ∧ Joins (model X.prog X.w) X.A X.xe (evalEach [] X.env) (⟨(z ++ c.cps.toList).toArray⟩ ++ y') (fun out s₁ => out.length ≤ sizeLine ∧ EP X pins σ Q (.str out s₁.toks) { s₁ with toks := s₁.toks + 1 }) s4 := by
          intro t4 s4 I4
          have e2 : (⟨(z ++ c.cps.toList).toArray⟩ : Str) ++ ⟨y.toArray⟩ = ⟨(z ++ c.cps.toList ++ y).toArray⟩ := str_app _ _
          have hl : (⟨(z ++ c.cps.toList ++ y).toArray⟩ : Str).length ≤ sizeLine := by rw [str_len, List.length_append, szEq]; exact hz2
          refine ⟨⟨y.toArray⟩, t4, rfl, by rw [e2]; exact hl, ?_⟩
          rw [e2]
          exact ⟨hl, .str _, H3, I4.tok _, ⟨_, rfl⟩, qq⟩
        exact wpAny_formatField_str (last _ _ I3) (last _ _ (I3.tok _)) (by rw [str_len, szEq]; omega)
    exact wpAny_formatField_str (key _ _ I1) (key _ _ (I1.tok _)) (by rw [str_len, szEq]; omega)
end
end Fy
set_option Elab.async false
set_option linter.all false
set_option maxRecDepth 100000
set_option maxHeartbeats 4000000
namespace Fy
open PySem PySem.Spec PyProof.Rows
open L2 (V Hp HO VK TE TT TA TS TI Cx Inv RelV Vals SqL SqT Rd upd upd_same upd_ne PE PT PA PS PSs EP OpR CallR IxR MtR SlR PO TO)
section
variable {X:Cx} {F:Nat→List D→M D} {W:WX}
end
end Fy
set_option Elab.async false
set_option linter.all false
set_option maxRecDepth 100000
set_option maxHeartbeats 4000000
namespace Fy
open PySem PySem.Spec PyProof.Rows
open L2 (V Hp HO VK TE TT TA TS TI Cx Inv RelV Vals SqL SqT Rd upd upd_same upd_ne PE PT PA PS PSs EP PI PG PIE Turn FpOk Ends Un HOk frs)
section
variable {prog:Program} {w:World} {A:Around} {R:Result→Shared→Prop} {s:Shared}
theorem compLoop_go {elt target iter : Expr} {ifs : List Expr} {scope : Scope} {pos : Pos} {it acc : Value} {env : PySem.Env} (I : Nat → Shared → Prop)
    (turn : ∀ n s, I n s → wpAny (model prog w) A (pyNext it) (fun r s₁ => match r with
      | none => R (.ok .next) s₁
      | some v => wpAny (model prog w) A (letOwnedTupleGo target it v) (fun _ s₁' => wpAny (model prog w) A (assign target env v) (fun _ s₂ =>
          wpAny (model prog w) A (forIn ifs true fun c r => if r = true then do let ok ← isTrue c env (eval c env); pure (ForInStep.yield ok) else pure (ForInStep.yield r)) (fun ok s₃ =>
            if ok = true then wpAny (model prog w) A (eval elt env) (fun x s₄ =>
              wpAny (model prog w) A (call (.builtin "list.append") [acc, x]) (fun _ s₅ => ∃ m, m < n ∧ I m s₅) (notedBy (model prog w) A env fun e s' => R (.error e) s') s₄) (notedBy (model prog w) A env fun e s' => R (.error e) s') s₃
            else ∃ m, m < n ∧ I m s₃) (notedBy (model prog w) A env fun e s' => R (.error e) s') s₂) (notedBy (model prog w) A env fun e s' => R (.error e) s') s₁') (notedBy (model prog w) A env fun e s' => R (.error e) s') s₁) (notedBy (model prog w) A env fun e s' => R (.error e) s') s)
    (n : Nat) (h : I n s) : codeAny (model prog w) A (.compLoop (.ListComp elt [⟨target, iter, ifs, 0⟩] scope pos) 0 it acc env) R s := by
  refine codeAny_loop rfl I (fun n s hI => ?_) n h
  show wpAny _ A ((compTurn (.ListComp elt [⟨target, iter, ifs, 0⟩] scope pos) 0 it acc env).onRaise (fun x => do noteFrame x env; theTreesLotGoes x)) _ _ s
  refine wpAny_noted ?_
  rw [compTurn_list]
  refine wpAny_bind (wpAny_standAt (wpAny_bind (wpAny_mono (turn n s hI) (fun r s₁ h₁ => ?_) fun _ _ h' => h')))
  cases r with
  | none => exact wpAny_pure h₁
  | some v =>
    refine wpAny_bind (wpAny_mono h₁ (fun _ s₁' h₁' => ?_) fun _ _ h' => h')
    refine wpAny_bind (wpAny_mono h₁' (fun _ s₂ h₂ => wpAny_bind (wpAny_mono h₂ (fun ok s₃ h₃ => ?_) fun _ _ h' => h')) fun _ _ h' => h')
    cases ok with
    | false => exact wpAny_pure ⟨rfl, h₃⟩
    | true =>
      exact wpAny_bind (wpAny_bind (wpAny_mono h₃ (fun x s₄ h₄ => wpAny_bind (wpAny_mono h₄ (fun _ s₅ h₅ => wpAny_pure (wpAny_pure ⟨rfl, h₅⟩)) fun _ _ h' => h')) fun _ _ h' => h'))
end
theorem closure_ok {env : PySem.Env} : ∀ (names : List (Str × NameKind)) (acc : List (Str × Addr)), (∀ y ∈ names, y.2 = .free → ∃ c, env.cells.lookup y.1 = some c) → (∀ y c, acc.lookup y = some c → env.cells.lookup y = some c) →
    ∃ cl, (forIn names acc fun (p : Str × NameKind) (r : List (Str × Addr)) => (do if (p.2 == NameKind.free) = true then (do let a ← cellOf env p.1; pure (ForInStep.yield ((p.1, a) :: r))) else pure (ForInStep.yield r) : Sem (ForInStep (List (Str × Addr))))) = (pure cl : Sem (List (Str × Addr))) ∧
      (∀ y c, cl.lookup y = some c → env.cells.lookup y = some c) ∧ (∀ y ∈ names, y.2 = .free → ∃ c, cl.lookup y.1 = some c) ∧ ∀ y c, acc.lookup y = some c → ∃ c, cl.lookup y = some c
  | [], acc, _, ha => ⟨acc, rfl, ha, fun _ h => absurd h (by simp), fun y c h => ⟨c, h⟩⟩
  | (n, k) :: r, acc, hn, ha => by
    by_cases hk : k = .free
    · subst hk
      obtain ⟨c, hc⟩ := hn (n, .free) (List.mem_cons_self ..) rfl
      have ha' : ∀ y d, ((n, c) :: acc).lookup y = some d → env.cells.lookup y = some d := fun y d h => by
        rw [List.lookup_cons] at h
        cases q : (y == n) with
        | true =>
          rw [q] at h
          cases h
          have : y = n := by simpa using q
          rw [this]
          exact hc
        | false => rw [q] at h; exact ha y d h
      obtain ⟨cl, h1, h2, h3, h4⟩ := closure_ok r ((n, c) :: acc) (fun y hy => hn y (List.mem_cons_of_mem _ hy)) ha'
      have hl : ((n, c) :: acc).lookup n = some c := by rw [List.lookup_cons]; simp
      refine ⟨cl, ?_, h2, fun y hy hf => ?_, fun y d hd => ?_⟩
      · rw [List.forIn_cons]
        have e : cellOf env n = pure c := by unfold cellOf; rw [hc]
        simp only [beq_self_eq_true, if_true, e]
        exact h1
      · rcases List.mem_cons.mp hy with rfl | hy
        · exact h4 n c hl
        · exact h3 y hy hf
      · by_cases q : y = n
        · subst q
          exact h4 y c hl
        · refine h4 y d ?_
          rw [List.lookup_cons]
          have : (y == n) = false := by simpa using q
          rw [this]
          exact hd
    · obtain ⟨cl, h1, h2, h3, h4⟩ := closure_ok r acc (fun y hy => hn y (List.mem_cons_of_mem _ hy)) ha
      refine ⟨cl, ?_, h2, fun y hy hf => ?_, h4⟩
      · rw [List.forIn_cons]
        have e : (k == NameKind.free) = false := by simpa using hk
        simp only [e, Bool.false_eq_true, if_false]
        exact h1
      · rcases List.mem_cons.mp hy with rfl | hy
        · exact absurd hf hk
        · exact h3 y hy hf
theorem closureFor_ok {env : PySem.Env} {scope : Scope} (hn : ∀ y ∈ scope.names, y.2 = .free → ∃ c, env.cells.lookup y.1 = some c) :
    ∃ cl, closureFor scope env = pure cl ∧ (∀ y c, cl.lookup y = some c → env.cells.lookup y = some c) ∧ ∀ y ∈ scope.names, y.2 = .free → ∃ c, cl.lookup y.1 = some c := by
  obtain ⟨cl, h1, h2, h3, _⟩ := closure_ok (env := env) scope.names [] hn (fun _ _ h => nomatch h)
  refine ⟨cl, ?_, h2, h3⟩
  exact (congrArg (fun t : Sem (List (Str × Addr)) => t >>= fun z => pure z) h1).trans rfl
end Fy
set_option Elab.async false
set_option linter.all false
set_option maxRecDepth 100000
set_option maxHeartbeats 4000000
namespace Fy
open PySem PySem.Spec PyProof.Rows
open L2 (V Hp HO VK TE TT TA TS TI Cx Inv RelV Vals SqL SqT Rd upd upd_same upd_ne PE PT PA PS PSs EP PI PG PIE Turn FpOk Ends Un HOk frs)
noncomputable abbrev noN:Str:=""
noncomputable def maskN (N:List Str) (x:Str):List Str:=N.map fun y=>if y=x then noN else y
theorem mask_len (N:List Str) (x:Str):(maskN N x).length=N.length:=by unfold maskN; simp
theorem mask_get {N:List Str} {x y:Str} {i:Nat} (h:(maskN N x)[i]?=some y):(N[i]?=some y∧y ≠ x) ∨ (N[i]?=some x∧y=noN):=by
 unfold maskN at h
 rw [List.getElem?_map] at h
 cases q:N[i]? with
 | none=>rw [q] at h; cases h
 | some z =>
  rw [q] at h
  have h:(if z=x then noN else z)=y:=Option.some.inj h
  by_cases e:z=x
  ·rw [if_pos e] at h
   exact .inr ⟨by rw [e],h.symm⟩
  ·rw [if_neg e] at h
   exact .inl ⟨by rw [h],h ▸ e⟩
theorem mask_nd {N:List Str} {x:Str} (nd:N.Nodup) (h1:x ≠ noN) (h2:x ∈ N→noN ∉ N):(maskN N x++[x]).Nodup:=by
 have inj:∀ a ∈ N,∀ b ∈ N,(if a=x then noN else a)=(if b=x then noN else b)→a=b:=fun a ha b hb e=>by
  by_cases ea:a=x
  ·by_cases eb:b=x
   ·rw [ea,eb]
   ·rw [if_pos ea,if_neg eb] at e
    exact absurd (e ▸ hb) (h2 (ea ▸ ha))
  ·by_cases eb:b=x
   ·rw [if_neg ea,if_pos eb] at e
    exact absurd (e ▸ ha) (h2 (eb ▸ hb))
   ·rw [if_neg ea,if_neg eb] at e
    exact e
 rw [List.nodup_append]
 refine ⟨?_,by simp,fun a ha b hb z=>?_⟩
 ·unfold maskN
  clear h1 h2
  induction N with
  | nil=>simp
  | cons c r ih =>
   rw [List.nodup_cons] at nd
   rw [List.map_cons,List.nodup_cons]
   refine ⟨fun hm=>?_,ih nd.2 fun a ha b hb=>inj a (List.mem_cons_of_mem _ ha) b (List.mem_cons_of_mem _ hb)⟩
   obtain ⟨d,hd,e⟩:=List.mem_map.mp hm
   have:=inj d (List.mem_cons_of_mem _ hd) c (List.mem_cons_self ..) e
   exact nd.1 (this ▸ hd)
 ·rw [List.mem_singleton.mp hb] at z
  subst z
  unfold maskN at ha
  obtain ⟨d,hd,e⟩:=List.mem_map.mp ha
  have e:(if d=a then noN else d)=a:=e
  by_cases q:d=a
  ·rw [if_pos q] at e; exact h1 e.symm
  ·rw [if_neg q] at e; exact q e
noncomputable def cxC (X:Cx) (x:Str) (scope:Scope) (cl:List (Str × Addr)) (C:Addr) (s3:Shared) (H3:Hp) (fp:List Addr) (E:Value→Shared→Prop):Cx :=
 { X with N:=maskN X.N x++[x],s₀:=s3,H₀:=H3,env:=compEnvC scope cl C X.env,outer:=X.stack,ex:=fp,fn:=fun _=>false,pn:=[],xe:=E }
structure CompOk (X:Cx) (x:Str) (scope:Scope):Prop where
 kind:scope.kind=.function
 nocell:∀ y ∈ scope.names,y.2 ≠ .cell
 loc:∀ y ∈ scope.names,y.2=.local→scope.names.lookup y.1=some .local
 own:scope.names.lookup x=some .local
 free:∀ y ∈ scope.names,y.2=.free→X.env.kindOf y.1=some .cell ∨ X.env.kindOf y.1=some .free
 new:x ≠ noN
 hole:x ∈ X.N→noN ∉ X.N∧scope.names.lookup noN=none
 others:∀ y,y ≠ x→scope.names.lookup y=some .local→y ∈ X.N→False
section
variable {X:Cx} {x:Str} {scope:Scope} {cl:List (Str × Addr)} {pins:List (Addr × Obj)} {σ:L2.St} {H:Hp} {s:Shared} {fp:List Addr}
theorem lookup_relab {env : PySem.Env} {y : Str} {k : NameKind} : ∀ {names : List (Str × NameKind)}, (names.map fun (n, k) => if (k == NameKind.free && env.scope.kind == .function && env.kindOf n == some .cell) then (n, NameKind.cell) else (n, k)).lookup y = some k →
    names.lookup y = some k ∨ (names.lookup y = some .free ∧ k = .cell)
  | [], h => by simp at h
  | (n, k') :: r, h => by
    have ih := @lookup_relab env y k r
    have h : List.lookup y ((if (k' == NameKind.free && env.scope.kind == .function && env.kindOf n == some .cell) = true then (n, NameKind.cell) else (n, k')) :: (r.map fun (n, k) => if (k == NameKind.free && env.scope.kind == .function && env.kindOf n == some .cell) then (n, NameKind.cell) else (n, k))) = some k := h
    by_cases hc : (k' == NameKind.free && env.scope.kind == .function && env.kindOf n == some .cell) = true
    · rw [if_pos hc, List.lookup_cons] at h
      rw [List.lookup_cons]
      cases q : (y == n) with
      | true =>
        rw [q] at h
        cases h
        have : k' = .free := by
          simp only [Bool.and_eq_true] at hc
          simpa using hc.1.1
        subst this
        exact .inr ⟨rfl, rfl⟩
      | false => rw [q] at h; exact ih h
    · rw [if_neg hc, List.lookup_cons] at h
      rw [List.lookup_cons]
      cases q : (y == n) with
      | true => rw [q] at h; exact .inl h
      | false => rw [q] at h; exact ih h
theorem mem_lookup {names:List (Str × NameKind)} {y:Str} {k:NameKind} (h:names.lookup y=some k):(y,k) ∈ names:=PySem.mem_of_lookup h
theorem CompOk.vis (C:CompOk X x scope) {y:Str} (hy:y ∈ X.N) (hne:y ≠ x) (hv:L2.Vis (relabel scope X.env) y):(scope.names.lookup y=some .free)∧((relabel scope X.env).names.lookup y=some .cell ∨ (relabel scope X.env).names.lookup y=some .free):=by
 rcases hv with h | h | h
 ·rcases lookup_relab h with z | ⟨_,z⟩
  ·exact (C.others y hne z hy).elim
  ·cases z
 ·rcases lookup_relab h with z | ⟨z,_⟩
  ·exact absurd rfl (C.nocell _ (mem_lookup z))
  ·exact ⟨z,.inl h⟩
 ·rcases lookup_relab h with z | ⟨z,w⟩
  ·exact ⟨z,.inr h⟩
  ·cases w
theorem cxC_ok {C : Addr} {E : Value → Shared → Prop} (K : CompOk X x scope) (I : Inv X pins σ H s) (hC : C = s.heap.objs.size) (hcl : ∀ y c, cl.lookup y = some c → X.env.cells.lookup y = some c) (hfr : ∀ y ∈ scope.names, y.2 = .free → ∃ c, cl.lookup y.1 = some c)
    (hfp : ∀ b ∈ fp, FpOk X pins H b) (hlt : ∀ b ∈ fp, b < s.heap.objs.size) : (cxC X x scope cl C s H fp E).Ok where
  mod := I.mod
  kind := K.kind
  glob := I.ok.glob
  blt := I.ok.blt
  above := by rw [hC]; exact Nat.le_refl _
  inj := fun y z c h1 h2 => I.ok.inj y z c (hcl y c h1) (hcl z c h2)
  has := fun y hy => by
    have hy : (relabel scope X.env).names.lookup y = some .cell ∨ (relabel scope X.env).names.lookup y = some .free := hy
    have : scope.names.lookup y = some .free := by
      rcases hy with h | h
      · rcases lookup_relab h with z | ⟨z, _⟩
        · exact absurd rfl (K.nocell _ (mem_lookup z))
        · exact z
      · rcases lookup_relab h with z | ⟨_, w⟩
        · exact z
        · cases w
    exact hfr _ (mem_lookup this) rfl
  cab := fun y c h => by cases h
  hd := I.ok.hd
  frames := I.ok.frames
  stk := .inl rfl
  exf := fun b hb => ⟨fun z => by have := hlt b hb; rw [show b = C from z, hC] at this; exact absurd this (Nat.lt_irrefl _), fun y c h => (hfp b hb).2.2.2.2.1 y c (hcl y c h)⟩
  bs := I.bs
  bsz := Nat.le_trans I.ok.bsz I.sz
  noex := fun b o e hb => by
    obtain ⟨_, _, _, f3, _⟩ := hfp b hb
    rcases f3 with z | z
    · exact I.ok.noex b o e z
    · exact absurd (Nat.lt_of_lt_of_le (Heap.lt_size e) (Nat.le_trans I.ok.bsz z)) (Nat.lt_irrefl _)
  exfs := fun b hb z => by
    obtain ⟨_, f1, f2, _⟩ := hfp b hb
    rcases List.mem_cons.mp (I.stkSub b z) with q | q
    · exact f1 q
    · exact f2 q
  funs := I.stack
  frf := I.stkFree
theorem cxC_inv {C : Addr} {E : Value → Shared → Prop} {h1 : Heap} {tk : Nat} (K : CompOk X x scope) (I : Inv X pins σ H s) (hC : C = s.heap.objs.size) (hcl : ∀ y c, cl.lookup y = some c → X.env.cells.lookup y = some c) (hfr : ∀ y ∈ scope.names, y.2 = .free → ∃ c, cl.lookup y.1 = some c)
    (hfp : ∀ b ∈ fp, FpOk X pins H b) (hlt : ∀ b ∈ fp, b < s.heap.objs.size) (hns : h1.Ns C fun _ => none) (old : ∀ b o, s.heap.get? b = some o → h1.get? b = some o) :
    Inv (cxC X x scope cl C s H fp E) [] (σ ++ [none]) H { s with heap := h1, toks := tk } := by
  have ok : (cxC X x scope cl C s H fp E).Ok := cxC_ok K I hC hcl hfr hfp hlt
  have fC : H C = none := I.hok.fresh (by rw [hC]; exact Nat.le_refl _)
  refine ⟨ok, rfl, I.bare, Un.kept old, ⟨_, hns, fun i y v e1 e2 e3 => ?_⟩, fun y c h => ?_, fC, fun y c h => I.freeC y c (hcl y c h), fun p hp => absurd hp (by show p ∉ ([] : List (Addr × Obj)) ++ []; simp), I.hok.kept old, ?_⟩
  · have e1 : (maskN X.N x ++ [x])[i]? = some y := e1
    by_cases hi : i < σ.length
    · rw [List.getElem?_append_left hi] at e2
      rw [List.getElem?_append_left (by rw [mask_len, ← I.len]; exact hi)] at e1
      rcases mask_get e1 with ⟨e1, hne⟩ | ⟨e9, rfl⟩
      rotate_left
      · exfalso
        have hz := (K.hole (List.mem_of_getElem? e9)).2
        rcases e3 with z | z | z
        · rcases lookup_relab z with w | ⟨w, _⟩ <;> (rw [hz] at w; cases w)
        · rcases lookup_relab z with w | ⟨w, _⟩ <;> (rw [hz] at w; cases w)
        · rcases lookup_relab z with w | ⟨w, _⟩ <;> (rw [hz] at w; cases w)
      obtain ⟨hf, hk⟩ := K.vis (List.mem_of_getElem? e1) hne e3
      have ho := K.free _ (mem_lookup hf) rfl
      obtain ⟨m, hn, hl⟩ := I.loc
      have vo : L2.Vis X.env.scope y := by
        rcases ho with z | z
        · exact .inr (.inl z)
        · exact .inr (.inr z)
      obtain ⟨u, r, l⟩ := hl i y v e1 e2 vo
      refine ⟨u, r, .inr ⟨hk, ?_⟩⟩
      rcases l with ⟨hk', _⟩ | ⟨_, c, hc, o, hoc, hd⟩
      · rcases ho with z | z
        · have z : X.env.kindOf y = some .cell := z
          rw [hk'] at z; cases z
        · have z : X.env.kindOf y = some .free := z
          rw [hk'] at z; cases z
      · obtain ⟨c', hc'⟩ := hfr _ (mem_lookup hf) rfl
        have e := hcl _ _ hc'
        rw [hc] at e
        cases e
        exact ⟨c, hc', o, old _ _ hoc, hd⟩
    · rw [List.getElem?_append_right (Nat.le_of_not_lt hi)] at e2
      cases q : i - σ.length with
      | zero => rw [q] at e2; cases e2
      | succ n => rw [q] at e2; simp at e2
  · obtain ⟨v, o, ho, hd⟩ := I.cell y c (hcl y c h)
    exact ⟨v, o, old _ _ ho, hd⟩
  · show (σ ++ [none]).length = (maskN X.N x ++ [x]).length
    rw [List.length_append, List.length_append, mask_len, I.len]
    rfl
end
end Fy
set_option Elab.async false
set_option linter.all false
set_option maxRecDepth 100000
set_option maxHeartbeats 4000000
namespace Fy
open PySem PySem.Spec PyProof.Rows
open L2 (store_ok V Hp HO VK TE TT TA TS TI Cx Inv RelV Vals SqL SqT Rd upd upd_same upd_ne PE PT PA PS PSs EP TP PI PG PIE Turn FpOk Ends Un HOk frs thn)
noncomputable def optT:Option TT→TT
 | none=>fun _ H Q=>Q true H
 | some t=>t
noncomputable def tComp (K:PySem.W.Frag) (wi:TI) (tt:Option TT) (te:TE):TE:=fun σ H Q=>wi σ H fun J H1=>∀ d,H1 d=none→K.lookup d=none→∃ W:Nat→Nat→Hp→Prop,(∃ m,W 0 m (upd H1 d (.lst [])))∧∀ i m H,W i m H →
 (J.stop i H∧Q (.ref d) H) ∨ (J.go i H∧∀ x H',J.yld i H x H'→optT tt (σ++[some x]) H' fun b H2=>if b=true then te (σ++[some x]) H2 fun y H3=>∃ ys,H3 d=some (.lst ys)∧ys.length < sizeLine∧∃ m',m' < m∧W (i+1) m' (upd H3 d (.lst (ys++[y]))) else ∃ m',m' < m∧W (i+1) m' H2)
noncomputable def PTs (X:Cx) (ifs:List Expr):Option TT→Prop
 | none=>ifs=[]
 | some t=>∃ c,ifs=[c]∧PT X c t
section
variable {X:Cx} {x:Str} {scope:Scope} {pins:List (Addr × Obj)} {σ:L2.St} {H:Hp} {s:Shared} {elt iter:Expr} {ifs:List Expr} {px pos p:Pos} {wi:TI} {tt:Option TT} {te:TE} {Q:VK}
theorem tests_ok {t : Option TT} {Q' : Bool → Hp → Prop} (h : PTs X ifs t) (I : Inv X pins σ H s) (q : optT t σ H Q') :
    wpAny (model X.prog X.w) X.A (forIn ifs true fun c r => if r = true then do let ok ← isTrue c X.env (eval c X.env); pure (ForInStep.yield ok) else pure (ForInStep.yield r)) (TP X pins σ Q') X.xe s := by
  cases t with
  | none =>
    have h : ifs = [] := h
    subst h
    exact wpAny_tests_nil ⟨H, I, q⟩
  | some t =>
    obtain ⟨c, rfl, hc⟩ := h
    exact wpAny_tests_one (hc pins s σ H Q' I q)
theorem comp_core {use : Option (Value → Sem Unit)} {Qf : Value → Shared → Prop} (K : CompOk X x scope) (nd : X.N.Nodup) (hc : X.calm = true) (hi : PI X (.Name x px) iter wi) (hfs : ∀ x, foldedSetIterable iter X.env x = pure x)
    (hin : ∀ cl C s3 H3 fp E, PE (cxC X x scope cl C s3 H3 fp E) elt te ∧ PTs (cxC X x scope cl C s3 H3 fp E) ifs tt) (I : Inv X pins σ H s) (h : tComp X.K wi tt te σ H Q)
    (fin : ∀ (d C : Addr) (H' : Hp) (s' : Shared) (m : Str → Option Value), Inv X pins σ H' s' → s'.heap.Ns C m → FpOk X pins H' C → Q (.ref d) H' → compPost (model X.prog X.w) X.A X.xe use Qf (.ref d) C (.ok .next) s') :
    wpAny (model X.prog X.w) X.A (comprehension (.ListComp elt [⟨.Name x px, iter, ifs, 0⟩] scope pos) scope X.env p (newList []) false (eval iter X.env) use) Qf X.xe s := by
  obtain ⟨cl, hclos, hcl, hfr⟩ := closureFor_ok (env := X.env) (scope := scope) fun y hy hf => I.ok.has _ (K.free y hy hf)
  refine wpAny_comprehension_free (use := use) rfl hfs hclos K.kind K.loc (thn (hi pins s σ H _ I h) fun v s1 h1 => thn h1 fun itv s2 h2 => ?_)
  obtain ⟨it, fp, tn, J, H2, e, I2, T, st2, f2, hR⟩ := h2
  subst e
  refine wpAny_newObj_type ?_
  obtain ⟨W, ⟨m0, w0⟩, turn⟩ := hR s2.heap.objs.size I2.fresh (by
    cases q : X.K.lookup s2.heap.objs.size with
    | none => rfl
    | some o => exact absurd (Heap.lt_size (I2.kIn _ o q)) (Nat.lt_irrefl _))
  have I3 := I2.lnew (its := []) (ys := []) (t' := s2.toks) .nil (Nat.zero_le _)
  have fd : ∀ b ∈ fp, b < s2.heap.objs.size := fun b hb => let ⟨o, e, _⟩ := T.obj _ _ st2 b hb; Heap.lt_size e
  have f3 : ∀ b ∈ fp, FpOk X pins (upd H2 s2.heap.objs.size (.lst [])) b := fun b hb => ⟨by rw [upd_ne (Nat.ne_of_lt (fd b hb))]; exact (f2 b hb).1, (f2 b hb).2⟩
  have st3 : tn 0 (s2.heap.push { cls := .type "list", data := .seq ([] : List Value).toArray }) := T.keep _ _ _ st2 fun b _ o e => Heap.get?_push_of_some _ e
  generalize hd : s2.heap.objs.size = d at *
  generalize hH3 : upd H2 d (.lst []) = H3 at *
  generalize hs3 : ({ s2 with heap := s2.heap.push { cls := .type "list", data := .seq ([] : List Value).toArray }, toks := s2.toks } : Shared) = s3 at *
  have st3 : tn 0 s3.heap := by rw [← hs3]; exact st3
  have lt3 : ∀ b ∈ fp, b < s3.heap.objs.size := fun b hb => let ⟨o, e, _⟩ := T.obj _ _ st3 b hb; Heap.lt_size e
  refine wpAny_newFunctionEnv K.nocell (by intro y hy; simp at hy) (fun h1 hns hsb => ?_) K.kind
  have old : ∀ b o, s3.heap.get? b = some o → h1.get? b = some o := fun b o e => hsb.extBut b o (Nat.ne_of_lt (Heap.lt_size e)) (Heap.get?_push_of_some _ e)
  show codeAny _ _ (.compStart (.ListComp elt [⟨.Name x px, iter, ifs, 0⟩] scope pos) 0 (.ref it) (.ref d) (compEnvC scope cl s3.heap.objs.size X.env)) (compPost (model X.prog X.w) X.A X.xe use Qf (.ref d) s3.heap.objs.size) _
  generalize hC : s3.heap.objs.size = C at *
  have I4 := cxC_inv (E := notedBy (model X.prog X.w) X.A (compEnvC scope cl C X.env) fun e s' => compPost (model X.prog X.w) X.A X.xe use Qf (.ref d) C (.error e) s') (tk := s3.toks + ([] : List (Str × Value)).length) K I3 hC.symm hcl hfr f3 (by rw [hC]; exact lt3) hns old
  obtain ⟨hE, hT⟩ := hin cl C s3 H3 fp (notedBy (model X.prog X.w) X.A (compEnvC scope cl C X.env) fun e s' => compPost (model X.prog X.w) X.A X.xe use Qf (.ref d) C (.error e) s')
  generalize hX : cxC X x scope cl C s3 H3 fp (notedBy (model X.prog X.w) X.A (compEnvC scope cl C X.env) fun e s' => compPost (model X.prog X.w) X.A X.xe use Qf (.ref d) C (.error e) s') = X' at I4 hE hT
  have pX : X'.prog = X.prog := by rw [← hX]; rfl
  have wX : X'.w = X.w := by rw [← hX]; rfl
  have kX : X'.K = X.K := by rw [← hX]; rfl
  have aX : X'.A = X.A := by rw [← hX]; rfl
  have cX : X'.calm = true := by rw [← hX]; exact hc
  have eX : X'.env = compEnvC scope cl C X.env := by rw [← hX]; rfl
  have xX : X'.xe = notedBy (model X.prog X.w) X.A (compEnvC scope cl C X.env) fun e s' => compPost (model X.prog X.w) X.A X.xe use Qf (.ref d) C (.error e) s' := by rw [← hX]; rfl
  have nX : X'.N = maskN X.N x ++ [x] := by rw [← hX]; rfl
  have sX : X'.s₀ = s3 := by rw [← hX]; rfl
  have hX0 : X'.H₀ = H3 := by rw [← hX]; rfl
  have oX : X'.fs = frs X.stack := by rw [← hX]; rfl
  have exX : X'.ex = fp := by rw [← hX]; rfl
  have pnX : X'.pn = [] := by rw [← hX]; rfl
  have lX : X'.env.locals = C := by rw [eX]; rfl
  have slot : X'.N[σ.length]? = some x := by
    rw [nX, List.getElem?_append_right (by rw [mask_len, I3.len]; exact Nat.le_refl _), mask_len, I3.len]
    simp
  have ndX : X'.N.Nodup := by
    rw [nX]
    exact mask_nd nd K.new fun z => (K.hole z).1
  have locX : L2.Loc X'.env.scope x := by
    rw [eX]
    exact .inl (lookup_relabel_local K.own)
  have stat : ∀ {H' : Hp}, (∀ b ∈ fp, H' b = none) → ∀ b ∈ fp, FpOk X' [] H' b := fun hn b hb => by
    refine ⟨hn b hb, ?_, ?_, .inl (by rw [exX]; exact hb), fun y c h => ?_, fun p hp => ?_⟩
    · rw [lX]
      exact Nat.ne_of_lt (lt3 b hb)
    · rw [oX]
      intro z
      rcases List.mem_cons.mp (I3.stkSub b z) with q | q
      · exact (f3 b hb).2.1 q
      · exact (f3 b hb).2.2.1 q
    · rw [eX] at h
      exact (f3 b hb).2.2.2.2.1 y c (hcl y c h)
    · rw [pnX] at hp
      simp at hp
  have loop : ∀ s' : Shared, s' = { s3 with heap := h1, toks := s3.toks + ([] : List (Str × Value)).length } →
      codeAny (model X.prog X.w) X.A (.compLoop (.ListComp elt [⟨.Name x px, iter, ifs, 0⟩] scope pos) 0 (.ref it) (.ref d) (compEnvC scope cl C X.env)) (compPost (model X.prog X.w) X.A X.xe use Qf (.ref d) C) s' := by
    rintro s' rfl
    refine compLoop_go (fun n s' => ∃ i v H', Inv X' [] (σ ++ [v]) H' s' ∧ tn i s'.heap ∧ (∀ b ∈ fp, H' b = none) ∧ W i n H') ?_ m0 ⟨0, none, H3, I4, T.keep _ _ _ st3 fun b _ o e => old b o e, fun b hb => (f3 b hb).1, w0⟩
    rintro n s4 ⟨i, v4, H4, I4, st4, fr4, w4⟩
    rcases turn i n H4 w4 with ⟨stop, qn⟩ | ⟨go, step⟩
    · have td := T.done X' pX wX kX cX i [] s4 _ H4 (notedBy (model X.prog X.w) X.A (compEnvC scope cl C X.env) fun e s' => compPost (model X.prog X.w) X.A X.xe use Qf (.ref d) C (.error e) s') I4 (stat fr4) st4 stop
      rw [aX] at td
      refine thn td fun r s5 ⟨hr, I5⟩ => ?_
      subst hr
      obtain ⟨m, hn, _⟩ := I5.loc
      rw [lX] at hn
      have fC : H4 C = none := by rw [← lX]; exact I5.free
      have un : L2.Un (frs X.stack) fp H3 H4 s3.heap s5.heap := by
        have := I5.base
        rw [sX, hX0, oX, exX] at this
        exact this
      have IX : Inv X pins σ H4 s5 := I3.call' (by have := I5.os; rw [sX] at this; exact this) un (by have := I5.hok; rw [pX, wX] at this; exact this) I5.bare fun b hb => ⟨(f3 b hb).2.2.2.1, (f3 b hb).2.1, (f3 b hb).2.2.2.2.1, (f3 b hb).2.2.2.2.2⟩
      exact fin d C H4 s5 m IX hn (I3.fpOk (by rw [hC]; exact Nat.le_refl _) fC) qn
    · have ti := T.item X' pX wX kX cX i [] s4 _ H4 (notedBy (model X.prog X.w) X.A (compEnvC scope cl C X.env) fun e s' => compPost (model X.prog X.w) X.A X.xe use Qf (.ref d) C (.error e) s') I4 (stat fr4) st4 go
      rw [aX] at ti
      refine thn ti fun r s5 ⟨u, hr, h5⟩ => ?_
      subst hr
      refine thn h5 fun _ s6 ⟨xv, H6, I6, r6, y6, st6, fr6⟩ => ?_
      have I6' := I6.pinned (stat fr6) (T.obj _ _ st6)
      have as := wpAny_assign_Name (pos := px) (store_ok (M := model X.prog X.w) (A := X.A) (E := notedBy (model X.prog X.w) X.A (compEnvC scope cl C X.env) fun e s' => compPost (model X.prog X.w) X.A X.xe use Qf (.ref d) C (.error e) s') (Q := fun _ s7 => Inv X' ([] ++ L2.pinsAt fp s6.heap) (σ ++ [some xv]) H6 s7) I6' ndX slot locX r6 (fun s7 I7 => by
        have e : (σ ++ [v4]).set σ.length (some xv) = σ ++ [some xv] := by simp
        rw [e] at I7
        exact I7) (.inr (by rw [eX]; exact lookup_relabel_local K.own)))
      rw [eX] at as
      refine thn as fun _ s7 I7 => ?_
      have te := tests_ok hT I7 (step xv H6 y6)
      rw [pX, wX, aX, xX, eX] at te
      refine thn te fun ok s8 ⟨H8, I8, q8⟩ => ?_
      have again : ∀ {H9 : Hp} {s9 : Shared} {k : Nat}, Inv X' ([] ++ L2.pinsAt fp s6.heap) (σ ++ [some xv]) H9 s9 → W (i + 1) k H9 → ∃ i v H', Inv X' [] (σ ++ [v]) H' s9 ∧ tn i s9.heap ∧ (∀ b ∈ fp, H' b = none) ∧ W i k H' := fun {H9 s9 k} I9 w9 => by
        refine ⟨i + 1, some xv, H9, I9.unpinned, T.keep _ _ _ st6 fun b hb o e => (I9.pin (b, o) (List.mem_append_right _ (List.mem_append_right _ (L2.mem_pinsAt hb e)))).1, fun b hb => ?_, w9⟩
        obtain ⟨o, e, _⟩ := T.obj _ _ st6 b hb
        exact (I9.pin (b, o) (List.mem_append_right _ (List.mem_append_right _ (L2.mem_pinsAt hb e)))).2.1
      cases ok with
      | false =>
        obtain ⟨m', hm, w9⟩ := q8
        exact ⟨m', hm, again I8 w9⟩
      | true =>
        have ev := hE _ s8 _ H8 _ I8 q8
        rw [pX, wX, aX, xX, eX] at ev
        refine thn ev fun y s9 ⟨yv, H9, I9, r9, ys, hd9, hz, m', hm, w9⟩ => ?_
        have ap := L2.mt_append (X := X') _ s9 _ H9 (.ref d) [yv] (.ref d) [y] (fun _ H' => H' = upd H9 d (.lst (ys ++ [yv]))) I9 rfl (.cons r9 .nil) ⟨d, ys, yv, rfl, rfl, hd9, hz, rfl⟩
        rw [pX, wX, aX, xX] at ap
        refine thn ap fun z s10 ⟨_, H10, I10, _, e10⟩ => ?_
        subst e10
        exact ⟨m', hm, again I10 w9⟩
  exact codeAny_compStart_list (loop _ rfl) (T.self _ 0 _ _ _ (T.keep _ _ _ st3 fun b _ o e => old b o e) (loop _ rfl))
theorem SameBut_turned {C:Addr} {h':Heap} {H':Hp} {s':Shared} (I:Inv X pins σ H' s') (f:FpOk X pins H' C) (hs:Heap.SameBut C s'.heap h'):Inv X pins σ H' { s' with heap:=h' } :=
 I.turned (t':=s'.toks) (fun b o hb e=>hs.extBut b o hb e) f.1 f.2.1 f.2.2.2.1 f.2.2.2.2.1 f.2.2.2.2.2
theorem pe_comp (K : CompOk X x scope) (nd : X.N.Nodup) (hc : X.calm = true) (hi : PI X (.Name x px) iter wi) (hfs : ∀ x, foldedSetIterable iter X.env x = pure x)
    (hin : ∀ cl C s3 H3 fp E, PE (cxC X x scope cl C s3 H3 fp E) elt te ∧ PTs (cxC X x scope cl C s3 H3 fp E) ifs tt) : PE X (.ListComp elt [⟨.Name x px, iter, ifs, 0⟩] scope pos) (tComp X.K wi tt te) := by
  intro pins s σ H Q I h
  rw [eval_ListComp]
  refine comp_core (use := none) K nd hc hi hfs hin I h fun d C H' s' m IX hn f q => ?_
  exact ⟨m, hn, fun h' hs' => ⟨.ref d, H', SameBut_turned IX f hs', rfl, q⟩⟩
theorem ps_comp {y : Str} {i : Nat} {py spos : Pos} (K : CompOk X x scope) (nd : X.N.Nodup) (hc : X.calm = true) (hi : PI X (.Name x px) iter wi) (hfs : ∀ x, foldedSetIterable iter X.env x = pure x)
    (hin : ∀ cl C s3 H3 fp E, PE (cxC X x scope cl C s3 H3 fp E) elt te ∧ PTs (cxC X x scope cl C s3 H3 fp E) ifs tt) (hy : X.N[i]? = some y) (hk : X.env.scope.names.lookup y = some .local)
    (hsw : swapsWith (.ListComp elt [⟨.Name x px, iter, ifs, 0⟩] scope pos) (some (.Name y py)) spos.line X.env = pure true) :
    PS X (.Assign [.Name y py] (.ListComp elt [⟨.Name x px, iter, ifs, 0⟩] scope pos) spos) (fun D σ H => tComp X.K wi tt te σ H fun v H' => D.nx (σ.set i (some v)) H') := by
  intro pins s σ H D I h
  rw [exec_Assign_Name_used _ _ _ _ hsw]
  refine wpAny_bind (wpAny_standAt (wpAny_bind ?_))
  show wpAny _ X.A (do let _ ← comprehension (.ListComp elt [⟨.Name x px, iter, ifs, 0⟩] scope pos) scope X.env _ (newList []) false (eval iter X.env) (some (assign (.Name y py) X.env))) _ _ s
  refine wpAny_bind (wpAny_mono (comp_core (use := some (assign (.Name y py) X.env)) (Qf := fun _ s' => L2.SP X pins D .next s') K nd hc hi hfs hin I h fun d C H' s' m IX hn f q => ?_) (fun _ s' hq => wpAny_pure (wpAny_pure hq)) fun _ _ e => e)
  obtain ⟨oC, es, ep, hC, hr⟩ := id hn
  have dC : ∀ v, oC.data ≠ .cell v := fun v z => by rw [hr.1] at z; cases z
  have IP : Inv X (pins ++ [(C, oC)]) σ H' s' := IX.pins_of fun p hp => by
    rcases List.mem_append.mp hp with z | z
    · exact IX.pin p (List.mem_append_right _ z)
    · have e : p = (C, oC) := List.mem_singleton.mp z
      subst e
      exact ⟨hC, f.1, f.2.1, f.2.2.1, dC⟩
  show wpAny _ X.A (assign (.Name y py) X.env (.ref d)) _ _ _
  refine wpAny_assign_Name (store_ok IP nd hy (.inl hk) (v := .ref d) rfl (fun s7 I7 => ?_) (.inr hk))
  have k7 := (I7.pin (C, oC) (List.mem_append_right _ (List.mem_append_right _ (List.mem_singleton.mpr rfl)))).1
  exact ⟨m, ⟨oC, es, ep, k7, hr⟩, fun h' hs' => ⟨_, H', SameBut_turned I7.unpinned f hs', q⟩⟩
end
end Fy
set_option Elab.async false
set_option linter.all false
set_option maxRecDepth 100000
set_option maxHeartbeats 4000000
namespace Fy
open PySem PySem.Spec PyProof.Rows
open L2 (V Hp HO VK TE TT TA TS TI Cx Inv RelV Vals SqL SqT Rd upd upd_same upd_ne PE PT PA PS PSs EP TP PI PG PIE Turn FpOk Ends HOk frs thn)
noncomputable def ItRep (K:PySem.W.Frag) (ρ:List Addr) (H:Hp):It→L2.It→Prop
 | .row xs,J=>(∀ (i:Nat) ρ' H',Step ρ H ρ' H'→i < xs.length→J.go i H')∧(∀ (i:Nat) ρ' H' x H'',Step ρ H ρ' H'→i < xs.length→J.yld i H' x H''→H''=H'∧∃ d,xs[i]?=some d∧RepV K ρ' H' d x)∧∀ (i:Nat) ρ' H',Step ρ H ρ' H'→i=xs.length→J.stop i H'
 | .live k,J=>∃ a,ρ[k]?=some a∧J=L2.Itl K a
noncomputable def tDI (K:PySem.W.Frag) (W:WX) (m:Env→M It):TI:=fun σ H R=>∃ ρ env h,RepS K ρ H env σ∧RepH K ρ h H∧Post K (W.at σ) (fun ρ' H' r=>∀ J,ItRep K ρ' H' r J→R J H') ρ H (m env h)
theorem PI.imp {X:Cx} {tg e:Expr} {t t':TI} (h:PI X tg e t) (i:∀ σ H R,t' σ H R→t σ H R):PI X tg e t':=fun pins s σ H R I q=>h pins s σ H R I (i σ H R q)
theorem rep_range {K:PySem.W.Frag} {ρ:List Addr} {H:Hp} (lo:Int) (n:Nat):ItRep K ρ H (.row (rangeD lo n)) (L2.Itr lo n):=by
 have hl:(rangeD lo n).length=n:=by unfold rangeD; simp
 refine ⟨fun i ρ' H' _ hi=>by rw [hl] at hi; exact hi,fun i ρ' H' x H'' _ hi y=>?_,fun i ρ' H' _ hi=>by rw [hl] at hi; exact Nat.le_of_eq hi.symm⟩
 obtain ⟨rfl,rfl⟩:=y
 rw [hl] at hi
 refine ⟨rfl,.int (lo+i),?_,rfl⟩
 unfold rangeD
 rw [List.getElem?_map,List.getElem?_range hi]
 rfl
theorem rep_str {K:PySem.W.Frag} {ρ:List Addr} {H:Hp} (x:Tx):ItRep K ρ H (.row (x.map fun c=>D.str [c])) (Its ⟨x.toArray⟩):=by
 have hl:(x.map fun c=>D.str [c]).length=x.toArray.size:=by simp
 refine ⟨fun i ρ' H' _ hi=>by rw [hl] at hi; exact hi,fun i ρ' H' z H'' _ hi y=>?_,fun i ρ' H' _ hi=>by rw [hl] at hi; exact hi⟩
 obtain ⟨rfl,c,hc,rfl⟩:=y
 refine ⟨rfl,.str [c],?_,rfl⟩
 have hc:x.toArray[i]?=some c:=hc
 rw [List.getElem?_map]
 rw [List.getElem?_toArray] at hc
 rw [hc]
 rfl
theorem rep_tup {K:PySem.W.Frag} {ρ:List Addr} {H:Hp} {xs:List D} {vs:List V} {a:Addr} (ha:SqT K H a vs) (hx:RepL K ρ H xs vs):ItRep K ρ H (.row xs) (L2.Itt K a):=by
 have hl:=hx.length
 refine ⟨fun i ρ' H' e hi=>?_,fun i ρ' H' z H'' e hi y=>?_,fun i ρ' H' e hi=>⟨vs,e.sqt ha,by omega⟩⟩
 ·exact ⟨vs,vs[i]'(by omega),e.sqt ha,by simp [show i < vs.length by omega]⟩
 ·obtain ⟨rfl,y⟩:=y
  have q:xs[i]?=some xs[i]:=by simp [hi]
  obtain ⟨w,h1,h2⟩:=hx.get q
  have y':=y vs (e.sqt ha)
  rw [h1] at y'
  cases y'
  exact ⟨rfl,_,q,h2.mono e _ _⟩
section
variable {X:Cx} {F:Nat→List D→M D} {tg:Expr} {W:WX}
theorem di_of {e:Expr} {c:CE} (he:PE X e (tD X.K W (den F c))):PI X tg e (tDI X.K W (denI F (.of c))):=PI.imp (pi_any he) fun σ H Rr t=>by
 obtain ⟨ρ,env,h,s,r,p⟩:=t
 rw [denI] at p
 refine ⟨ρ,env,h,s,r,Post.bind p fun ρ1 h1 d H1 e1 r1 q v hv=>?_⟩
 cases d with
 | str x=>cases hv; exact .inr (.inr ⟨_,rfl,Post.ret (a:=It.row (x.map fun c=>D.str [c])) q r1 _ (rep_str x)⟩)
 | tup xs =>
  obtain ⟨a,vs,rfl,k1,k2⟩:=hv
  exact .inr (.inl ⟨a,rfl,⟨vs,k1⟩,Post.ret (a:=It.row xs) q r1 _ (rep_tup k1 k2)⟩)
 | ref i =>
  have q:Post X.K (W.at σ) _ ρ1 H1 (match getL h1 i with | some _=>R.ok (It.live i) h1 | none=>.bad):=q
  cases z:getL h1 i with
  | none=>rw [z] at q; exact False.elim q
  | some xs =>
   rw [z] at q
   obtain ⟨a,k1,rfl⟩:=hv
   obtain ⟨b,vs,k2,k3,_⟩:=r1.list z
   rw [k1] at k2
   cases k2
   exact .inl ⟨a,rfl,⟨vs,k3⟩,Post.ret (a:=It.live i) q r1 _ ⟨a,k1,rfl⟩⟩
 | _=>exact False.elim q
theorem di_rng1 {a : Expr} {p1 p2 : Pos} {c : CE} (hgl : L2.Gl X "range") (hm : X.mg "range" = none) (he : PE X a (tD X.K W (den F c))) (hst : starEach [a] X.env = [(false, eval a X.env)]) :
    PI X tg (.Call (.Name "range" p1) [a] [] p2) (tDI X.K W (denI F (.rng1 c))) := PI.imp (L2.pi_range1 hgl hm (L2.pa_cons he L2.pa_nil hst) hst) fun σ H R t => by
  obtain ⟨ρ, env, h, s, r, p⟩ := t
  rw [denI] at p
  refine ⟨ρ, env, h, s, r, Post.bind p fun ρ1 h1 d H1 e1 r1 q v hv => ?_⟩
  cases d with
  | int j =>
    cases hv
    obtain ⟨z, q⟩ := Post.when q
    exact ⟨j, rfl, by have := z.1; omega, by have := z.2; omega, Post.ret q r1 _ (rep_range 0 j.toNat)⟩
  | _ => exact False.elim q
theorem di_rng2 {a b : Expr} {p1 p2 : Pos} {c c' : CE} (hgl : L2.Gl X "range") (hm : X.mg "range" = none) (he : PE X a (tD X.K W (den F c))) (he' : PE X b (tD X.K W (den F c'))) (hst : starEach [a, b] X.env = [(false, eval a X.env), (false, eval b X.env)]) (hst2 : starEach [b] X.env = [(false, eval b X.env)]) :
    PI X tg (.Call (.Name "range" p1) [a, b] [] p2) (tDI X.K W (denI F (.rng2 c c'))) := PI.imp (L2.pi_range2 hgl hm (L2.pa_cons he (L2.pa_cons he' L2.pa_nil hst2) (by rw [hst, hst2])) hst hst2) fun σ H R t => by
  obtain ⟨ρ, env, h, s, r, p⟩ := t
  rw [denI] at p
  refine ⟨ρ, env, h, s, r, Post.bind p fun ρ1 h1 d H1 e1 r1 q v hv => ?_⟩
  refine ⟨ρ1, env, h1, s.mono e1, r1, Post.bind q fun ρ2 h2 d2 H2 e2 r2 q2 w hw => ?_⟩
  have hv := hv.mono e2 _ _
  cases d with
  | int i =>
    cases d2 with
    | int j =>
      cases hv
      cases hw
      obtain ⟨z, q⟩ := Post.when q2
      exact ⟨i, j, rfl, ⟨by have := z.1.1; omega, by have := z.1.2; omega, by have := z.2.1; omega, by have := z.2.2; omega⟩, Post.ret q r2 _ (rep_range i _)⟩
    | _ => exact False.elim q2
  | _ => exact False.elim q2
end
noncomputable def del (H:Hp) (d:Addr):Hp:=fun b=>if b=d then none else H b
theorem del_same {H:Hp} {d:Addr}:del H d d=none:=if_pos rfl
theorem del_ne {H:Hp} {d b:Addr} (h:b ≠ d):del H d b=H b:=if_neg h
theorem del_upd {H:Hp} {d:Addr} {o:HO}:del (upd H d o) d=del H d:=by
 funext b
 by_cases h:b=d
 ·rw [h,del_same,del_same]
 ·rw [del_ne h,del_ne h,upd_ne h]
theorem upd_del {H:Hp} {d:Addr} {o:HO} (h:H d=some o):upd (del H d) d o=H:=by
 funext b
 by_cases hb:b=d
 ·rw [hb,upd_same,h]
 ·rw [upd_ne hb,del_ne hb]
theorem del_none {H:Hp} {d:Addr} (h:H d=none):del H d=H:=by
 funext b
 by_cases hb:b=d
 ·rw [hb,del_same,h]
 ·rw [del_ne hb]
section
variable {K:PySem.W.Frag} {ρ:List Addr} {H:Hp} {d:Addr} {ys:List V}
theorem sqt_del (hd:H d=some (.lst ys)) {a:Addr} {vs:List V} (h:SqT K H a vs):SqT K (del H d) a vs:=by
 rcases h with (h | ⟨o,h⟩) | h
 ·exact .inl (.inl (by rw [del_ne (by rintro rfl; rw [hd] at h; cases h)]; exact h))
 ·exact .inl (.inr ⟨o,by rw [del_ne (by rintro rfl; rw [hd] at h; cases h)]; exact h⟩)
 ·exact .inr h
mutual
theorem RepV.del (hd:H d=some (.lst ys)):∀ (x:D) (v:V),RepV K ρ H x v→RepV K ρ (del H d) x v
 | .non,_,h=>h
 | .bl _,_,h=>h
 | .int _,_,h=>h
 | .str _,_,h=>h
 | .tup xs,v,⟨a,vs,h1,h2,h3⟩=>⟨a,vs,h1,sqt_del hd h2,RepL.del hd xs vs h3⟩
 | .ref _,_,h=>h
theorem RepL.del (hd:H d=some (.lst ys)):∀ (xs:List D) (vs:List V),RepL K ρ H xs vs→RepL K ρ (del H d) xs vs
 | [],_,h=>h
 | x::xs,_,⟨v,r,h1,h2,h3⟩=>⟨v,r,h1,RepV.del hd x v h2,RepL.del hd xs r h3⟩
end
theorem RepF.del {C:Addr} (hd:H d=some (.lst ys)):∀ (xs:List (Nat × D)) (vs:List (Str × V)),RepF K ρ H C xs vs→RepF K ρ (del H d) C xs vs
 | [],_,h=>h
 | x::xs,_,⟨v,r,h1,hb,hn,h2,h3⟩=>⟨v,r,h1,hb,hn,RepV.del hd _ v h2,RepF.del hd xs r h3⟩
theorem RepK.del (hd:H d=some (.lst ys)):∀ (xs:List (Ky × D)) (vs:List (L2.Key × V)),RepK K ρ H xs vs→RepK K ρ (del H d) xs vs
 | [],_,h=>h
 | x::xs,_,⟨v,r,h1,h2,h3⟩=>⟨v,r,h1,RepV.del hd _ v h2,RepK.del hd xs r h3⟩
theorem RepH.del {h:AH} (r:RepH K ρ h H) (hd:H d=some (.lst ys)) (hn:d ∉ ρ):RepH K ρ h (del H d):=by
 refine ⟨r.len,fun i o hi=>?_,r.inj⟩
 obtain ⟨a,h1,h2⟩:=r.obj i o hi
 have na:a ≠ d:=by
  rintro rfl
  exact hn (List.mem_of_getElem? h1)
 refine ⟨a,h1,?_⟩
 cases o with
 | lst xs =>
  obtain ⟨vs,k1,k2⟩:=h2
  exact ⟨vs,by rw [del_ne na]; exact k1,k2.del hd _ _⟩
 | rol xs =>
  obtain ⟨vs,k1,k2⟩:=h2
  refine ⟨vs,?_,k2.del hd _ _⟩
  rcases k1 with ⟨ob,k1⟩ | k1
  ·exact .inl ⟨ob,by rw [del_ne na]; exact k1⟩
  ·exact .inr k1
 | ins c fs =>
  obtain ⟨C,dx,vs,k1,kc,k2,k3⟩:=h2
  exact ⟨C,dx,vs,k1,kc,by rw [del_ne na]; exact k2,k3.del hd _ _⟩
 | dct kvs =>
  obtain ⟨vs,k1,k2⟩:=h2
  exact ⟨vs,by rw [del_ne na]; exact k1,k2.del hd _ _⟩
 | xc c =>
  obtain ⟨C,k1,k2⟩:=h2
  exact ⟨C,k1,by rw [del_ne na]; exact k2⟩
theorem Step.del {ρ':List Addr} {H':Hp} (e:Step ρ H ρ' H') (hn:d ∉ ρ) (hd:H d=some (.lst ys)):Step ρ (del H d) ρ' (del H' d)∧d ∉ ρ'∧H' d=some (.lst ys):=by
 refine ⟨⟨e.pre,fun a ha=>?_,fun a o h c=>?_⟩,fun z=>?_,e.keep _ _ hd (.inr hn)⟩
 ·rcases e.new a ha with z | z
  ·exact .inl z
  ·refine .inr ?_
   by_cases q:a=d
   ·rw [q]; exact del_same
   ·rw [del_ne q]; exact z
 ·have na:a ≠ d:=by
   rintro rfl
   rw [del_same] at h
   cases h
  rw [del_ne na] at h ⊢
  exact e.keep a o h c
 ·rcases e.new d z with q | q
  ·exact hn q
  ·rw [hd] at q; cases q
end
theorem ret_bind {α β:Type} (a:α) (f:α→M β):M.bind (M.ret a) f=f a:=rfl
theorem mapRow_cons (f:D→M (Option D)) (x:D) (r acc:List D):(M.bind (mapRow f (x::r)) fun rest=>newL (acc++rest))=M.bind (f x) fun y=>M.bind (mapRow f r) fun rest=>newL ((acc++y.toList)++rest):=by
 rw [mapRow,bind_assoc]
 congr 1
 funext y
 rw [bind_assoc]
 congr 1
 funext ys
 rw [ret_bind]
 cases y <;> simp
section
variable {K:PySem.W.Frag} {F:Nat→List D→M D} {Q:VK} {w:W1} {W:WX}
structure Mid (K:PySem.W.Frag) (ρ1:List Addr) (H1:Hp) (d:Addr) (ρ:List Addr) (h:AH) (acc:List D) (ys:List V) (H:Hp):Prop where
 st:Step ρ1 H1 ρ (del H d)
 nd:d ∉ ρ
 at':H d=some (.lst ys)
 rh:RepH K ρ h (del H d)
 rl:RepL K ρ (del H d) acc ys
theorem Mid.up {ρ1 ρ:List Addr} {H1 H:Hp} {d:Addr} {h:AH} {acc:List D} {ys:List V} (G0:Mid K ρ1 H1 d ρ h acc ys H):Step ρ (del H d) ρ H:=by
 have:=Step.fresh (ρ:=ρ) (H:=del H d) (p:=d) (o:=.lst ys) del_same
 rw [upd_del G0.at'] at this
 exact this
theorem Mid.rh' {ρ1 ρ:List Addr} {H1 H:Hp} {d:Addr} {h:AH} {acc:List D} {ys:List V} (G0:Mid K ρ1 H1 d ρ h acc ys H):RepH K ρ h H:=by
 have:=G0.rh.fresh (p:=d) (o:=.lst ys) del_same
 rw [upd_del G0.at'] at this
 exact this
theorem Mid.go {ρ1 ρ ρ2:List Addr} {H1 H H2:Hp} {d:Addr} {h h2:AH} {acc:List D} {ys:List V} (G0:Mid K ρ1 H1 d ρ h acc ys H) (e:Step ρ H ρ2 H2) (r:RepH K ρ2 h2 H2):Step ρ (del H d) ρ2 (del H2 d)∧Mid K ρ1 H1 d ρ2 h2 acc ys H2:=by
 obtain ⟨e1,e2,e3⟩:=e.del G0.nd G0.at'
 exact ⟨e1,G0.st.trans e1,e2,e3,r.del e3 e2,G0.rl.mono e1 _ _⟩
theorem Mid.add {ρ1 ρ:List Addr} {H1 H:Hp} {d:Addr} {h:AH} {acc:List D} {ys:List V} {y:D} {v:V} (G0:Mid K ρ1 H1 d ρ h acc ys H) (hv:RepV K ρ H y v):Mid K ρ1 H1 d ρ h (acc++[y]) (ys++[v]) (upd H d (.lst (ys++[v]))):=by
 refine ⟨by rw [del_upd]; exact G0.st,G0.nd,upd_same,by rw [del_upd]; exact G0.rh,?_⟩
 rw [del_upd]
 exact G0.rl.append ⟨v,[],rfl,hv.del G0.at' _ _,rfl⟩
theorem emit {ρ1 ρ : List Addr} {H1 H : Hp} {d : Addr} {h : AH} {acc : List D} {ys : List V} {m : Env → M D} {rest : List D → M D} {env : Env} {σ : L2.St} {W : Hp → Prop} (G0 : Mid K ρ1 H1 d ρ h acc ys H) (s : RepS K ρ H env σ) (hz : acc.length < 16777216)
    (p : PostV K w Q ρ (del H d) (M.bind (m env).calm (fun y => rest (acc ++ [y])) h))
    (hW : ∀ ρ' h' acc' ys' H', Mid K ρ1 H1 d ρ' h' acc' ys' H' → acc'.length = acc.length + 1 → PostV K w Q ρ' (del H' d) (rest acc' h') → W H') :
    tD K WF m σ H fun v H3 => ∃ ys, H3 d = some (.lst ys) ∧ ys.length < sizeLine ∧ W (upd H3 d (.lst (ys ++ [v]))) := by
  refine ⟨ρ, env, h, s, G0.rh', ?_⟩
  unfold M.bind M.calm at p
  cases q : m env h with
  | ok y h2 =>
    rw [q] at p
    intro ρ2 H2 e2 r2 v hv
    obtain ⟨e3, M2⟩ := G0.go e2 r2
    refine ⟨ys, M2.at', by rw [G0.rl.length, szEq]; exact hz, hW ρ2 h2 _ _ _ (M2.add hv) (by simp) ?_⟩
    rw [del_upd]
    exact Post.mono p e3
  | exc c h2 => rw [q] at p; exact False.elim p
  | bad => rw [q] at p; exact p
noncomputable def TurnOk (K:PySem.W.Frag) (f:Env→D→M (Option D)) (tt:Option TT) (te:TE):Prop :=
 ∀ (w:W1) (Q:VK) (ρ1 ρ:List Addr) (H1 H:Hp) (d:Addr) (h:AH) (acc:List D) (ys:List V) (rest:List D→M D) (env:Env) (σ:L2.St) (W:Hp→Prop) (x:D) (xv:V),Mid K ρ1 H1 d ρ h acc ys H→RepS K ρ H env σ→RepV K ρ H x xv→acc.length < 16777216 →
  PostV K w Q ρ (del H d) (M.bind (f env x) (fun y=>rest (acc++y.toList)) h) →
  (∀ ρ' h' acc' ys' H',Mid K ρ1 H1 d ρ' h' acc' ys' H'→acc'.length≤acc.length+1→PostV K w Q ρ' (del H' d) (rest acc' h')→W H') →
  optT tt (σ++[some xv]) H fun b H2=>if b=true then te (σ++[some xv]) H2 fun v H3=>∃ ys,H3 d=some (.lst ys)∧ys.length < sizeLine∧W (upd H3 d (.lst (ys++[v]))) else W H2
theorem RepS.snoc {ρ:List Addr} {H:Hp} {env:Env} {σ:L2.St} {x:D} {xv:V} (s:RepS K ρ H env σ) (hx:RepV K ρ H x xv):RepS K ρ H (env++[some x]) (σ++[some xv]):=by
 refine ⟨by simp [s.1],fun i e hi=>?_⟩
 by_cases hlt:i < env.length
 ·rw [List.getElem?_append_left hlt] at hi
  rw [List.getElem?_append_left (by rw [← s.1]; exact hlt)]
  exact s.2 i e hi
 ·rw [List.getElem?_append_right (Nat.le_of_not_lt hlt)] at hi
  rw [List.getElem?_append_right (by rw [← s.1]; exact Nat.le_of_not_lt hlt),← s.1]
  cases q:i - env.length with
  | zero =>
   rw [q] at hi
   cases hi
   exact ⟨xv,rfl,hx⟩
  | succ n=>rw [q] at hi; simp at hi
theorem turn_plain (m:Env→M D):TurnOk K (fun env x=>compF m env x) none (tD K WF m):=by
 intro w Q ρ1 ρ H1 H d h acc ys rest env σ W x xv G0 s hx hz p hW
 refine L2.iteT (B:=W H) (emit (rest:=rest) G0 (s.snoc hx) hz ?_ fun ρ' h' acc' ys' H' M' hl p'=>hW ρ' h' acc' ys' H' M' (Nat.le_of_eq hl) p')
 have e:(M.bind (compF m env x) fun y=>rest (acc++y.toList))=M.bind (m (env++[some x])).calm fun y=>rest (acc++[y]):=by
  unfold compF
  rw [bind_assoc]
  rfl
 rw [e] at p
 exact p
theorem turn_test (m:Env→M D) (c:Env→M Bool):TurnOk K (fun env x=>compIfF m c env x) (some (tDT K WF c)) (tD K WF m):=by
 intro w Q ρ1 ρ H1 H d h acc ys rest env σ W x xv G0 s hx hz p hW
 have p:PostV K w Q ρ (del H d) (M.bind (M.bind (c (env++[some x])).calm fun k=>if k then M.bind (m (env++[some x])).calm (fun y=>M.ret (some y)) else M.ret none) (fun y=>rest (acc++y.toList)) h):=p
 rw [bind_assoc] at p
 refine ⟨ρ,env++[some x],h,s.snoc hx,G0.rh',?_⟩
 unfold M.bind M.calm at p
 cases q:c (env++[some x]) h with
 | ok k h2 =>
  rw [q] at p
  intro ρ2 H2 e2 r2
  obtain ⟨e3,M2⟩:=G0.go e2 r2
  have p:=Post.mono p e3
  cases k with
  | true =>
   refine L2.iteT (emit (rest:=rest) M2 ((s.snoc hx).mono e2) hz ?_ fun ρ' h' acc' ys' H' M' hl p'=>hW ρ' h' acc' ys' H' M' (Nat.le_of_eq hl) p')
   have e:(M.bind (M.bind (m (env++[some x])).calm fun y=>M.ret (some y)) fun y=>rest (acc++y.toList))=M.bind (m (env++[some x])).calm fun y=>rest (acc++[y]):=by
    rw [bind_assoc]
    rfl
   have p':PostV K w Q ρ2 (del H2 d) (M.bind (M.bind (m (env++[some x])).calm fun y=>M.ret (some y)) (fun y=>rest (acc++y.toList)) h2):=p
   rw [e] at p'
   exact p'
  | false =>
   refine L2.iteF (hW ρ2 h2 acc ys H2 M2 (Nat.le_succ _) ?_)
   have p':PostV K w Q ρ2 (del H2 d) (rest (acc++[]) h2):=p
   rw [List.append_nil] at p'
   exact p'
 | exc _ h2=>rw [q] at p; exact False.elim p
 | bad=>rw [q] at p; exact p
theorem compI {f:Env→D→M (Option D)} {tt:Option TT} {te:TE} {mi:Env→M It} (ht:TurnOk K f tt te) {σ:L2.St} {H:Hp} (t:tD K W (fun env=>M.bind (mi env) fun r=>M.bind (mapIt (f env) r) newL) σ H Q):tComp K (tDI K W mi) tt te σ H Q:=by
 obtain ⟨ρ,env,h,s,r,p⟩:=t
 refine ⟨ρ,env,h,s,r,Post.bind p fun ρ1 h1 it H1 e1 r1 q J hJ d hd hK=>?_⟩
 have s1:=s.mono e1
 have nd:d ∉ ρ1:=fun z=>by
  obtain ⟨k,hk⟩:=List.getElem?_of_mem z
  have hlt:=(List.getElem?_eq_some_iff.mp hk).1
  obtain ⟨a,h2,h3⟩:=r1.obj k _ (List.getElem?_eq_getElem (by rw [← r1.len]; exact hlt))
  rw [hk] at h2
  cases h2
  generalize h1[k]'(by rw [← r1.len]; exact hlt)=o at h3
  cases o with
  | lst xs=>obtain ⟨vs,z1,_⟩:=h3; rw [hd] at z1; cases z1
  | rol xs =>
   obtain ⟨vs,z1,_⟩:=h3
   rcases z1 with ⟨ob,z1⟩ | ⟨ob,its,n,z1,_⟩
   ·rw [hd] at z1; cases z1
   ·rw [hK] at z1; cases z1
  | ins c fs=>obtain ⟨C,dx,vs,_,_,z1,_⟩:=h3; rw [hd] at z1; cases z1
  | dct kvs=>obtain ⟨vs,z1,_⟩:=h3; rw [hd] at z1; cases z1
  | xc c=>obtain ⟨C,_,z1⟩:=h3; rw [hd] at z1; cases z1
 have M0:Mid K ρ1 H1 d ρ1 h1 [] [] (upd H1 d (.lst [])):=⟨by rw [del_upd,del_none hd]; exact Step.refl _ _,nd,upd_same,by rw [del_upd,del_none hd]; exact r1,rfl⟩
 have fin:∀ {w:W1} {ρ' h' acc ys H'},Mid K ρ1 H1 d ρ' h' acc ys H'→PostV K w Q ρ' (del H' d) (newL (acc++[]) h')→Q (.ref d) H':=fun {w ρ' h' acc ys H'} G0 p=>by
  rw [List.append_nil] at p
  have q:=(PostV.newL p G0.rh G0.rl).2 d del_same
  rw [upd_del G0.at'] at q
  exact q
 cases it with
 | row xs =>
  obtain ⟨go,yl,sp⟩:=hJ
  have q:PostV K (W.at σ) Q ρ1 H1 (M.bind (M.when (xs.length < 16777216) (mapRow (f env) xs)) newL h1):=q
  have hz:xs.length < 16777216:=by
   unfold M.bind M.when at q
   by_cases z:xs.length < 16777216
   ·exact z
   ·rw [if_neg z] at q; exact False.elim q
  have q:PostV K (W.at σ) Q ρ1 H1 (M.bind (mapRow (f env) xs) (fun rest=>newL ([]++rest)) h1):=by
   unfold M.bind M.when at q
   rw [if_pos hz] at q
   exact q
  refine ⟨fun i m H'=>m=xs.length - i∧i≤xs.length∧∃ ρ' h' acc ys,Mid K ρ1 H1 d ρ' h' acc ys H'∧acc.length≤i∧PostV K (W.at σ) Q ρ' (del H' d) (M.bind (mapRow (f env) (xs.drop i)) (fun rest=>newL (acc++rest)) h'),⟨_,rfl,Nat.zero_le _,ρ1,h1,[],[],M0,Nat.le_refl _,by rw [del_upd,del_none hd]; exact q⟩,?_⟩
  rintro i m H' ⟨rfl,hi,ρ',h',acc,ys,G0,ha,p'⟩
  have up:Step ρ1 H1 ρ' H':=G0.st.trans G0.up
  by_cases hlt:i < xs.length
  ·refine .inr ⟨go i ρ' H' up hlt,fun x H'' y=>?_⟩
   obtain ⟨rfl,dx,hdx,hv⟩:=yl i ρ' H' x H'' up hlt y
   rw [List.drop_eq_getElem_cons hlt] at p'
   have ed:xs[i]=dx:=by
    rw [List.getElem?_eq_getElem hlt] at hdx
    exact Option.some.inj hdx
   rw [ed,mapRow_cons] at p'
   exact ht _ Q ρ1 ρ' H1 H'' d h' acc ys (fun a=>M.bind (mapRow (f env) (xs.drop (i+1))) fun rest=>newL (a++rest)) env σ (fun H3=>∃ m',m' < xs.length - i∧m'=xs.length - (i+1)∧i+1≤xs.length∧∃ ρ' h' acc ys,Mid K ρ1 H1 d ρ' h' acc ys H3∧acc.length≤i+1∧PostV K (W.at σ) Q ρ' (del H3 d) (M.bind (mapRow (f env) (xs.drop (i+1))) (fun rest=>newL (acc++rest)) h')) dx x G0 (s1.mono up) hv (by omega) p'
    fun ρ2 h2 acc2 ys2 H2 M2 hl2 p2=>⟨xs.length - (i+1),by omega,rfl,hlt,ρ2,h2,acc2,ys2,M2,by omega,p2⟩
  ·have e:i=xs.length:=by omega
   subst e
   rw [List.drop_length] at p'
   exact .inl ⟨sp _ ρ' H' up rfl,fin G0 p'⟩
 | live k =>
  obtain ⟨a,ha,rfl⟩:=hJ
  have q:PostV K (W.at σ) Q ρ1 H1 (M.bind (M.when (liveN h1 k < 16777216) (mapLive (f env) k (liveN h1 k) 0)) newL h1):=q
  have hz:liveN h1 k < 16777216:=by
   unfold M.bind M.when at q
   by_cases z:liveN h1 k < 16777216
   ·exact z
   ·rw [if_neg z] at q; exact False.elim q
  have q:PostV K (W.at σ) Q ρ1 H1 (M.bind (mapLive (f env) k (liveN h1 k) 0) (fun rest=>newL ([]++rest)) h1):=by
   unfold M.bind M.when at q
   rw [if_pos hz] at q
   exact q
  generalize liveN h1 k=n at hz q
  refine ⟨fun i m H'=>m+i=n∧∃ ρ' h' acc ys,Mid K ρ1 H1 d ρ' h' acc ys H'∧acc.length≤i∧PostV K (W.at σ) Q ρ' (del H' d) (M.bind (mapLive (f env) k m i) (fun rest=>newL (acc++rest)) h'),⟨n,rfl,ρ1,h1,[],[],M0,Nat.le_refl _,by rw [del_upd,del_none hd]; exact q⟩,?_⟩
  rintro i m H' ⟨hm,ρ',h',acc,ys,G0,hl,p'⟩
  have up:Step ρ1 H1 ρ' H':=G0.st.trans G0.up
  cases m with
  | zero=>exact False.elim p'
  | succ m =>
   have r':=G0.rh'
   cases qg:getL h' k with
   | none =>
    unfold M.bind mapLive at p'
    rw [qg] at p'
    exact False.elim p'
   | some xs =>
    obtain ⟨b,vs,h2,h3,h4⟩:=r'.list qg
    rw [pre_get up.pre ha] at h2
    cases h2
    cases qx:xs[i]? with
    | none =>
     refine .inl ⟨⟨vs,h3,?_⟩,fin (w:=W.at σ) G0 ?_⟩
     ·rw [h4.length]
      exact List.getElem?_eq_none_iff.mp qx
     ·unfold M.bind mapLive at p'
      simp only [qg,qx] at p'
      exact p'
    | some dx =>
     obtain ⟨w,hw,hv⟩:=h4.get qx
     refine .inr ⟨⟨vs,w,h3,hw⟩,fun x H'' y=>?_⟩
     obtain ⟨rfl,y⟩:=y
     have ew:=y vs h3
     rw [hw] at ew
     cases ew
     have e:M.bind (mapLive (f env) k (m+1) i) (fun rest=>newL (acc++rest)) h'=M.bind (f env dx) (fun y=>M.bind (mapLive (f env) k m (i+1)) fun rest=>newL ((acc++y.toList)++rest)) h':=by
      have e1:mapLive (f env) k (m+1) i h'=M.bind (f env dx) (fun y=>M.bind (mapLive (f env) k m (i+1)) fun ys=>M.ret (match y with | some y=>y::ys | none=>ys)) h':=by
       rw [mapLive]
       simp only [qg,qx] <;> rfl
      show R.bind (mapLive (f env) k (m+1) i h') _=_
      rw [e1]
      show M.bind (M.bind (f env dx) _) (fun rest=>newL (acc++rest)) h'=_
      rw [bind_assoc]
      congr 1
      funext y
      rw [bind_assoc]
      congr 1
      funext ys
      rw [ret_bind]
      cases y <;> simp
     rw [e] at p'
     exact ht _ Q ρ1 ρ' H1 _ d h' acc ys (fun a=>M.bind (mapLive (f env) k m (i+1)) fun rest=>newL (a++rest)) env σ (fun H3=>∃ m',m' < m+1∧m'+(i+1)=n∧∃ ρ' h' acc ys,Mid K ρ1 H1 d ρ' h' acc ys H3∧acc.length≤i+1∧PostV K (W.at σ) Q ρ' (del H3 d) (M.bind (mapLive (f env) k m' (i+1)) (fun rest=>newL (acc++rest)) h')) dx _ G0 (s1.mono up) hv (by omega) p'
      fun ρ2 h2 acc2 ys2 H2 M2 hl2 p2=>⟨m,Nat.lt_succ_self _,by omega,ρ2,h2,acc2,ys2,M2,by omega,p2⟩
end
end Fy
set_option Elab.async false
set_option linter.all false
set_option maxRecDepth 100000
set_option maxHeartbeats 4000000
namespace Fy
open PySem PySem.Spec PyProof.Rows
open L2 (V Hp HO VK XK TE TT TA TS TI Cx Inv RelV Vals SqL SqT Rd upd upd_same upd_ne PE PT PA PS PSs EP TP PI PG PIE Turn FpOk Ends HOk frs thn)
noncomputable def CXD (P:Program) (w:World) (ex:Nat→Option Addr):L2.CXT:=fun outer H s E e s' =>
 ∃ (a C:Addr) (c:Nat) (B:Heap) (a0:Value) (H':Hp),e=.ref a∧ex c=some C∧Heap.FlyingW B outer a (.ref C) a0 s'.heap∧HOk P w H' B ∧
  (∀ b o,s.heap.get? b=some o→b ∉ frs outer→∃ o',B.get? b=some o')∧L2.Un (frs outer) [] H H' s.heap s'.heap∧s'.os=s.os∧AllBare s'.gens∧E e (some c) H'
section
variable {fs:List Addr} {H H':Hp} {h0 h1 h' B:Heap} {l:List PySem.Env}
theorem un_via (u:L2.Un (frs l) [] H H' h0 h1) (hB:B.StaysIn h1) (cov:∀ b o,h0.get? b=some o→b ∉ frs l→∃ o',B.get? b=some o') (fr:h1.FunFrames B l) (hB':B.StaysIn h') (up:h1.UpToSlots h'):L2.Un (frs l) [] H H' h0 h' where
 keep:=fun b o e n hb hx=>by
  obtain ⟨o',e'⟩:=cov b o e hb
  have k1:=u.keep b o e n hb hx
  have k2:=hB b o' e'
  rw [k1] at k2
  cases k2
  exact hB' b o e'
 slot:=fun b o e n hb hx=>by
  obtain ⟨sl,k1⟩:=u.slot b o e n hb hx
  obtain ⟨_,o2,k2,k3⟩:=fr.mem hb
  rw [k1] at k2
  cases k2
  obtain ⟨sl',k4⟩:=up b _ k1 k3
  exact ⟨sl',k4⟩
 free:=u.free
 there:=fun b o e hx=>by
  by_cases hb:b ∈ frs l
  ·obtain ⟨_,o2,k2,k3⟩:=fr.mem hb
   obtain ⟨sl',k4⟩:=up b _ k2 k3
   exact ⟨_,k4⟩
  ·obtain ⟨o',e'⟩:=cov b o e hb
   exact ⟨o',hB' b o' e'⟩
 tups:=u.tups
 frzs:=u.frzs
 tbls:=u.tbls
theorem un_shrink {fs':List Addr} (u:L2.Un fs' [] H H' h0 h') (hs:∀ b ∈ fs',b ∉ fs→h0.get? b=none):L2.Un fs [] H H' h0 h' where
 keep:=fun b o e n hb hx=>u.keep b o e n (fun z=>by rw [hs b z hb] at e; cases e) hx
 slot:=fun b o e n hb hx=>u.any e n hx
 free:=u.free
 there:=u.there
 tups:=u.tups
 frzs:=u.frzs
 tbls:=u.tbls
end
theorem funFrames_hide' {base h:Heap} {as:List Addr} {l:List PySem.Env} (x:h.FunFrames base l) (ha:∀ b ∈ frs l,b ∈ as):h.FunFrames (PySem.W.hideAll h as) l :=
 PySem.W.funFrames_hide x fun env he a ha'=>ha a (List.mem_filterMap.mpr ⟨env,he,ha'⟩)
section
variable {X:Cx} {pins:List (Addr × Obj)} {σ:L2.St} {H:Hp} {s s':Shared} {ex:Nat→Option Addr}
theorem run_fnX {k : Nat} {f : Addr} {fd : FuncData} {ps : List Str} {sp : L2.Sp} {E : XK} {Q : VK} {us : List Value} {vs : List V} (F : L2.FnOk X.prog X.w X.K X.mg X.base (CXD X.prog X.w ex) k f fd ps sp) (hr : L2.Room k X.A) (hb : L2.Binds X.K fd ps [])
    (hx : ∀ e s', CXD X.prog X.w ex X.stack H s E e s' → X.xe e s') (I : Inv X pins σ H s) (r : Vals vs us) (h : sp vs H Q E) : wpAny (model X.prog X.w) X.A (call (.ref f) us) (EP X pins σ Q) X.xe s := by
  have hl : us.length = ps.length := by rw [← r.length]; exact F.len _ _ _ _ h
  have hb' := hb s us I.kIn (by rw [List.append_nil]; exact hl)
  rw [List.append_nil] at hb'
  refine wpAny_call (codeAny_mono (F.run X.A X.stack s H ⟨us, []⟩ us vs Q E hr I.env0 hb' r h) fun r s' hq => ?_)
  cases r with
  | error e => exact hx e s' hq
  | ok fl =>
    cases fl with
    | ret u => exact I.after hq
    | next => exact False.elim hq
    | brk => exact False.elim hq
    | cont => exact False.elim hq
end
section
variable {P:Program} {w:World} {K:PySem.W.Frag} {mg:Str→Option Value} {base:Heap} {N:List Str} {qual:Str} {scope:Scope} {f:Addr} {cd:Value} {A:Around} {outer:List PySem.Env} {s0:Shared} {H0:Hp} {E:XK} {ex:Nat→Option Addr}
variable {pins:List (Addr × Obj)} {σ:L2.St} {H:Hp} {s s':Shared}
noncomputable abbrev cxX (ex:Nat→Option Addr) (P:Program) (w:World) (K:PySem.W.Frag) (mg:Str→Option Value) (base:Heap) (N:List Str) (qual:Str) (scope:Scope) (f:Addr) (cd:Value) (A:Around) (outer:List PySem.Env) (s0:Shared) (H0:Hp) (E:XK):Cx:=L2.cxOf (CXD P w ex) P w K mg base N qual scope f cd A outer s0 H0 E
theorem out_un {h':Heap} {H':Hp} (I:Inv (cxX ex P w K mg base N qual scope f cd A outer s0 H0 E) pins σ H s) (u:L2.Un (frs (cxX ex P w K mg base N qual scope f cd A outer s0 H0 E).stack) [] H H' s.heap h'):L2.Un (frs outer) [] H0 H' s0.heap h':=by
 have b1:L2.Un (frs outer) [] H0 H s0.heap s.heap:=I.base
 have b2:=b1.mono (fs':=frs (cxX ex P w K mg base N qual scope f cd A outer s0 H0 E).stack) (ex':=[]) (fun b hb=>by
  show b ∈ frs (envOfC qual scope s0.heap.objs.size f cd::outer)
  exact List.mem_cons_of_mem _ hb) fun _ z=>z
 refine un_shrink (b2.trans u) fun b hb hn=>?_
 rcases List.mem_cons.mp (show b ∈ s0.heap.objs.size::frs outer from hb) with rfl | z
 ·cases q:s0.heap.get? s0.heap.objs.size with
  | none=>rfl
  | some o=>exact absurd (Heap.lt_size q) (Nat.lt_irrefl _)
 ·exact absurd z hn
theorem out_cov {B : Heap} (I : Inv (cxX ex P w K mg base N qual scope f cd A outer s0 H0 E) pins σ H s) (cov : ∀ b o, s.heap.get? b = some o → b ∉ frs (cxX ex P w K mg base N qual scope f cd A outer s0 H0 E).stack → ∃ o', B.get? b = some o') :
    ∀ b o, s0.heap.get? b = some o → b ∉ frs outer → ∃ o', B.get? b = some o' := fun b o e hb => by
  have b1 : L2.Un (frs outer) [] H0 H s0.heap s.heap := I.base
  obtain ⟨o1, e1⟩ := b1.there b o e (by simp)
  refine cov b o1 e1 fun z => ?_
  rcases List.mem_cons.mp (show b ∈ s0.heap.objs.size :: frs outer from z) with rfl | z
  · exact absurd (Heap.lt_size e) (Nat.lt_irrefl _)
  · exact hb z
theorem leave_fly {W : WX} {e : Value} (hW : ∀ c σ H, W c σ H → ∀ e, E e (some c) H) (I : Inv (cxX ex P w K mg base N qual scope f cd A outer s0 H0 E) pins σ H s)
    (x : CXD P w ex (cxX ex P w K mg base N qual scope f cd A outer s0 H0 E).stack H s (fun _ co H' => ∃ c, co = some c ∧ W c σ H') e s') : (cxX ex P w K mg base N qual scope f cd A outer s0 H0 E).xe e s' := by
  obtain ⟨a, C, c, B, a0, H', rfl, h2, h3, h4, h5, h6, h7, h8, c', e', h9⟩ := x
  cases e'
  have fr := I.ok.frames
  refine wpAny_leaves_onW (env := envOfC qual scope s0.heap.objs.size f cd) (outer := outer) fr rfl h3 fun h' hfl up => ?_
  have un := un_via h6 h3.1 h5 h3.2.2.1 hfl.1 up
  refine ⟨a, C, c, B, a0, H', rfl, h2, hfl, h4, out_cov I h5, out_un I un, ?_, h8, hW c σ H' h9 _⟩
  rw [show ({ s' with heap := h' } : Shared).os = s'.os from rfl, h7]
  exact I.os
theorem leave_made {W : WX} {a C : Addr} {c : Nat} {args : List Value} {h1 : Heap} (hW : ∀ c σ H, W c σ H → ∀ e, E e (some c) H) (I : Inv (cxX ex P w K mg base N qual scope f cd A outer s0 H0 E) pins σ H s) (hc : ex c = some C)
    (m : Heap.MadeExcOf s.heap h1 a (.ref C) args) (hw : W c σ H) : (cxX ex P w K mg base N qual scope f cd A outer s0 H0 E).xe (.ref a) { s with heap := h1 } := by
  have fr := I.ok.frames
  have ff := I.stack
  have hB : (PySem.W.hideAll s.heap (frs (cxX ex P w K mg base N qual scope f cd A outer s0 H0 E).stack)).StaysIn s.heap := fun b o e => PySem.W.of_hideAll _ e
  have hcov : ∀ b o, s.heap.get? b = some o → b ∉ frs (cxX ex P w K mg base N qual scope f cd A outer s0 H0 E).stack → ∃ o', (PySem.W.hideAll s.heap (frs (cxX ex P w K mg base N qual scope f cd A outer s0 H0 E).stack)).get? b = some o' := fun b o e hb => ⟨o, PySem.W.hideAll_get _ e hb⟩
  have hok : HOk P w H (PySem.W.hideAll s.heap (frs (cxX ex P w K mg base N qual scope f cd A outer s0 H0 E).stack)) := fun b u e => by
    refine (show L2.ObjOk P w H s.heap b u from I.hok b u e).stay (fun c v hc q => PySem.W.hideAll_get _ q fun z => ?_) (fun _ q => q) fun _ _ q => q
    have n := I.stkFree c z
    rcases hc with rfl | hc
    · rw [e] at n; cases n
    · rw [hc] at n; cases n
  refine wpAny_leaves_madeW (env := envOfC qual scope s0.heap.objs.size f cd) (outer := outer) fr rfl hB (funFrames_hide' ff fun _ z => z) m fun h' t hfl _ _ up => ?_
  have up' : s.heap.UpToSlots h' := (Heap.UpToSlots.of_keeps m.keeps).trans up
  have un := un_via (L2.Un.refl (fs := frs (cxX ex P w K mg base N qual scope f cd A outer s0 H0 E).stack) (ex := []) (H := H) (h := s.heap)) hB hcov (funFrames_hide' ff fun _ z => z) hfl.1 up'
  exact ⟨a, C, c, _, _, H, rfl, hc, hfl, hok, out_cov I hcov, out_un I un, I.os, I.bare, hW c σ H hw _⟩
end
end Fy
set_option Elab.async false
set_option linter.all false
set_option maxRecDepth 100000
set_option maxHeartbeats 4000000
namespace Fy
open PySem PySem.Spec PyProof.Rows
open L2 (V Hp HO VK XK TE TT TA TS TI Cx Inv RelV Vals SqL SqT Rd upd upd_same upd_ne PE PT PA PS PSs EP TP PI PG PIE Turn FpOk Ends HOk frs thn)
noncomputable def isXC (K:PySem.W.Frag) (C:Addr):Bool:=PySem.W.excIn K C [.type "ValueError",.type "Exception",.type "BaseException",.type "object"] "ValueError.__new__"
theorem xc_obj {K : PySem.W.Frag} {h : Heap} {C : Addr} (X : K.In h) (q : isXC K C = true) : ∃ nm qn N bs bm hdct sn sub ab col dd k0 k1 k2 k3 k5 mN, h.get? C = some (excClassObj nm qn C N bs bm hdct sn sub ab col dd k0 k1 k2 k3 k5 "ValueError.__new__") ∧ h.Ns N mN ∧ mN "__init__" = none ∧
    OwnTail h [.type "ValueError", .type "Exception", .type "BaseException", .type "object"] bm := by
  unfold isXC PySem.W.excIn at q
  cases hl : K.lookup C with
  | none => rw [hl] at q; cases q
  | some ob =>
    rw [hl] at q
    have at' := X C ob hl
    split at q
    · rename_i dx cx sx eqo
      cases eqo
      split at q
      · rename_i Cx' tl w0 w1 w2 w3 nn w5 emro eslots
        simp only [Bool.and_eq_true, beq_iff_eq, Bool.not_eq_true'] at q
        obtain ⟨⟨⟨⟨⟨q1, q2⟩, q3⟩, q4⟩, q5⟩, q6⟩ := q
        obtain ⟨xa, xb, xc, xd, xe, xf, xg, xh, xi, xj, xk⟩ := cx
        simp only at emro q3 q5 q6
        subst q1 q2 emro q3
        have es : sx = #[w0, w1, w2, w3, some (.builtin "ValueError.__new__"), w5] := by
          cases sx with
          | mk l => exact congrArg Array.mk eslots
        subst es
        exact ⟨xa, xe, xd, xb, tl, xf, xg, xh, xi, xj, dx, w0, w1, w2, w3, w5, _, at', .of_isNs (PySem.W.isNs_of_in X q5), PySem.W.nsMap_none_of_in X q5 q6, PySem.W.tail_of_in X q4⟩
      · cases q
    · cases q
section
variable {X:Cx} {F:Nat→List D→M D} {B:Nat} {W:WX} {ex:Nat→Option Addr}
theorem s_raise {x : Str} {C : Addr} {c : Nat} {msg : Str} {j : Nat} {np mp cpos pos : Pos} (hc : X.calm = true) (hg : L2.Gl X x) (hdb : (x == ("__debug__" : Str)) = false) (hm : X.mg x = some (.ref C)) (hK : isXC X.K C = true)
    (hx : ∀ pins σ H s a args h', Inv X pins σ H s → Heap.MadeExcOf s.heap h' a (.ref C) args → W c σ H → X.xe (.ref a) { s with heap := h' }) :
    PS X (.Raise (some (.Call (.Name x np) [.Constant (.str msg) j mp] [] cpos)) none pos) (tDS X.K W (denS F B (.raise c))) := by
  intro pins s σ H E I t
  obtain ⟨ρ, env, h, st, r, p⟩ := t
  have hw : W c σ H := p ρ H σ (Step.refl _ _) r st
  obtain ⟨nm, qn, N, bs, bm, hdct, sn, sub, ab, col, dd, k0, k1, k2, k3, k5, mN, hC, hN, hni, T⟩ := xc_obj I.ok.mod.kin hK
  refine wpAny_Raise_call_subU (C := C) (nm := nm) (q := qn) (N := N) (bs := bs) (bm := bm) (hdct := hdct) (sn := sn) (sub := sub) (ab := ab) (col := col) (dd := dd) (k0 := k0) (k1 := k1) (k2 := k2) (k3 := k3) (k5 := k5) PySem.F.excBase_ValueError (by decide) PySem.F.excBase_ValueError (mN := mN) (T.hasType PySem.F.excBase_ValueError.hasBase) (I.ok.hd hc) rfl hni
    (L2.ld_glob I hg hm ⟨rfl, ?_⟩ hdb)
  refine Calls.evalArgs_plain ?_
  have pa : PA X [.Constant (.str msg) j mp] (L2.tCons (L2.tC (.str msg)) L2.tNil) := L2.pa_cons L2.pe_str L2.pa_nil
  refine thn (pa cpos pins s σ H (fun vs H' => vs.length ≤ 1 ∧ H' = H) I ⟨Nat.le_refl _, rfl⟩) fun us s2 ⟨vs, H2, I2, rv, hl, e2⟩ => ?_
  subst e2
  exact ⟨rfl, by rw [← rv.length]; exact Nat.le_trans hl (by decide), I2.bk _ _ hC, hN.keeps I2.bk, T.keeps I2.bk, fun h' e m => hx pins σ H2 s2 e us h' I2 m hw⟩
end
end Fy
set_option Elab.async false
set_option linter.all false
set_option maxRecDepth 100000
set_option maxHeartbeats 4000000
namespace Fy
open PySem PySem.Spec PyProof.Rows
open L2 (V Hp HO VK XK TE TT TA TS TI Cx Inv RelV Vals SqL SqT Rd upd upd_same upd_ne PE PT PA PS PSs EP TP SP PI PG PIE Turn FpOk Ends HOk frs thn)
noncomputable abbrev hold (X:Cx) (pins:List (Addr × Obj)) (E:Value→Shared→Prop):Cx:={ X with pn:=X.pn++pins,xe:=E }
noncomputable abbrev mark (X:Cx) (e:Value):Cx:={ X with A:=X.A.mark (some e),calm:=false,xe:=fun _ _=>False }
section
variable {X:Cx} {pins pins':List (Addr × Obj)} {σ:L2.St} {H:Hp} {s:Shared} {E:Value→Shared→Prop}
theorem ok_hold (ok:X.Ok):(hold X pins E).Ok:=⟨ok.mod,ok.kind,ok.glob,ok.blt,ok.above,ok.inj,ok.has,ok.cab,ok.hd,ok.frames,ok.stk,ok.exf,ok.bs,ok.bsz,ok.noex,ok.exfs,ok.funs,ok.frf⟩
theorem ok_unhold (ok:(hold X pins E).Ok):X.Ok:=⟨ok.mod,ok.kind,ok.glob,ok.blt,ok.above,ok.inj,ok.has,ok.cab,ok.hd,ok.frames,ok.stk,ok.exf,ok.bs,ok.bsz,ok.noex,ok.exfs,ok.funs,ok.frf⟩
theorem ok_mark {e:Value} (ok:X.Ok):(mark X e).Ok:=⟨ok.mod,ok.kind,ok.glob,ok.blt,ok.above,ok.inj,ok.has,ok.cab,(fun z=>by cases z),ok.frames,ok.stk,ok.exf,ok.bs,ok.bsz,ok.noex,ok.exfs,ok.funs,ok.frf⟩
theorem Inv.hold (I:Inv X pins σ H s) (E:Value→Shared→Prop):Inv (hold X pins E) [] σ H s:=⟨ok_hold I.ok,I.os,I.bare,I.base,I.loc,I.cell,I.free,I.freeC,fun p hp=>I.pin p (by simpa using hp),I.hok,I.len⟩
theorem Inv.unhold (I:Inv (Fy.hold X pins E) pins' σ H s):Inv X pins σ H s:=⟨ok_unhold I.ok,I.os,I.bare,I.base,I.loc,I.cell,I.free,I.freeC,fun p hp=>I.pin p (List.mem_append_left _ hp),I.hok,I.len⟩
theorem Inv.mark {e:Value} (I:Inv X pins σ H s):Inv (mark X e) pins σ H s:=⟨ok_mark I.ok,I.os,I.bare,I.base,I.loc,I.cell,I.free,I.freeC,I.pin,I.hok,I.len⟩
theorem Inv.unmark {e:Value} (I:Inv (Fy.mark X e) pins σ H s) (ok:X.Ok):Inv X pins σ H s:=⟨ok,I.os,I.bare,I.base,I.loc,I.cell,I.free,I.freeC,I.pin,I.hok,I.len⟩
theorem SP.unhold {D:Ends} {f:Flow} {s':Shared} (h:SP (Fy.hold X pins E) pins' D f s'):SP X pins D f s':=by
 cases f with
 | next=>obtain ⟨σ',H',I,q⟩:=h; exact ⟨σ',H',Inv.unhold I,q⟩
 | brk=>obtain ⟨σ',H',I,q⟩:=h; exact ⟨σ',H',Inv.unhold I,q⟩
 | cont=>obtain ⟨σ',H',I,q⟩:=h; exact ⟨σ',H',Inv.unhold I,q⟩
 | ret u=>obtain ⟨v,σ',H',I,r,q⟩:=h; exact ⟨v,σ',H',Inv.unhold I,r,q⟩
theorem SP.unmark {e:Value} {D:Ends} {f:Flow} {s':Shared} (h:SP (Fy.mark X e) pins D f s') (ok:X.Ok):SP X pins D f s':=by
 cases f with
 | next=>obtain ⟨σ',H',I,q⟩:=h; exact ⟨σ',H',Inv.unmark I ok,q⟩
 | brk=>obtain ⟨σ',H',I,q⟩:=h; exact ⟨σ',H',Inv.unmark I ok,q⟩
 | cont=>obtain ⟨σ',H',I,q⟩:=h; exact ⟨σ',H',Inv.unmark I ok,q⟩
 | ret u=>obtain ⟨v,σ',H',I,r,q⟩:=h; exact ⟨v,σ',H',Inv.unmark I ok,r,q⟩
end
theorem objok_there {P:Program} {w:World} {H:Hp} {h:Heap} {a:Addr} {o:HO} (x:L2.ObjOk P w H h a o):∃ ob,h.get? a=some ob:=by
 cases o with
 | lst xs=>obtain ⟨_,_,_,_,e⟩:=x; exact ⟨_,e⟩
 | tup xs=>obtain ⟨_,_,_,ob,e,_⟩:=x; exact ⟨_,e⟩
 | dK kvs=>obtain ⟨_,_,_,_,o,_,_,e,_⟩:=x; exact ⟨_,e⟩
 | dT kvs=>obtain ⟨_,_,_,_,o,_,_,e,_⟩:=x; exact ⟨_,e⟩
 | set S n=>obtain ⟨o,_,_,_,e,_⟩:=x; exact ⟨_,e⟩
 | ins C dx fs=>obtain ⟨_,_,_,e,_⟩:=x; exact ⟨_,e⟩
 | own y=>exact x
 | xd fs=>obtain ⟨_,⟨_,_,_,e,_⟩,_⟩:=x; exact ⟨_,e⟩
 | rng lo hi=>obtain ⟨_,_,_,e⟩:=x; exact ⟨_,e⟩
 | frz ob u=>obtain ⟨e,_⟩:=x; exact ⟨_,e⟩
 | tbl ps=>exact ⟨_,(show h.get? a=some _ from x)⟩
 | met f y=>exact ⟨_,(show h.get? a=some _ from x)⟩
 | ext φ=>obtain ⟨_,⟨_,e⟩,_⟩:=x; exact ⟨_,e⟩
section
variable {X:Cx} {pins:List (Addr × Obj)} {σ:L2.St} {H:Hp} {s:Shared}
theorem Inv.track {a : Addr} {o : HO} (I : Inv X pins σ H s) (hn : H a = none) (h0 : X.s₀.heap.get? a = none) (hl : a ≠ X.env.locals) (hc : ∀ x c, X.env.cells.lookup x = some c → c ≠ a) (hp : ∀ p ∈ X.pn ++ pins, p.1 ≠ a)
    (new : L2.ObjOk X.prog X.w (upd H a o) s.heap a o) : Inv X pins σ (upd H a o) s := by
  refine ⟨I.ok, I.os, I.bare, ⟨I.base.keep, I.base.slot, fun b ob q n hx => ?_, I.base.there, fun b xs q => ?_, fun b ob u q => ?_, fun b ps q => ?_⟩, I.loc, I.cell, ?_, fun x c e => ?_, fun p hpp => ?_, fun b u e => ?_, I.len⟩
  · rw [upd_ne (fun z => by rw [z, h0] at q; cases q)]
    exact I.base.free b ob q n hx
  · have := I.base.tups b xs q
    rw [upd_ne (L2.ne_of_none this hn)]
    exact this
  · have := I.base.frzs b ob u q
    rw [upd_ne (L2.ne_of_none this hn)]
    exact this
  · obtain ⟨more, e⟩ := I.base.tbls b ps q
    exact ⟨more, by rw [upd_ne (L2.ne_of_none e hn)]; exact e⟩
  · rw [upd_ne (Ne.symm hl)]
    exact I.free
  · rw [upd_ne (hc x c e)]
    exact I.freeC x c e
  · obtain ⟨e, n, ne, nf, d⟩ := I.pin p hpp
    exact ⟨e, by rw [upd_ne (hp p hpp)]; exact n, ne, nf, d⟩
  · by_cases hb : b = a
    · subst hb
      rw [upd_same] at e
      cases e
      exact new
    · rw [upd_ne hb] at e
      exact (I.hok b u e).stay (fun c v _ q => q) (fun c q => by rw [upd_ne (L2.ne_of_none q hn)]; exact q) fun c xs q => by rw [upd_ne (L2.ne_of_none q hn)]; exact q
theorem Inv.blank {h':Heap} {m':Str→Option Value} {tk:Nat} (I:Inv X pins σ H s) (hn':h'.Ns X.env.locals m') (hs:Heap.SameBut X.env.locals s.heap h'):Inv X pins (σ.map fun _=>none) H { s with heap:=h',toks:=tk }:=by
 have cne:=I.cne
 refine ⟨I.ok,I.os,I.bare,⟨fun b o e n hb hx=>?_,fun b o e n hb hx=>?_,I.base.free,fun b o e hx=>?_,I.base.tups,I.base.frzs,I.base.tbls⟩,⟨_,hn',fun j y v' e1 e2 e3=>?_⟩,fun y c e=>?_,I.free,I.freeC,fun p hp=>?_,fun b ob e=>?_,by simpa using I.len⟩
 ·exact (hs.2 b (Nat.ne_of_lt (Nat.lt_of_lt_of_le (Heap.lt_size e) I.ok.above))).trans (I.base.keep b o e n hb hx)
 ·obtain ⟨sl,e1⟩:=I.base.slot b o e n hb hx
  exact ⟨sl,(hs.2 b (Nat.ne_of_lt (Nat.lt_of_lt_of_le (Heap.lt_size e) I.ok.above))).trans e1⟩
 ·obtain ⟨o',e1⟩:=I.base.there b o e hx
  exact ⟨o',(hs.2 b (Nat.ne_of_lt (Nat.lt_of_lt_of_le (Heap.lt_size e) I.ok.above))).trans e1⟩
 ·rw [List.getElem?_map] at e2
  cases q:σ[j]? with
  | none=>rw [q] at e2; cases e2
  | some z=>rw [q] at e2; cases e2
 ·obtain ⟨w',z⟩:=I.cell y c e
  exact ⟨w',z.sameBut hs (cne y c e)⟩
 ·obtain ⟨e,n,ne,nf,d⟩:=I.pin p hp
  exact ⟨(hs.2 p.1 ne).trans e,n,ne,nf,d⟩
 ·have hfree:=I.free
  refine (I.hok b ob e).stay (fun c w' hc q=>(hs.2 c ?_).trans q) (fun _ q=>q) fun _ _ q=>q
  rintro rfl
  rcases hc with rfl | hc
  ·rw [hfree] at e; cases e
  ·rw [hfree] at hc; cases hc
end
section
variable {X:Cx} {F:Nat→List D→M D} {B:Nat} {W:WX} {ex:Nat→Option Addr}
noncomputable def HOf (X : Cx) (F : Nat → List D → M D) (B : Nat) (ex : Nat → Option Addr) : List ExceptHandler → CH → Prop
  | [], .nil => True
  | .ExceptHandler (some (.Name x np)) none body pos :: r, .cons cs k r' => (∃ C, L2.Gl X x ∧ (x == ("__debug__" : Str)) = false ∧ X.mg x = some (.ref C) ∧ ∀ c D, ex c = some D → PySem.W.exmOne X.K (.ref D) (.ref C) = some (cs.contains c)) ∧
      (∃ b0 rest, body = b0 :: rest) ∧ (∀ e, PSs (mark X e) body (tDS X.K WF (denS F B k))) ∧ HOf X F B ex r r'
  | .ExceptHandler (some (.Name x np)) (some n) body pos :: r, .as cs i k r' => (∃ C, L2.Gl X x ∧ (x == ("__debug__" : Str)) = false ∧ X.mg x = some (.ref C) ∧ ∀ c D, ex c = some D → PySem.W.exmOne X.K (.ref D) (.ref C) = some (cs.contains c)) ∧
      (∃ b0 rest, body = b0 :: rest) ∧ (X.ex = [] ∧ X.N.Nodup ∧ X.N[i]? = some n ∧ X.env.scope.names.lookup n = some .local ∧ ∀ c C, ex c = some C → ClsAt X.K c C) ∧ (∀ e, PSs (mark X e) body (tDS X.K WF (denS F B k))) ∧ HOf X F B ex r r'
  | _, _ => False
structure Look (X:Cx) (ex:Nat→Option Addr) (pins:List (Addr × Obj)) (σ:L2.St) (Hc H:Hp) (s0 s:Shared) (Bs:Heap) (a C:Addr) (a0:Value):Prop where
 inv:Inv X pins σ Hc s0
 fl:Heap.FlyingW Bs X.stack a (.ref C) a0 s.heap
 hok:HOk X.prog X.w H Bs
 cov:∀ b o,s0.heap.get? b=some o→b ∉ frs X.stack→∃ o',Bs.get? b=some o'
 un:L2.Un (frs X.stack) [] Hc H s0.heap s.heap
 os:s.os=s0.os
 bare:AllBare s.gens
theorem Look.go {pins:List (Addr × Obj)} {σ:L2.St} {Hc H:Hp} {s0 s:Shared} {Bs h':Heap} {a C:Addr} {a0:Value} (L:Look X ex pins σ Hc H s0 s Bs a C a0) (fl:Heap.FlyingW Bs X.stack a (.ref C) a0 h') (up:s.heap.UpToSlots h'):Look X ex pins σ Hc H s0 { s with heap:=h' } Bs a C a0 :=
 ⟨L.inv,fl,L.hok,L.cov,un_via L.un L.fl.1 L.cov L.fl.2.2.1 fl.1 up,L.os,L.bare⟩
theorem Look.now {pins:List (Addr × Obj)} {σ:L2.St} {Hc H:Hp} {s0 s:Shared} {Bs:Heap} {a C:Addr} {a0:Value} (L:Look X ex pins σ Hc H s0 s Bs a C a0):Inv X pins σ H s :=
 L.inv.call' L.os L.un (L.hok.kept L.fl.1) L.bare fun b hb=>absurd hb (by simp)
theorem Look.ty {pins:List (Addr × Obj)} {σ:L2.St} {Hc H:Hp} {s0 s:Shared} {Bs:Heap} {a C:Addr} {a0:Value} {M:Model} (L:Look X ex pins σ Hc H s0 s Bs a C a0):PySem.W.Looks M s.heap (typeOf (.ref a)) (.ref C):=by
 obtain ⟨ob,h1,h2⟩:=L.fl.there
 exact h2 ▸ (PySem.W.Looks.ld h1).andThen .now
theorem Look.new {pins:List (Addr × Obj)} {σ:L2.St} {Hc H:Hp} {s0 s:Shared} {Bs:Heap} {a C:Addr} {a0:Value} (L:Look X ex pins σ Hc H s0 s Bs a C a0):s0.heap.get? a=none:=by
 cases q:s0.heap.get? a with
 | none=>rfl
 | some o =>
  exfalso
  by_cases hf:a ∈ frs X.stack
  ·obtain ⟨_,o2,k2,k3⟩:=L.fl.2.2.1.mem hf
   obtain ⟨oe,vs,T,oT,ts,t1,t2,t3,_⟩:=L.fl.2.2.2
   rw [t1] at k2
   cases k2
   exact k3 vs t3
  ·obtain ⟨o',e⟩:=L.cov a o q hf
   rw [L.fl.2.1] at e
   cases e
theorem Look.free {pins:List (Addr × Obj)} {σ:L2.St} {Hc H:Hp} {s0 s:Shared} {Bs:Heap} {a C:Addr} {a0:Value} (L:Look X ex pins σ Hc H s0 s Bs a C a0):H a=none:=by
 cases q:H a with
 | none=>rfl
 | some o =>
  obtain ⟨ob,e⟩:=objok_there (L.hok a o q)
  rw [L.fl.2.1] at e
  cases e
noncomputable def Clz (X:Cx) (F:Nat→List D→M D) (B:Nat) (ex:Nat→Option Addr) (W:WX) (pins:List (Addr × Obj)) (σ:L2.St) (E:Ends) (hs:List ExceptHandler) (ch:CH):Prop :=
 ∀ (Hc H:Hp) (s0 s:Shared) (Bs:Heap) (a C:Addr) (a0:Value) (c:Nat),ex c=some C→Look X ex pins σ Hc H s0 s Bs a C a0 →
  (∃ ρ env h,RepS X.K ρ H env σ∧RepH X.K ρ h H∧PostS X.K W E ρ H (denH F B ch c env h))→wpAny (model X.prog X.w) X.A (handleBy (.ref a) X.env hs) (SP X pins E) X.xe s
theorem clause_c {pins:List (Addr × Obj)} {σ:L2.St} {E:Ends} {x:Str} {np pos:Pos} {body:List Stmt} {r:List ExceptHandler} {cs:List Nat} {k:CS} {r':CH} (hh:HOf X F B ex (.ExceptHandler (some (.Name x np)) none body pos::r) (.cons cs k r')) (ih:Clz X F B ex W pins σ E r r'):Clz X F B ex W pins σ E (.ExceptHandler (some (.Name x np)) none body pos::r) (.cons cs k r'):=by
 rintro Hc H s0 s Bs a C a0 c hc L ⟨ρ,env,h,st,rh,p⟩
 obtain ⟨⟨C',g1,g2,g3,g4⟩,⟨b0,rest,hb⟩,hsu,hr⟩:=hh
 have I:=L.now
 rw [denH] at p
 refine wpAny_handleBy_cons (codeAny_handlers_test (L2.ld_glob (X:=mark X (.ref a)) (Inv.mark I) g1 g3 ?_ g2)) (by intro q; cases q)
 refine (PySem.W.exm_one I.kIn L.ty (g4 c C hc)).here ?_
 cases q:cs.contains c with
 | false =>
  rw [q] at p
  exact ih _ _ _ _ _ _ _ _ _ hc L ⟨ρ,env,h,st,rh,p⟩
 | true =>
  rw [q] at p
  subst hb
  refine codeAny_handlers_suite (lands_againW L.fl fun h6 fl6 up6=>?_)
  have L6:=L.go fl6 up6
  have p:PostS X.K W E ρ H (SR.calm (denS F B k env h)):=p
  have p':PostS X.K WF E ρ H (denS F B k env h):=by
   cases z:denS F B k env h with
   | nx _ _=>rw [z] at p; exact p
   | rt _ _=>rw [z] at p; exact p
   | bk _ _=>rw [z] at p; exact p
   | ct _ _=>rw [z] at p; exact p
   | exc _ _ _=>rw [z] at p; exact False.elim p
   | bad=>rw [z] at p; exact p
  exact wpAny_mono (hsu (.ref a) pins _ σ H E (Inv.mark L6.now) ⟨ρ,env,h,st,rh,p'⟩) (fun f s7 q7=>SP.unmark q7 I.ok) fun _ _ z=>False.elim z
theorem clause_a {pins : List (Addr × Obj)} {σ : L2.St} {E : Ends} {x n : Str} {np pos : Pos} {body : List Stmt} {r : List ExceptHandler} {cs : List Nat} {i : Nat} {k : CS} {r' : CH} (hh : HOf X F B ex (.ExceptHandler (some (.Name x np)) (some n) body pos :: r) (.as cs i k r')) (ih : Clz X F B ex W pins σ E r r') : Clz X F B ex W pins σ E (.ExceptHandler (some (.Name x np)) (some n) body pos :: r) (.as cs i k r') := by
  rintro Hc H s0 s Bs a C a0 c hc L ⟨ρ, env, h, st, rh, p⟩
  obtain ⟨⟨C', g1, g2, g3, g4⟩, ⟨b0, rest, hb⟩, ⟨n0, n1, n2, n3, n4⟩, hsu, hr⟩ := hh
  have I := L.now
  rw [denH] at p
  refine wpAny_handleBy_cons (codeAny_handlers_test (L2.ld_glob (X := mark X (.ref a)) (Inv.mark I) g1 g3 ?_ g2)) (by intro q; cases q)
  refine (PySem.W.exm_one I.kIn L.ty (g4 c C hc)).here ?_
  cases q : cs.contains c with
  | false =>
    rw [q] at p
    exact ih _ _ _ _ _ _ _ _ _ hc L ⟨ρ, env, h, st, rh, p⟩
  | true =>
    rw [q] at p
    subst hb
    refine codeAny_handlers_suite_as (lands_againW L.fl fun h6 fl6 up6 => ?_)
    have L6 := L.go fl6 up6
    have new := L.new
    have hfree := L6.free
    have hs0 : X.s₀.heap.get? a = none := by
      cases z : X.s₀.heap.get? a with
      | none => rfl
      | some o =>
        obtain ⟨o', e⟩ := L.inv.base.there a o z (by rw [n0]; exact List.not_mem_nil)
        rw [new] at e
        cases e
    obtain ⟨ob, hob, hcl⟩ := L6.fl.there
    have It : Inv X pins σ (upd H a (xcO a C)) { s with heap := h6 } := Inv.track L6.now hfree hs0 (fun z => by
        obtain ⟨m, hn, _⟩ := L.inv.loc
        obtain ⟨oL, _, _, hoL, _⟩ := id hn
        rw [← z, new] at hoL
        cases hoL) (fun y c' e z => by
        obtain ⟨w', oc, hoc, _⟩ := L.inv.cell y c' e
        rw [z, new] at hoc
        cases hoc) (fun pp hpp z => by
        have := (L.inv.pin pp hpp).1
        rw [z, new] at this
        cases this) ⟨⟨ob, hob, hcl⟩, ⟨ob, hob⟩, fun h1 h2 ⟨o1, e1, e2⟩ k => ⟨o1, k o1 e1, e2⟩⟩
    have step : Step ρ H (ρ ++ [a]) (upd H a (xcO a C)) := Step.new1 hfree
    have rh' : RepH X.K (ρ ++ [a]) (h ++ [.xc c]) (upd H a (xcO a C)) := rh.newO hfree ⟨C, n4 c C hc, upd_same⟩
    have hlen : (ρ ++ [a])[h.length]? = some a := by rw [← rh.len, List.getElem?_append_right (Nat.le_refl _)]; simp
    have st' : RepS X.K (ρ ++ [a]) (upd H a (xcO a C)) (env.set i (some (.ref h.length))) (σ.set i (some (.ref a))) := (st.mono step).set i ⟨a, hlen, rfl⟩
    have p : PostS X.K W E ρ H (SR.rtO (denS F B k (env.set i (some (.ref h.length))) (h ++ [.xc c]))) := p
    have p' : PostS X.K WF { E with nx := fun _ _ => False, bk := fun _ _ => False, ct := fun _ _ => False } (ρ ++ [a]) (upd H a (xcO a C)) (denS F B k (env.set i (some (.ref h.length))) (h ++ [.xc c])) := by
      cases z : denS F B k (env.set i (some (.ref h.length))) (h ++ [.xc c]) with
      | rt d g => rw [z] at p; exact fun ρ' H' v e' r' hv => p ρ' H' v (step.trans e') r' hv
      | nx _ _ => rw [z] at p; exact False.elim p
      | bk _ _ => rw [z] at p; exact False.elim p
      | ct _ _ => rw [z] at p; exact False.elim p
      | exc _ _ _ => rw [z] at p; exact False.elim p
      | bad => rw [z] at p; exact p
    refine L2.store_ok (X := mark X (.ref a)) (v := .ref a) (Inv.mark It) n1 n2 (.inl n3) rfl (fun s7 I7 => ?_) (.inr n3)
    refine wpAny_mono (hsu (.ref a) pins s7 _ _ _ I7 ⟨_, _, _, st', rh', p'⟩) (fun f s8 q8 => ?_) fun _ _ z => False.elim z
    cases f with
    | next => obtain ⟨_, _, _, z⟩ := q8; exact False.elim z
    | brk => obtain ⟨_, _, _, z⟩ := q8; exact False.elim z
    | cont => obtain ⟨_, _, _, z⟩ := q8; exact False.elim z
    | ret u =>
      obtain ⟨v, σ', H', I8, rv, qv⟩ := q8
      have I9 := Inv.unmark I8 I.ok
      obtain ⟨m, hn, _⟩ := I9.loc
      refine wpAny_nameGoes n3 hn (by rw [I9.ok.kind]; rfl) fun h' m' hn' hs' => ?_
      exact ⟨v, _, H', Inv.blank I9 hn' hs', rv, qv⟩
theorem clauses {pins:List (Addr × Obj)} {σ:L2.St} {E:Ends}:∀ (hs:List ExceptHandler) (ch:CH),HOf X F B ex hs ch→Clz X F B ex W pins σ E hs ch:=by
 intro hs
 induction hs with
 | nil =>
  intro ch hh
  cases ch with
  | nil=>rintro Hc H s0 s Bs a C a0 c hc L ⟨ρ,env,h,st,rh,p⟩; exact False.elim p
  | _=>exact False.elim hh
 | cons hd r ih =>
  intro ch hh
  obtain ⟨ty,nm,body,pos⟩:=hd
  cases ty with
  | none=>exact False.elim hh
  | some t =>
   cases t with
   | Name x np =>
    cases nm with
    | none =>
     cases ch with
     | cons cs k r'=>exact clause_c hh (ih r' hh.2.2.2)
     | _=>exact False.elim hh
    | some n =>
     cases ch with
     | «as» cs i k r'=>exact clause_a hh (ih r' hh.2.2.2.2)
     | _=>exact False.elim hh
   | _=>exact False.elim hh
theorem s_try {body : List Stmt} {h0 : ExceptHandler} {hs : List ExceptHandler} {pos : Pos} {cb : CS} {ch : CH} (hstk : X.stack = X.env :: X.outer ∧ X.env.frame = some X.env.locals) (hh : HOf X F B ex (h0 :: hs) ch)
    (hb : ∀ (pins : List (Addr × Obj)) (W1 : WX), PSs (hold X pins fun e s' => ∃ pins' σ H s0, Inv (hold X pins fun _ _ => False) pins' σ H s0 ∧ CXD X.prog X.w ex X.stack H s0 (fun _ co H' => ∃ c, co = some c ∧ W1 c σ H') e s') body (tDS X.K W1 (denS F B cb))) :
    PS X (.Try body (h0 :: hs) [] [] pos) (tDS X.K W (denS F B (.tryx cb ch))) := by
  intro pins s σ H E I t
  obtain ⟨ρ, env, h, st, r, p⟩ := t
  rw [denS] at p
  show wpAny _ _ (do standAt pos; tryStmt false (execs body X.env) (h0 :: hs) (execs [] X.env) [] X.env) _ _ s
  refine wpAny_bind (wpAny_standAt (wpAny_tryStmt_except ?_))
  have p1 : PostS X.K (fun c st H' => ∃ ρ env h, RepS X.K ρ H' env st ∧ RepH X.K ρ h H' ∧ PostS X.K W E ρ H' (denH F B ch c env h)) E ρ H (denS F B cb env h) := by
    cases z : denS F B cb env h with
    | nx _ _ => rw [z] at p; exact p
    | rt _ _ => rw [z] at p; exact p
    | bk _ _ => rw [z] at p; exact p
    | ct _ _ => rw [z] at p; exact p
    | exc c e g => rw [z] at p; exact fun ρ' H' st' e' r' s' => ⟨ρ', e, g, s', r', PostS.mono p e'⟩
    | bad => rw [z] at p; exact p
  refine wpAny_mono (hb pins _ [] s σ H E (Inv.hold I _) ⟨ρ, env, h, st, r, p1⟩) (fun f s1 q1 => ?_) fun e s1 q1 => ?_
  · have q := SP.unhold q1
    cases f with
    | next => exact wpAny_execs_nil q
    | brk => exact q
    | cont => exact q
    | ret u => exact q
  · obtain ⟨pins', σ', Hc, s0, I0, a, C, c, Bs, a0, H', rfl, h2, h3, h4, h5, h6, h7, h8, c', e', ρ', env', g', st', r', p'⟩ := q1
    cases e'
    have I0' : Inv X pins σ' Hc s0 := Inv.unhold I0
    have L : Look X ex pins σ' Hc H' s0 s1 Bs a C a0 := ⟨I0', h3, h4, h5, h6, h7, h8⟩
    have fr := I.ok.frames
    rw [hstk.1] at fr
    have fl := h3
    rw [hstk.1] at fl
    refine wpAny_looks_onW fr hstk.2 fl fun h4' held up4 => ?_
    refine wpAny_landsW held fun h5' fl5 up5 => ?_
    rw [← hstk.1] at fl5
    exact clauses (h0 :: hs) ch hh _ _ _ _ _ _ _ _ _ h2 (L.go fl5 (up4.trans up5)) ⟨ρ', env', g', st', r', p'⟩
end
end Fy
set_option Elab.async false
set_option linter.all false
set_option maxRecDepth 100000
set_option maxHeartbeats 4000000
namespace Fy
open PySem PySem.Spec PySem.Calls PyProof.Rows PySem.W
structure XGet (K:Frag) (C:Addr):Prop where
 ga:findIn K (.ref C) "__getattribute__"=some (some (.builtin "BaseException.__getattribute__"))
 gt:findIn K (.ref C) "__getattr__"=some none
 cl:findIn K (.ref C) "__class__"=some (some (.builtin "object.__class__"))
 ob:subIn K (.ref C) (.type "object")=some true
 be:subIn K (.ref C) (.type "BaseException")=some true
 is:isClsIn K C=true
section
variable {prog:Program} {w:World} {A:Around} {E:Value→Shared→Prop} {h:Heap} {g:Array GenState} {d:Drawn} {t:Nat} {os:OsState} {a C:Addr} {o:Obj} {K:Frag}
theorem xcls_get {R : Result → Shared → Prop} (Z : XGet K C) (X : K.In h) (hx : h.get? a = some o) (hc : o.cls = .ref C) (hq : R (.ok (.ret (.ref C))) ⟨h, g, d, t, os⟩) :
    codeAny (model prog w) A (.call (.builtin "getset_descriptor.__get__") ⟨[.builtin "object.__class__", .ref a, .ref C], []⟩) R ⟨h, g, d, t, os⟩ := by
  have hT5 : (⟨h, g, d, t, os⟩ : Shared).TypeIs (.builtin "object.__class__") "getset_descriptor" := PySem.F.typeOf_object_class
  have ho : subIn K (.ref C) (.type (".".intercalate ("object.__class__".cutAt '.').dropLast)) = some true := by rw [PySem.F.owner_object_class]; exact Z.ob
  refine codeAny_call_builtin PySem.F.slot_gs_get.plain PySem.F.entry_gs_get (PySem.F.slot_gs_get.check _ _ _ _ _ _ _ _ hT5 (PySem.F.args_gs_get _ _ _) ?_)
  repeat (any_goals (first | assumption | (with_reducible refine wpAny_loadPart_at hx ?_; rw [hc]) | with_reducible refine (looks_subIn X ho).at ?_ | wp_step))
  refine ⟨Code.quiet_builtin _ (by decide +kernel), codeAny_builtin PySem.F.entry_object_class ?_⟩
  repeat (any_goals (first | assumption | (with_reducible refine wpAny_loadPart_at hx ?_; rw [hc]) | wp_step))
theorem xcls_check {M:Model} {nameV:Value} {Q:Unit→Shared→Prop} (Z:XGet K C) (X:K.In h) (hx:h.get? a=some o) (hc:o.cls=.ref C) (hq:Q () ⟨h,g,d,t,os⟩):wpAny M A (checkBuiltinCall "BaseException.__getattribute__" ⟨[.ref a,nameV],[]⟩) Q E ⟨h,g,d,t,os⟩:=by
 have hk:builtinKind "BaseException.__getattribute__"=some .slot:=by decide +kernel
 have hsplit:splitId "BaseException.__getattribute__"=some ("BaseException","__getattribute__"):=by decide +kernel
 have ha:=PySem.F.args_bexc_ga (.ref a) nameV
 simp only [checkBuiltinCall,hk,hsplit]
 refine wpAny_bind ?_
 ·unfold isInstance
  repeat (first | (with_reducible refine wpAny_loadPart_at hx ?_; rw [hc]) | with_reducible refine (looks_subIn X Z.be).at ?_ | wp_step)
  exact hq
theorem xcls_entry {tk : Tok} {Q : Fin → Shared → Prop} (Z : XGet K C) (X : K.In h) (hx : h.get? a = some o) (hc : o.cls = .ref C) (hq : Q (.done (.ret (.ref C))) ⟨h, g, d, t, os⟩) :
    wpAny (model prog w) A (Builtin.«object.__getattribute__» ⟨[.ref a, .str "__class__" tk], []⟩) Q E ⟨h, g, d, t, os⟩ := by
  have hT5 : (⟨h, g, d, t, os⟩ : Shared).TypeIs (.builtin "object.__class__") "getset_descriptor" := PySem.F.typeOf_object_class
  have f5 := PySem.F.typeOf_object_class
  have f6 := PySem.F.slot_gs_get.lookup
  have f7 := PySem.F.slot_gs_set.lookup
  repeat (any_goals (first | assumption | (with_reducible refine wpAny_loadPart_at hx ?_; rw [hc]) | with_reducible refine (looks_findIn X Z.cl).at ?_ | wp_step))
  refine xcls_get Z X hx hc ?_
  repeat (any_goals (first | assumption | wp_step))
theorem xcls_call {tk : Tok} {R : Result → Shared → Prop} (Z : XGet K C) (X : K.In h) (hx : h.get? a = some o) (hc : o.cls = .ref C) (hq : R (.ok (.ret (.ref C))) ⟨h, g, d, t, os⟩) :
    codeAny (model prog w) A (.call (.builtin "BaseException.__getattribute__") ⟨[.ref a, .str "__class__" tk], []⟩) R ⟨h, g, d, t, os⟩ :=
  codeAny_call_builtin (by decide +kernel) PySem.F.entry_bexc_ga (xcls_check Z X hx hc (xcls_entry Z X hx hc hq))
theorem xcls_by {tk : Tok} {fill expr : Bool} {Q : Value → Shared → Prop} (Z : XGet K C) (X : K.In h) (hx : h.get? a = some o) (hc : o.cls = .ref C) (hq : Q (.ref C) ⟨h, g, d, t, os⟩) :
    wpAny (model prog w) A (getAttrBy (.ref a) (.str "__class__" tk) fill expr) Q E ⟨h, g, d, t, os⟩ := by
  have hx0 : (expr && onTheHeap (Value.builtin "BaseException.__getattribute__")) = false := by cases expr <;> rfl
  have hx2 : (Value.builtin "BaseException.__getattribute__" == Value.builtin "object.__getattribute__") = false := by decide +kernel
  have hx1 : (onTheHeap (Value.ref C) && Value.builtin "BaseException.__getattribute__" == Value.builtin "object.__getattribute__") = false := by rw [hx2]; rfl
  have f3 : bindSpecial (.builtin "BaseException.__getattribute__") (.ref a) = pure (.builtin "BaseException.__getattribute__", [.ref a]) := by
    first | rfl | kernel_rfl
  repeat (any_goals (first | assumption | (with_reducible refine wpAny_loadPart_at hx ?_; rw [hc]) | with_reducible refine (looks_findIn X Z.ga).at ?_ | with_reducible refine (looks_findIn X Z.gt).at ?_ | wp_step))
  refine xcls_call Z X hx hc ?_
  repeat (any_goals (first | assumption | wp_step))
theorem xcls_attr {Q:Option Value→Shared→Prop} (Z:XGet K C) (X:K.In h) (hx:h.get? a=some o) (hc:o.cls=.ref C) (hq:Q (some (.ref C)) ⟨h,g,d,t+1,os⟩):wpAny (model prog w) A (getAttr? (.ref a) "__class__") Q E ⟨h,g,d,t,os⟩:=by
 unfold getAttr? getAttrBy?
 repeat (any_goals (first | assumption | with_reducible apply xcls_by Z X hx hc | wp_step))
theorem kitx_exc (Z:XGet K C):KitX K (.ref a) (.ref C) (fun h=>∃ o,h.get? a=some o∧o.cls=.ref C) where
 ty:=fun _ _ _ ⟨o,h1,h2⟩=>h2 ▸ (Looks.ld h1).andThen .now
 it:=fun _ _ X _=>by
  have hc:=Z.is
  unfold isClsIn clsIn at hc
  split at hc
  ·rename_i c' d' cd' sl' ho
   intro A' Q' E' s' k q
   unfold isType loadHead
   exact wpAny_bind (wpAny_loadPart (k _ _ (X _ _ ho)) (wpAny_pure q))
  ·cases hc
 ne:=fun h tp dd its n sl X htp=>by
  have hc:=Z.is
  refine Bool.eq_false_iff.mpr fun q=>?_
  have e:C=tp:=Value.ref.inj (beq_iff_eq.mp q)
  subst e
  unfold isClsIn clsIn at hc
  split at hc
  ·rename_i c' d' cd' sl' ho
   have z:=(X _ _ ho).symm.trans htp
   cases z
  ·cases hc
 ca:=fun {_ _ _ _ _ s} X p k=>by
  obtain ⟨h,g,d,t,os⟩:=s
  obtain ⟨o,h1,h2⟩:=p
  exact xcls_attr Z X h1 h2 k
end
end Fy
set_option Elab.async false
set_option linter.all false
set_option maxRecDepth 100000
set_option maxHeartbeats 4000000
namespace Fy
open PySem PySem.Spec PySem.Calls PyProof.Rows
open L2 (V Hp HO VK XK TE TT TA TS TI Cx Inv RelV Vals SqL SqT Rd upd upd_same upd_ne PE PT PA PS PSs EP TP SP PI PG PIE Turn FpOk Ends HOk frs thn OpR CallR)
theorem kit_of {K:PySem.W.Frag} {t c:Value} {b:Bool} (h:PySem.W.exmOne K t c=some b) (hb:(t == c)=true→b=true):PySem.W.kitOne K t c=some b:=by
 unfold PySem.W.exmOne at h
 unfold PySem.W.kitOne
 split
 ·rename_i q; rw [hb q]
 ·split at h
  ·exact h
  ·cases h
section
variable {X:Cx} {F:Nat→List D→M D} {W:WX}
noncomputable def rIsx (K:PySem.W.Frag) (cs xl:List Nat) (cv:V):List V→Hp→VK→Prop:=fun xs H Q=>∃ x,xs=[x,cv]∧rU K (.isx cs xl) x H Q
theorem call_isxD (cs xl:List Nat) (cv:V) (cu:Value) (hr:∀ u,RelV cv u→u=cu) (hk:∀ j D,ClsAt X.K j D→xl.contains j=true→XGet X.K D∧PySem.W.kitOne X.K (.ref D) cu=some (cs.contains j)):CallR X (.builtin "isinstance") (rIsx X.K cs xl cv):=by
 rintro pins s σ H xs us Q I rv ⟨x,rfl,w,ρ,h,d,r,hd,p⟩
 obtain ⟨u,w',rfl,ru,rw'⟩:=L2.Vals.two rv
 cases hr _ rw'
 cases d with
 | ref i =>
  have p:PostV X.K w Q ρ H (match h[i]? with | some (.xc c)=>if xl.contains c then .ok (.bl (cs.contains c)) h else .bad | _=>.bad):=p
  split at p
  ·rename_i c z
   obtain ⟨hc,p⟩:=PostV.ite (c:=xl.contains c=true) p
   obtain ⟨a,h1,C,h2,h3⟩:=r.obj i _ z
   obtain ⟨a',h4,rfl⟩:=hd
   rw [h1] at h4
   cases h4
   cases ru
   obtain ⟨⟨o,k1,k2⟩,_⟩:=I.hok a _ h3
   obtain ⟨Z,hkk⟩:=hk c C h2 hc
   exact PySem.W.kia_one (kitx_exc Z) I.kIn ⟨o,k1,k2⟩ hkk (fun z=>nomatch z) fun tk=>⟨.bl (cs.contains c),H,I.tok tk,rfl,PostV.now p r rfl⟩
  ·exact False.elim p
 | _=>exact (show False from p).elim
theorem d_isx {a : Expr} {ca : CE} {cs xl : List Nat} {cv : V} {cu : Value} {x y : Str} {p1 p2 pos : Pos} (hx : x = "isinstance") (hg : L2.Gl X x) (hm : X.mg x = none) (hy : PE X (.Name y p2) (L2.tC cv)) (hr : ∀ u, RelV cv u → u = cu)
    (hk : ∀ j D, ClsAt X.K j D → xl.contains j = true → XGet X.K D ∧ PySem.W.kitOne X.K (.ref D) cu = some (cs.contains j)) (ha : PE X a (tD X.K W (den F ca))) (hst : starEach [a, .Name y p2] X.env = [(false, eval a X.env), (false, eval (.Name y p2) X.env)]) :
    PE X (.Call (.Name x p1) [a, .Name y p2] [] pos) (tD X.K W (den F (.un (.isx cs xl) ca))) := by
  subst hx
  refine PE.imp (L2.pe_callB (call_isxD cs xl cv cu hr hk) hg hm boot_isinstance (L2.pa_cons ha (L2.pa_cons hy L2.pa_nil (by rfl)) (by rw [hst]; rfl)) (he := by rw [hst]; rfl)) fun σ H Q q => ?_
  obtain ⟨ρ, env, h, s, r', p⟩ := one q
  exact ⟨ρ, env, h, s, r', Post.imp p fun ρ' H' d q v hv => ⟨v, rfl, q v hv⟩⟩
end
end Fy
set_option Elab.async false
set_option linter.all false
set_option maxRecDepth 100000
set_option maxHeartbeats 4000000
namespace Fy
open PySem PySem.Spec PySem.Calls PyProof.Rows
open L2 (V Hp HO VK XK TE TT TA TS TI Cx Inv RelV Vals SqL SqT Rd upd upd_same upd_ne PE PT PA PS PSs EP TP SP PI PG PIE Turn FpOk Ends HOk frs thn OpR CallR)
noncomputable def vl (l:List Nat) (a:Nat):Nat:=l.foldl (fun a d=>a * 256+d) a
section
variable {K:PySem.W.Frag} {ρ:List Addr} {H:Hp} {C:Addr}
end
section
variable {X:Cx} {F:Nat→List D→M D} {B:Nat} {W:WX}
end
end Fy
set_option Elab.async false
set_option linter.all false
set_option maxRecDepth 100000
set_option maxHeartbeats 4000000
namespace Fy
open PySem PySem.Spec PySem.Calls PyProof.Rows
open L2 (V Hp HO VK XK TE TT TA TS TI Cx Inv RelV Vals SqL SqT Rd upd upd_same upd_ne PE PT PA PS PSs EP TP SP PI PG PIE Turn FpOk Ends HOk frs thn OpR CallR)
section
variable {X:Cx} {F:Nat→List D→M D} {B:Nat} {W:WX} {ex:Nat→Option Addr} {k:Nat}
noncomputable def MtOk (X:Cx) (F:Nat→List D→M D) (k:Nat) (ex:Nat→Option Addr) (m:Str) (tb:List (Nat × Nat)):Prop :=
 ∀ cc fi C,tbN tb cc=some fi→ClsAt X.K cc C→L2.Cls X.K C∧∃ f fd ps,L2.Meth X.K C m f∧L2.Binds X.K fd ps []∧L2.FnOk X.prog X.w X.K X.mg X.base (CXD X.prog X.w ex) k f fd ps (spD X.K (F fi))
end
end Fy
set_option Elab.async false
set_option linter.all false
set_option maxRecDepth 100000
set_option maxHeartbeats 4000000
namespace Fy
open PySem PySem.Spec PySem.Calls PyProof.Rows
open L2 (V Hp HO VK XK TE TT TA TS TI Cx Inv RelV Vals SqL SqT Rd upd upd_same upd_ne PE PT PA PS PSs EP TP SP PI PG PIE Turn FpOk Ends HOk frs thn OpR CallR)
section
variable {X:Cx} {F:Nat→List D→M D} {B:Nat} {W:WX}
end
end Fy
set_option Elab.async false
set_option linter.all false
set_option maxRecDepth 100000
set_option maxHeartbeats 4000000
namespace Fy
open PySem PySem.Spec PyProof.Rows
open L2 (V Hp HO VK TE TT TA TS TI Cx Inv RelV Vals SqL SqT Rd upd upd_same upd_ne PE PT PA PS PSs EP OpR CallR IxR MtR SlR PO TO PI PG PIE Turn FpOk Ends)
inductive GK where
 | fn (i:Nat) | con (d:D) | blt | exc (c:Nat) | cls (c f:Nat)
structure Cc where
 N:List Str
 sc:Scope
 G:List (Str × GK)
 xs:List (Nat × List Nat)
 calm:Bool
 rs:Bool
 M:List (Str × Nat × List (Nat × Nat))
 A:List (Str × Nat × List Nat)
noncomputable def Cc.slot (c:Cc) (x:Str):Option Nat:=match c.sc.names.lookup x with
 | some .local=>if x == "__debug__" || x == "__classdict__" then none else c.N.idxOf? x
 | some .cell=>if x == "__debug__" || x == "__classdict__" then none else c.N.idxOf? x
 | some .free=>if x == "__debug__" || x == "__classdict__" then none else c.N.idxOf? x
 | _=>none
noncomputable def Cc.own (c:Cc) (x:Str):Option Nat:=match c.sc.names.lookup x with
 | some .local=>c.N.idxOf? x
 | some .cell=>c.N.idxOf? x
 | _=>none
noncomputable def Cc.glob (c:Cc) (x:Str):Option GK:=match c.sc.names.lookup x with
 | some .globalImplicit=>if x == "__debug__" || x == "__name__" then none else c.G.lookup x
 | _=>none
noncomputable def Cc.isB (c:Cc) (x:Str):Bool:=match c.glob x with
 | some .blt=>true
 | _=>false
noncomputable def Cc.isX (c:Cc) (y:Str):Option (List Nat × List Nat):=match c.xs.lookup 1 with
 | some xl=>match c.glob y with
  | some (.exc i)=>(c.xs.lookup i).map fun cs=>(cs,xl)
  | some .blt=>if y="ValueError" then (c.xs.lookup 0).map fun cs=>(cs,xl) else none
  | _=>none
 | none=>none
noncomputable def Cc.loc (c:Cc) (x:Str):Option Nat:=match c.sc.names.lookup x with
 | some .local=>c.N.idxOf? x
 | _=>none
noncomputable def cConst:Const→Option CE
 | .none=>some (.lit .non)
 | .bool b=>some (.lit (.bl b))
 | .int i=>some (.lit (.int i))
 | .str s=>some (.lit (.str s.cps.toList))
 | _=>none
noncomputable def binO:Operator→Option Bi
 | .Add=>some .add | .Sub=>some .sub | .Mult=>some .mul | .FloorDiv=>some .fdiv | .Mod=>some .mod | .Pow=>some .pow
 | _=>none
noncomputable def cmpO:CmpOp→Option Bi
 | .Eq=>some .eq | .NotEq=>some .ne | .Lt=>some .lt | .LtE=>some .le | .Gt=>some .gt | .GtE=>some .ge | .In=>some .isin | .NotIn=>some .notin
 | _=>none
noncomputable def bi1 (x:Str):Option Un:=if x="len" then some .len else if x="ord" then some .ord else if x="str" then some .str else if x="int" then some .int else if x="tuple" then some .tuple else none
noncomputable def bi1c (x:Str):Option Un:=if x="all" then some .all else none
noncomputable def bi2 (x:Str):Option Bi:=if x="min" then some .min2 else if x="max" then some .max2 else none
noncomputable def tyN (x:Str):Option Ty:=if x="int" then some .int else if x="str" then some .str else if x="bool" then some .bool else if x="list" then some .list else if x="tuple" then some .tuple else none
noncomputable def me1 (x:Str):Option Bi:=if x="append" then some .append else if x="find" then some .find else if x="zfill" then some .zfill else if x="join" then some .join else if x="split" then some .split else if x="partition" then some .part else if x="rpartition" then some .rpart else none
noncomputable def noStar:Expr→Bool
 | .Starred _ _=>false
 | _=>true
noncomputable def noSlice:Expr→Bool
 | .Slice _ _ _ _=>false
 | _=>true
noncomputable def noSuper:Expr→Bool
 | .Call (.Name _ _) [] [] _=>false
 | _=>true
noncomputable def plainT:Expr→Bool
 | .UnaryOp _ _ _=>false
 | .BoolOp _ _ _=>false
 | .IfExp _ _ _ _=>false
 | .Compare _ _ _ _=>false
 | _=>true
noncomputable def noSet:Expr→Bool
 | .Set _ _ _=>false
 | _=>true
noncomputable def isBool:Expr→Option Bool
 | .Constant (.bool b) _ _=>some b
 | _=>none
noncomputable def isNone:Expr→Bool
 | .Constant .none _ _=>true
 | _=>false
noncomputable def relabS (scope sc:Scope):Scope:={ scope with names:=scope.names.map fun (n,k)=>if (k == .free && sc.kind == .function && sc.names.lookup n == some .cell) then (n,.cell) else (n,k) }
noncomputable def Cc.inner (c:Cc) (x:Str) (scope:Scope):Cc:=⟨maskN c.N x++[x],relabS scope c.sc,c.G,c.xs,c.calm,false,c.M,c.A⟩
noncomputable def Cc.compOk (c:Cc) (x:Str) (scope:Scope):Bool :=
 decide (scope.kind=.function) && scope.names.all (fun y=>decide (y.2 ≠ .cell)) && scope.names.all (fun y=>decide (y.2=.local→scope.names.lookup y.1=some .local)) && decide (scope.names.lookup x=some .local)
  && scope.names.all (fun y=>decide (y.2=.free→c.sc.names.lookup y.1=some .cell ∨ c.sc.names.lookup y.1=some .free)) && (decide (x ≠ noN) && (decide (x ∉ c.N) || (decide (noN ∉ c.N) && decide (scope.names.lookup noN=none)))) && scope.names.all (fun y=>decide (y.1 ≠ x→y.2=.local→y.1 ∉ c.N))
noncomputable def need {α:Type} (b:Bool) (x:α):Option α:=match b with
 | true=>some x
 | false=>none
theorem need_ok {α:Type} {b:Bool} {x r:α} (h:need b x=some r):b=true∧x=r:=by
 cases b with
 | true=>exact ⟨rfl,Option.some.inj h⟩
 | false=>cases h
theorem bd_ok {α β:Type} {o:Option α} {f:α→Option β} {r:β} (h:o.bind f=some r):∃ a,o=some a∧f a=some r:=by
 cases o with
 | none=>cases h
 | some a=>exact ⟨a,rfl,h⟩
structure Rc where
 e:Cc→Expr→Option CE
 cmp:Cc→Expr→CmpOp→Expr→Option CE
 b:Cc→Str→List Expr→Option CE
 l:Cc→List Expr→Option CL
 o:Cc→Option Expr→Option CP
 t:Cc→Expr→Option CT
 tb:Cc→BoolOp→List Expr→Option CT
 i:Cc→Expr→Option CI
noncomputable def isSl:Expr→Option (Option Expr × Option Expr)
 | .Slice lo hi st _=>match st with
  | none=>some (lo,hi)
  | some _=>none
 | _=>none
theorem isSl_of {b:Expr} {q:Option Expr × Option Expr} (h:isSl b=some q):∃ p,b=.Slice q.1 q.2 none p:=by
 cases b with
 | Slice l u s p =>
  cases s with
  | none=>cases h; exact ⟨p,rfl⟩
  | some _=>cases h
 | _=>cases h
noncomputable def isOne:Expr→Bool
 | .Constant (.int i) _ _=>decide (i=1)
 | _=>false
noncomputable def isM1:Expr→Bool
 | .UnaryOp .USub a _=>isOne a
 | _=>false
noncomputable def isRev:Expr→Bool
 | .Slice none none (some e) _=>isM1 e
 | _=>false
noncomputable def isF:Expr→Option Expr
 | .FormattedValue a cv sp _=>match sp with
  | none=>need (decide (cv=-1)) a
  | some _=>none
 | _=>none
theorem isF_of {b a:Expr} (h:isF b=some a):∃ p,b=.FormattedValue a (-1) none p:=by
 cases b with
 | FormattedValue v cv s p =>
  cases s with
  | none =>
   obtain ⟨h1,rfl⟩:=need_ok h
   rw [of_decide_eq_true h1]
   exact ⟨p,rfl⟩
  | some _=>cases h
 | _=>cases h
noncomputable def isS:Expr→Option Str
 | .Constant k _ _=>match k with
  | .str s=>some s
  | _=>none
 | _=>none
theorem isS_of {b:Expr} {s:Str} (h:isS b=some s):∃ j p,b=.Constant (.str s) j p:=by
 cases b with
 | Constant k j p =>
  cases k with
  | str s=>cases h; exact ⟨j,p,rfl⟩
  | _=>cases h
 | _=>cases h
noncomputable def isNm:Expr→Option Str
 | .Name x _=>some x
 | _=>none
theorem isNm_of {b:Expr} {s:Str} (h:isNm b=some s):∃ p,b=.Name s p:=by
 cases b with
 | Name x p=>cases h; exact ⟨p,rfl⟩
 | _=>cases h
structure Gn where
 x:Str
 p:Pos
 iter:Expr
 ifs:List Expr
noncomputable def isGen:List Comprehension→Option Gn
 | []=>none
 | g::r=>match r with
  | []=>match g.target with
   | .Name x p=>need (decide (g.is_async=0)) ⟨x,p,g.iter,g.ifs⟩
   | _=>none
  | _::_=>none
theorem isGen_of {gs:List Comprehension} {q:Gn} (h:isGen gs=some q):gs=[⟨.Name q.x q.p,q.iter,q.ifs,0⟩]:=by
 cases gs with
 | nil=>cases h
 | cons g r =>
  cases r with
  | cons _ _=>cases h
  | nil =>
   obtain ⟨t,it,f,a⟩:=g
   cases t with
   | Name x p =>
    obtain ⟨h1,rfl⟩:=need_ok h
    have h2:a=0:=of_decide_eq_true h1
    subst h2
    rfl
   | _=>cases h
noncomputable def sName (c:Cc) (x:Str):Option CE:=match c.slot x with
 | some i=>some (.var i)
 | none=>match c.glob x with
  | some (.con d)=>some (.lit d)
  | _=>none
noncomputable def sUn (r:Rc) (c:Cc) (a:Expr):UnaryOp→Option CE
 | .Not=>(r.e c a).bind fun x=>some (.not x)
 | .USub=>(r.e c a).bind fun x=>some (.un .neg x)
 | _=>none
noncomputable def sBool (r:Rc) (c:Cc) (op:BoolOp) (pos:Pos):List Expr→Option CE
 | []=>none
 | a::es=>match es with
  | []=>r.e c a
  | b::es=>(r.e c a).bind fun x=>(r.e c (.BoolOp op (b::es) pos)).bind fun y=>some (match op with | .And=>.and x y | .Or=>.or x y)
noncomputable def sChain (r:Rc) (c:Cc) (a:Expr) (op op':CmpOp) (b d:Expr):Option CE :=
 (cmpO op).bind fun o=>(cmpO op').bind fun p=>(r.e c a).bind fun x=>(r.e c b).bind fun y=>(r.e c d).bind fun z=>need (!lastMarks [op,op'] [b,d]) (.chain o p x y z)
noncomputable def sCompare (r:Rc) (c:Cc) (a:Expr) (ops:List CmpOp) (cs:List Expr):Option CE:=match ops with
 | []=>none
 | op::ops=>match cs with
  | []=>none
  | b::cs=>match ops with
   | []=>match cs with
    | []=>r.cmp c a op b
    | _::_=>none
   | op'::ops=>match ops with
    | _::_=>none
    | []=>match cs with
     | []=>none
     | d::cs=>match cs with
      | []=>sChain r c a op op' b d
      | _::_=>none
noncomputable def sSub (r:Rc) (c:Cc) (a b:Expr):Option CE:=match isRev b with
 | true=>none
 | false=>match isSl b with
  | some q=>(r.e c a).bind fun x=>(r.o c q.1).bind fun l=>(r.o c q.2).bind fun u=>some (.sl x l u)
  | none=>(r.e c a).bind fun x=>(r.e c b).bind fun y=>need (noSlice b) (.bi .ix x y)
noncomputable def sCallN (r:Rc) (c:Cc) (x:Str) (es:List Expr):Option GK→Option CE
 | some (.fn i)=>match es with
  | []=>need c.calm (.call i .nil)
  | e::es=>(r.l c (e::es)).bind fun l=>need c.calm (.call i l)
 | some .blt=>r.b c x es
 | _=>none
noncomputable def sMeth (r:Rc) (c:Cc) (m:Str) (ok:Bool) (x:CE) (es:List Expr):Option (Nat × List (Nat × Nat))→Option CE
 | some _=>none
 | none=>match es with
  | []=>none
  | b::es=>match es with
   | []=>(me1 m).bind fun o=>(r.e c b).bind fun y=>need (ok && noStar b) (.me o x y)
   | d::es=>match es with
    | []=>match decide (m="setdefault") with
     | true=>none
     | false=>(r.e c b).bind fun y=>(r.e c d).bind fun z=>need (ok && noStar b && noStar d && decide (m="split")) (.splm x y z)
    | _::_=>none
noncomputable def sCall (r:Rc) (c:Cc) (f:Expr) (es:List Expr) (ks:List Keyword) (p:Pos):Option CE:=match ks with
 | _::_=>none
 | []=>match f with
  | .Name x _=>sCallN r c x es (c.glob x)
  | .Attribute a m ap=>(r.e c a).bind fun x=>sMeth r c m (noSuper a && (ap.endLine == p.line)) x es (c.M.lookup m)
  | _=>none
noncomputable def sJoin (r:Rc) (c:Cc):List Expr→Option CE
 | [f,k,g]=>(isF f).bind fun a=>(isS k).bind fun s=>(isF g).bind fun b=>(r.e c a).bind fun x=>(r.e c b).bind fun y=>some (.bi .add (.bi .add x (.lit (.str s.cps.toList))) y)
 | _=>none
noncomputable def sComp (r:Rc) (c:Cc) (elt:Expr) (scope:Scope) (q:Gn):Option CE:=match q.ifs with
 | []=>(r.i c q.iter).bind fun it=>(r.e (c.inner q.x scope) elt).bind fun y=>need (c.calm && c.compOk q.x scope) (.comp y it)
 | t::ts=>match ts with
  | []=>(r.i c q.iter).bind fun it=>(r.t (c.inner q.x scope) t).bind fun z=>(r.e (c.inner q.x scope) elt).bind fun y=>need (c.calm && c.compOk q.x scope) (.compIf y z it)
  | _::_=>none
noncomputable def eS (r:Rc) (c:Cc):Expr→Option CE
 | .Constant k _ _=>cConst k
 | .Name x _=>sName c x
 | .BinOp a op b _=>(binO op).bind fun o=>(r.e c a).bind fun x=>(r.e c b).bind fun y=>some (.bi o x y)
 | .UnaryOp op a _=>sUn r c a op
 | .BoolOp op es pos=>sBool r c op pos es
 | .IfExp t a b _=>(r.t c t).bind fun z=>(r.e c a).bind fun x=>(r.e c b).bind fun y=>some (.ite z x y)
 | .Compare a ops cs _=>sCompare r c a ops cs
 | .Tuple es _ _=>(r.l c es).bind fun l=>some (.tup l)
 | .List es _=>(r.l c es).bind fun l=>some (.lst l)
 | .Subscript a b _=>sSub r c a b
 | .Call f es ks p=>sCall r c f es ks p
 | .JoinedStr es _=>sJoin r c es
 | .ListComp elt gens scope _=>(isGen gens).bind fun q=>sComp r c elt scope q
 | _=>none
noncomputable def sIs (u:Un) (v:Bool→Un) (x:CE) (b:Expr):Option CE:=match isNone b with
 | true=>some (.un u x)
 | false=>(isBool b).bind fun k=>some (.un (v k) x)
noncomputable def sCmp (r:Rc) (c:Cc) (a:Expr) (op:CmpOp) (b:Expr):Option CE:=(cmpO op).bind fun o=>(r.e c a).bind fun x=>(r.e c b).bind fun y=>need (!behindInMarks op b) (.bi o x y)
noncomputable def cmpS (r:Rc) (c:Cc) (a:Expr) (op:CmpOp) (b:Expr):Option CE:=match op with
 | .Is=>(r.e c a).bind fun x=>sIs .isN .isB x b
 | .IsNot=>(r.e c a).bind fun x=>sIs .notN .nsB x b
 | op=>sCmp r c a op b
noncomputable def sIsi (r:Rc) (c:Cc) (a:Expr) (y:Str):Option CE:=(r.e c a).bind fun z=>match tyN y with
 | some t=>need (noStar a && c.isB y) (.un (.isi t) z)
 | none=>(c.isX y).bind fun q=>need (noStar a) (.un (.isx q.1 q.2) z)
noncomputable def sB1 (c:Cc) (x:Str) (a:Expr) (y:CE):Option CE:=match bi1 x with
 | some o=>need (noStar a) (.un o y)
 | none=>(bi1c x).bind fun o=>need (noStar a && c.calm) (.un o y)
noncomputable def sB2 (r:Rc) (c:Cc) (x:Str) (a b:Expr):Option CE:=(bi2 x).bind fun o=>(r.e c a).bind fun u=>(r.e c b).bind fun v=>need (noStar a && noStar b && c.calm) (.bi o u v)
noncomputable def bS (r:Rc) (c:Cc) (x:Str):List Expr→Option CE
 | []=>none
 | a::es=>match es with
  | []=>(r.e c a).bind fun y=>sB1 c x a y
  | b::es=>match es with
   | []=>match decide (x="isinstance") with
    | true=>(isNm b).bind fun y=>sIsi r c a y
    | false=>sB2 r c x a b
   | _::_=>none
noncomputable def lS (r:Rc) (c:Cc):List Expr→Option CL
 | []=>some .nil
 | e::es=>(r.e c e).bind fun x=>(r.l c es).bind fun l=>need (noStar e) (.cons x l)
noncomputable def oS (r:Rc) (c:Cc):Option Expr→Option CP
 | none=>some .no
 | some e=>(r.e c e).bind fun x=>some (.at x)
noncomputable def sT (r:Rc) (c:Cc) (e:Expr):Option CT:=(r.e c e).bind fun x=>need (plainT e) (.val x)
noncomputable def tS (r:Rc) (c:Cc) (e:Expr):Option CT:=match e with
 | .UnaryOp op a _=>match op with
  | .Not=>(r.t c a).bind fun x=>some (.not x)
  | _=>none
 | .BoolOp op es _=>r.tb c op es
 | .Compare a ops cs _=>(sCompare r c a ops cs).bind fun x=>some (.val x)
 | e=>sT r c e
noncomputable def tbS (r:Rc) (c:Cc) (op:BoolOp):List Expr→Option CT
 | []=>none
 | a::es=>match es with
  | []=>r.t c a
  | b::es=>(r.t c a).bind fun x=>(r.tb c op (b::es)).bind fun y=>some (match op with | .And=>.and x y | .Or=>.or x y)
noncomputable def isRg:Expr→Option (List Expr)
 | .Call f es ks _=>match ks with
  | []=>match f with
   | .Name x _=>need (decide (x="range")) es
   | _=>none
  | _::_=>none
 | _=>none
theorem isRg_of {e:Expr} {es:List Expr} (h:isRg e=some es):∃ p q,e=.Call (.Name "range" p) es [] q:=by
 cases e with
 | Call f es ks q =>
  cases ks with
  | cons _ _=>cases h
  | nil =>
   cases f with
   | Name x p =>
    obtain ⟨h1,rfl⟩:=need_ok h
    rw [of_decide_eq_true h1]
    exact ⟨p,q,rfl⟩
   | _=>cases h
 | _=>cases h
noncomputable def sRg (r:Rc) (c:Cc):List Expr→Option CI
 | []=>none
 | a::es=>match es with
  | []=>(r.e c a).bind fun y=>need (noStar a && c.isB "range") (.rng1 y)
  | b::es=>match es with
   | []=>(r.e c a).bind fun y=>(r.e c b).bind fun z=>need (noStar a && noStar b && c.isB "range") (.rng2 y z)
   | _::_=>none
noncomputable def iS (r:Rc) (c:Cc) (e:Expr):Option CI:=match isRg e with
 | some es=>sRg r c es
 | none=>(r.e c e).bind fun y=>need (noSet e) (.of y)
noncomputable def nextR (r:Rc):Rc:=⟨eS r,cmpS r,bS r,lS r,oS r,tS r,tbS r,iS r⟩
noncomputable def rcN:Nat→Rc
 | 0=>⟨fun _ _=>none,fun _ _ _ _=>none,fun _ _ _=>none,fun _ _=>none,fun _ _=>none,fun _ _=>none,fun _ _ _=>none,fun _ _=>none⟩
 | n+1=>nextR (rcN n)
noncomputable def isComp:Expr→Bool
 | .ListComp _ gs _ _=>match isGen gs with
  | some q=>decide (q.ifs.length≤1)
  | none=>false
 | _=>false
noncomputable def noComp:Expr→Bool
 | .ListComp _ _ _ _=>false
 | .SetComp _ _ _ _=>false
 | .DictComp _ _ _ _ _=>false
 | _=>true
noncomputable def Cc.still (c:Cc):Cc:={ c with rs:=false }
noncomputable def Cc.dull (c:Cc):Cc:={ c with rs:=false,calm:=false }
structure Rs where
 s:Cc→Stmt→Option CS
 ss:Cc→List Stmt→Option CS
 h:Cc→List ExceptHandler→Option CH
noncomputable def sSet (r:Rc) (c:Cc) (e:Expr):Expr→Option CS
 | .Name x _=>(c.own x).bind fun i=>(r.e c e).bind fun y=>need (noComp e || isComp e) (.set (.nm i) y)
 | _=>none
noncomputable def isTg (c:Cc):Expr→Option TG
 | .Name x _=>(c.own x).bind fun i=>some (.nm i)
 | _=>none
noncomputable def isRs:Expr→Option Str
 | .Call f es ks _=>match ks with
  | []=>match es with
   | [k]=>(isS k).bind fun _=>isNm f
   | _=>none
  | _::_=>none
 | _=>none
theorem isRs_of {e:Expr} {x:Str} (h:isRs e=some x):∃ p s j q z,e=.Call (.Name x p) [.Constant (.str s) j q] [] z:=by
 cases e with
 | Call f es ks z =>
  cases ks with
  | cons _ _=>cases h
  | nil =>
   cases es with
   | nil=>cases h
   | cons k es =>
    cases es with
    | cons _ _=>cases h
    | nil =>
     obtain ⟨s,h1,h2⟩:=bd_ok h
     obtain ⟨j,q,rfl⟩:=isS_of h1
     obtain ⟨p,rfl⟩:=isNm_of h2
     exact ⟨p,s,j,q,z,rfl⟩
 | _=>cases h
noncomputable def sRaise (c:Cc) (x:Str):Option CS:=match c.glob x with
 | some (.exc i)=>need (c.rs && c.calm) (.raise i)
 | _=>none
noncomputable def sTry (q:Rs) (c:Cc) (a:List Stmt) (hs:List ExceptHandler) (els fin:List Stmt):Option CS:=match hs with
 | []=>none
 | h::hs=>match els with
  | _::_=>none
  | []=>match fin with
   | _::_=>none
   | []=>(q.ss c.still a).bind fun x=>(q.h c (h::hs)).bind fun y=>need c.calm (.tryx x y)
noncomputable def stS (r:Rc) (q:Rs) (c:Cc):Stmt→Option CS
 | .Assign ts e _=>match ts with
  | [t]=>sSet r c e t
  | _=>none
 | .Expr e _=>(r.e c e).bind fun y=>need (noComp e) (.exp y)
 | .Return v _=>match v with
  | some e=>(r.e c e).bind fun y=>some (.ret y)
  | none=>some .retN
 | .Pass _=>some .skip
 | .Break _=>some .brk
 | .Continue _=>some .cnt
 | .If t a b _=>(r.t c t).bind fun z=>(q.ss c a).bind fun x=>(q.ss c b).bind fun y=>some (.ite z x y)
 | .For tg it a els _=>match els with
  | []=>(isTg c tg).bind fun t=>(r.i c it).bind fun z=>(q.ss c.still a).bind fun y=>need c.calm (.fori t z y)
  | _::_=>none
 | .Raise x y _=>match y with
  | some _=>none
  | none=>match x with
   | none=>none
   | some e=>(isRs e).bind fun x=>sRaise c x
 | .Try a hs els fin _=>sTry q c a hs els fin
 | _=>none
noncomputable def ssS (q:Rs) (c:Cc):List Stmt→Option CS
 | []=>some .skip
 | s::r=>match r with
  | []=>some ((q.s c s).getD .opq)
  | t::r=>(q.ss c (t::r)).bind fun y=>some (.seq ((q.s c s).getD .opq) y)
noncomputable def sH (q:Rs) (c:Cc) (i:Nat) (nm:Option Str) (b:List Stmt) (r:List ExceptHandler):Option CH:=match b with
 | []=>none
 | s::b=>(c.xs.lookup i).bind fun cs=>(q.ss c.dull (s::b)).bind fun k=>(q.h c r).bind fun z=>match nm with
  | none=>some (.cons cs k z)
  | some m=>(c.loc m).bind fun j=>some (.as cs j k z)
noncomputable def hS (q:Rs) (c:Cc):List ExceptHandler→Option CH
 | []=>some .nil
 | .ExceptHandler ty nm b _::r=>match ty with
  | none=>none
  | some t=>(isNm t).bind fun x=>match c.glob x with
   | some (.exc i)=>sH q c i nm b r
   | _=>none
noncomputable def nextS (r:Rc) (q:Rs):Rs:=⟨stS r q,ssS q,hS q⟩
noncomputable def rsN:Nat→Rs
 | 0=>⟨fun _ _=>none,fun _ _=>none,fun _ _=>none⟩
 | n+1=>nextS (rcN n) (rsN n)
noncomputable def cSs (c:Cc) (n:Nat) (b:List Stmt):Option CS:=(rsN n).ss c b
end Fy
set_option Elab.async false
set_option linter.all false
set_option maxRecDepth 100000
set_option maxHeartbeats 4000000
namespace Fy
open PySem PySem.Spec PyProof.Rows
open L2 (V Hp HO VK TE TT TA TS TI Cx Inv RelV Vals SqL SqT Rd upd upd_same upd_ne PE PT PA PS PSs EP OpR CallR IxR MtR SlR PO TO PI PG PIE Turn FpOk Ends)
noncomputable def GOk (X:Cx) (F:Nat→List D→M D) (k:Nat) (ex:Nat→Option Addr) (x:Str):GK→Prop
 | .fn i=>∃ f fd ps,X.mg x=some (.ref f)∧PySem.W.keepIn X.K (.ref f)=true∧L2.Binds X.K fd ps []∧L2.FnOk X.prog X.w X.K X.mg X.base (CXD X.prog X.w ex) k f fd ps (spD X.K (F i))
 | .con d=>∃ v u,X.mg x=some u∧RelV v u∧∀ ρ H,RepV X.K ρ H d v
 | .blt=>X.mg x=none
 | .exc c=>∃ C,X.mg x=some (.ref C)∧ex c=some C∧isXC X.K C=true
 | .cls c i=>∃ C f fd ps,X.mg x=some (.ref C)∧ClsAt X.K c C∧L2.Cls X.K C∧L2.Mk X.K C f∧L2.Binds X.K fd ps []∧L2.FnOk X.prog X.w X.K X.mg X.base (CXD X.prog X.w ex) k f fd ps (spD X.K (F i))
structure Body (X:Cx) (c:Cc) (F:Nat→List D→M D) (k:Nat) (ex:Nat→Option Addr) (W:WX):Prop where
 N:X.N=c.N
 nd:c.N.Nodup
 sc:X.env.scope=c.sc
 calm:c.calm=true→X.calm=true
 room:c.calm=true→L2.Room (k+1) X.A
 hu:X.A.units+64 < cLine
 glob:∀ x g,c.G.lookup x=some g→GOk X F k ex x g
 xq:∀ i cs xl C j D,c.xs.lookup i=some cs→c.xs.lookup 1=some xl→ex i=some C→ClsAt X.K j D→xl.contains j=true→PySem.W.kitOne X.K (.ref D) (.ref C)=some (cs.contains j)
 xv:∀ cs xl j D,c.xs.lookup 0=some cs→c.xs.lookup 1=some xl→ClsAt X.K j D→xl.contains j=true→PySem.W.kitOne X.K (.ref D) (.type "ValueError")=some (cs.contains j)
 mt:∀ m mk tb,c.M.lookup m=some (mk,tb)→m=nmOf mk∧mk < 256 ^ 60∧MtOk X F k ex m tb
 at':∀ f kk cs,c.A.lookup f=some (kk,cs)→f=nmOf kk∧kk < 256 ^ 60∧∀ cc C,cs.contains cc=true→ClsAt X.K cc C→L2.NoAttr X.K C (nmOf kk)
 xg:∀ xl j D,c.xs.lookup 1=some xl→ClsAt X.K j D→xl.contains j=true→XGet X.K D
 xc:∀ pins σ H s0 e s',Inv X pins σ H s0→CXD X.prog X.w ex X.stack H s0 (fun _ co H'=>∃ c,co=some c∧W c σ H') e s'→X.xe e s'
structure BodyS (X:Cx) (c:Cc) (F:Nat→List D→M D) (k:Nat) (ex:Nat→Option Addr) (W:WX):Prop extends Body X c F k ex W where
 fn:∀ x,X.fn x=true
 stk:X.stack=X.env::X.outer∧X.env.frame=some X.env.locals
 noex:X.ex=[]
 xcl:∀ i C,ex i=some C→ClsAt X.K i C
 xr:c.rs=true→∀ pins σ H s a args h' i C,ex i=some C→Inv X pins σ H s→Heap.MadeExcOf s.heap h' a (.ref C) args→W i σ H→X.xe (.ref a) { s with heap:=h' }
 xm:∀ i cs C j D,c.xs.lookup i=some cs→ex i=some C→ex j=some D→PySem.W.exmOne X.K (.ref D) (.ref C)=some (cs.contains j)
theorem idx_get {l:List Str} {x:Str} {i:Nat} (h:l.idxOf? x=some i):l[i]?=some x:=by
 unfold List.idxOf? at h
 rw [List.findIdx?_eq_some_iff_getElem] at h
 obtain ⟨h1,h2,_⟩:=h
 rw [List.getElem?_eq_getElem h1]
 simpa using h2
theorem star_cons {e:Expr} {es:List Expr} {env:PySem.Env} (h:noStar e=true):starEach (e::es) env=(false,eval e env)::starEach es env:=by
 cases e <;> first | rfl | cases h
theorem star_nil {env:PySem.Env}:starEach [] env=[]:=rfl
theorem star1 {e:Expr} {env:PySem.Env} (h:noStar e=true):starEach [e] env=[(false,eval e env)]:=by rw [star_cons h,star_nil]
theorem star2 {e e':Expr} {env:PySem.Env} (h:noStar e=true) (h':noStar e'=true):starEach [e,e'] env=[(false,eval e env),(false,eval e' env)]:=by rw [star_cons h,star1 h']
noncomputable def stars:List Expr→Bool
 | []=>true
 | e::es=>noStar e && stars es
theorem star_any {env:PySem.Env} {pos:Pos}:∀ {es:List Expr},stars es=true→(backTo pos (starEach es env)).any (·.1)=false
 | [],_=>rfl
 | e::es,h=>by
  have h:=Bool.and_eq_true_iff.mp h
  rw [star_cons h.1]
  show (false || (backTo pos (starEach es env)).any (·.1))=false
  rw [star_any h.2]
  rfl
theorem base_ok {o:Expr} {m:Str} {env:PySem.Env} {w:Sem Value} (h:noSuper o=true):attributeBase o m env w=w:=by
 cases o with
 | Call f es ks pos =>
  cases f with
  | Name id p =>
   cases es with
   | nil =>
    cases ks with
    | nil=>cases h
    | cons _ _=>rfl
   | cons _ _=>rfl
  | _=>rfl
 | _=>rfl
theorem ix_plain {b:Expr} (h:noSlice b=true):L2.PlainIx b:=by
 intro o i
 cases b <;> first | rfl | cases h
section
variable {X:Cx} {c:Cc} {F:Nat→List D→M D} {k B:Nat} {ex:Nat→Option Addr} {W:WX}
theorem Body.vis (T:Body X c F k ex W) {x:Str} {i:Nat} (h:c.slot x=some i):X.N[i]?=some x∧L2.Vis X.env.scope x∧(x == ("__debug__":Str))=false∧(x == ("__classdict__":Str))=false:=by
 unfold Cc.slot at h
 rw [T.N]
 have key:∀ {kd:NameKind},c.sc.names.lookup x=some kd→(kd=.local ∨ kd=.cell ∨ kd=.free)→(if (x == ("__debug__":Str) || x == ("__classdict__":Str))=true then none else c.N.idxOf? x)=some i→c.N[i]?=some x∧L2.Vis X.env.scope x∧(x == ("__debug__":Str))=false∧(x == ("__classdict__":Str))=false:=by
  intro kd hk hd hi
  split at hi
  ·cases hi
  ·rename_i hn
   refine ⟨idx_get hi,?_,?_⟩
   ·unfold L2.Vis
    rw [T.sc,hk]
    rcases hd with rfl | rfl | rfl <;> simp
   ·simpa using hn
 split at h
 ·rename_i hk; exact key hk (.inl rfl) h
 ·rename_i hk; exact key hk (.inr (.inl rfl)) h
 ·rename_i hk; exact key hk (.inr (.inr rfl)) h
 ·cases h
theorem Body.loc (T:Body X c F k ex W) {x:Str} {i:Nat} (h:c.own x=some i):X.N[i]?=some x∧L2.Loc X.env.scope x:=by
 unfold Cc.own at h
 rw [T.N]
 split at h
 ·rename_i hk
  refine ⟨idx_get h,.inl ?_⟩
  rw [T.sc]
  exact hk
 ·rename_i hk
  refine ⟨idx_get h,.inr ?_⟩
  rw [T.sc]
  exact hk
 ·cases h
theorem Body.gl (T:Body X c F k ex W) {x:Str} {g:GK} (h:c.glob x=some g):L2.Gl X x∧(x == ("__debug__":Str))=false∧x ≠ "__name__"∧GOk X F k ex x g:=by
 unfold Cc.glob at h
 split at h
 ·rename_i hk
  split at h
  ·cases h
  ·rename_i hn
   refine ⟨?_,by revert hn; cases (x == ("__debug__":Str)) <;> simp,fun z=>hn (by simp [z]),T.glob x g h⟩
   show X.env.scope.names.lookup x=_
   rw [T.sc]
   exact hk
 ·cases h
theorem Body.nd' (T:Body X c F k ex W):X.N.Nodup:=by rw [T.N]; exact T.nd
theorem binO_ok {op:Operator} {o:Bi} (h:binO op=some o):OpR X (binaryOp op) (rB X.K o):=by
 cases op <;> first | (cases h; first | exact op_addD | exact op_subD | exact op_mulD | exact op_fdivD | exact op_modD | exact op_powD) | cases h
theorem cmpO_ok (T:Body X c F k ex W) {op:CmpOp} {o:Bi} (h:cmpO op=some o):isCmp o=true∧OpR X (compareOp op) (rB X.K o):=by
 cases op <;> first
  | (cases h; exact ⟨rfl,by first | exact op_eqD T.hu | exact op_neD T.hu | exact op_ltD | exact op_leD | exact op_gtD | exact op_geD | exact op_inD T.hu | exact op_notinD⟩)
  | cases h
theorem bi1_ok (T:Body X c F k ex W) {x:Str} {o:Un} {a:Expr} {ca:CE} {p pos:Pos} (h:bi1 x=some o) (hg:c.glob x=some .blt) (ha:PE X a (tD X.K W (den F ca))) (hs:noStar a=true):PE X (.Call (.Name x p) [a] [] pos) (tD X.K W (den F (.un o ca))):=by
 obtain ⟨g1,g2,g3,g4⟩:=T.gl hg
 have st:=star1 (env:=X.env) hs
 have go:∀ {id:String},CallR X (.builtin id) (rC X.K o)→bootBuiltins x=some (.builtin id)→PE X (.Call (.Name x p) [a] [] pos) (tD X.K W (den F (.un o ca))):=fun hc hv =>
  d_call1 (a:=a) (L2.pe_callB hc g1 g4 hv (L2.pa_cons ha L2.pa_nil (by rw [st]; rfl)) g3 g2 (by rw [st]; rfl)) fun x H Q z=>⟨x,rfl,z⟩
 have goT:∀ {id:String},CallR X (.type id) (rC X.K o)→bootBuiltins x=some (.type id)→PE X (.Call (.Name x p) [a] [] pos) (tD X.K W (den F (.un o ca))):=fun hc hv =>
  d_call1 (a:=a) (L2.pe_callTy hc g1 g4 hv (L2.pa_cons ha L2.pa_nil (by rw [st]; rfl)) g3 g2 (by rw [st]; rfl)) fun x H Q z=>⟨x,rfl,z⟩
 unfold bi1 at h
 split at h
 ·rename_i e; subst e; cases h; exact go call_lenD (by decide +kernel)
 split at h
 ·rename_i e; subst e; cases h; exact go call_ordD (by decide +kernel)
 split at h
 ·rename_i e; subst e; cases h; exact goT call_strD (by decide +kernel)
 split at h
 ·rename_i e; subst e; cases h; exact goT call_intD (by decide +kernel)
 split at h
 ·rename_i e; subst e; cases h; exact goT call_tupleD (by decide +kernel)
 ·cases h
theorem bi1c_ok (T:Body X c F k ex W) (hc:c.calm=true) {x:Str} {o:Un} {a:Expr} {ca:CE} {p pos:Pos} (h:bi1c x=some o) (hg:c.glob x=some .blt) (ha:PE X a (tD X.K W (den F ca))) (hs:noStar a=true):PE X (.Call (.Name x p) [a] [] pos) (tD X.K W (den F (.un o ca))):=by
 obtain ⟨g1,g2,g3,g4⟩:=T.gl hg
 have st:=star1 (env:=X.env) hs
 have go:∀ {id:String},CallR X (.builtin id) (rC X.K o)→bootBuiltins x=some (.builtin id)→PE X (.Call (.Name x p) [a] [] pos) (tD X.K W (den F (.un o ca))):=fun hc hv =>
  d_call1 (a:=a) (L2.pe_callB hc g1 g4 hv (L2.pa_cons ha L2.pa_nil (by rw [st]; rfl)) g3 g2 (by rw [st]; rfl)) fun x H Q z=>⟨x,rfl,z⟩
 unfold bi1c at h
 split at h
 ·rename_i e; subst e; cases h; exact go (call_allD (T.calm hc)) (by decide +kernel)
 ·cases h
theorem bi2_ok (T:Body X c F k ex W) (hc:c.calm=true) {x:Str} {o:Bi} {a b:Expr} {ca cb:CE} {p pos:Pos} (h:bi2 x=some o) (hg:c.glob x=some .blt) (ha:PE X a (tD X.K W (den F ca))) (hb:PE X b (tD X.K W (den F cb))) (hs:noStar a=true) (hs':noStar b=true):PE X (.Call (.Name x p) [a,b] [] pos) (tD X.K W (den F (.bi o ca cb))):=by
 obtain ⟨g1,g2,g3,g4⟩:=T.gl hg
 have st:=star2 (env:=X.env) hs hs'
 have st1:=star1 (env:=X.env) hs'
 have go:∀ {id:String},CallR X (.builtin id) (rC2 X.K o)→bootBuiltins x=some (.builtin id)→PE X (.Call (.Name x p) [a,b] [] pos) (tD X.K W (den F (.bi o ca cb))):=fun hc hv =>
  d_call2 (L2.pe_callB hc g1 g4 hv (L2.pa_cons ha (L2.pa_cons hb L2.pa_nil (by rw [st1]; rfl)) (by rw [st,st1])) g3 g2 (by rw [st,st1]) (by rw [st1]; rfl)) fun x y H Q z=>⟨x,y,rfl,z⟩
 unfold bi2 at h
 split at h
 ·rename_i e; subst e; cases h; exact go (call_min2D (T.calm hc)) (by decide +kernel)
 split at h
 ·rename_i e; subst e; cases h; exact go (call_max2D (T.calm hc)) (by decide +kernel)
 ·cases h
theorem isi_of (T:Body X c F k ex W) {x y:Str} {t:Ty} {a:Expr} {ca:CE} {p p2 pos:Pos} (hx:x="isinstance") (ht:tyN y=some t) (hg:c.glob x=some .blt) (hy:c.isB y=true) (ha:PE X a (tD X.K W (den F ca))) (hs:noStar a=true):PE X (.Call (.Name x p) [a,.Name y p2] [] pos) (tD X.K W (den F (.un (.isi t) ca))):=by
 obtain ⟨g1,g2,g3,g4⟩:=T.gl hg
 have hy':c.glob y=some .blt:=by
  unfold Cc.isB at hy
  split at hy
  ·assumption
  ·cases hy
 obtain ⟨k1,k2,k3,k4⟩:=T.gl hy'
 refine d_isi hx g1 g4 k1 k4 ?_ k3 k2 ha (star2 hs rfl)
 unfold tyN at ht
 split at ht
 ·rename_i e; subst e; cases ht; decide +kernel
 split at ht
 ·rename_i e; subst e; cases ht; decide +kernel
 split at ht
 ·rename_i e; subst e; cases ht; decide +kernel
 split at ht
 ·rename_i e; subst e; cases ht; decide +kernel
 split at ht
 ·rename_i e; subst e; cases ht; decide +kernel
 ·cases ht
theorem isx_of (T:Body X c F k ex W) {x y:Str} {cs xl:List Nat} {a:Expr} {ca:CE} {p p2 pos:Pos} (hx:x="isinstance") (hy:c.isX y=some (cs,xl)) (hg:c.glob x=some .blt) (ha:PE X a (tD X.K W (den F ca))) (hs:noStar a=true):PE X (.Call (.Name x p) [a,.Name y p2] [] pos) (tD X.K W (den F (.un (.isx cs xl) ca))):=by
 obtain ⟨g1,g2,g3,g4⟩:=T.gl hg
 unfold Cc.isX at hy
 split at hy
 rotate_left
 ·cases hy
 rename_i xl' hxl
 split at hy
 ·rename_i i hi
  obtain ⟨k1,k2,k3,C,k4,k5,k6⟩:=T.gl hi
  cases q:c.xs.lookup i with
  | none=>rw [q] at hy; cases hy
  | some cs' =>
   rw [q] at hy
   cases hy
   exact d_isx (cv:=.ref C) (cu:=.ref C) hx g1 g4 (L2.pe_glob k1 k4 rfl k2) (fun u h=>h) (fun j D h1 h2=>⟨T.xg _ j D hxl h1 h2,T.xq i _ _ C j D q hxl k5 h1 h2⟩) ha (star2 hs rfl)
 ·rename_i hi
  obtain ⟨k1,k2,k3,k4⟩:=T.gl hi
  split at hy
  ·rename_i e
   subst e
   cases q:c.xs.lookup 0 with
   | none=>rw [q] at hy; cases hy
   | some cs' =>
    rw [q] at hy
    cases hy
    exact d_isx (cv:=.ty "ValueError") (cu:=.type "ValueError") hx g1 g4 (L2.pe_bltn (v:=.ty "ValueError") k1 k4 (by decide +kernel) rfl k3 k2) (fun u h=>h) (fun j D h1 h2=>⟨T.xg _ j D hxl h1 h2,T.xv _ _ j D q hxl h1 h2⟩) ha (star2 hs rfl)
  ·cases hy
 ·cases hy
theorem me1_ok (T:Body X c F k ex W) {m:Str} {o:Bi} {a b:Expr} {ca cb:CE} {ap p:Pos} (h:me1 m=some o) (ha:PE X a (tD X.K W (den F ca))) (hb:PE X b (tD X.K W (den F cb))) (hs:noStar b=true) (hsu:noSuper a=true) (hl:(ap.endLine == p.line)=true):PE X (.Call (.Attribute a m ap) [b] [] p) (tD X.K W (den F (.me o ca cb))):=by
 unfold me1 at h
 split at h
 ·rename_i e; cases h; exact d_append e ha hb (base_ok hsu) hl (star1 hs)
 split at h
 ·rename_i e; cases h; exact d_find e ha hb (base_ok hsu) hl (star1 hs)
 split at h
 ·rename_i e; cases h; exact d_zfill e ha hb (base_ok hsu) hl (star1 hs)
 split at h
 ·rename_i e; cases h; exact d_join e ha hb (base_ok hsu) hl (star1 hs)
 split at h
 ·rename_i e; cases h; exact d_split e ha hb (base_ok hsu) hl (star1 hs)
 split at h
 ·rename_i e; cases h; exact d_part e ha hb (base_ok hsu) hl (star1 hs)
 split at h
 ·rename_i e; cases h; exact d_rpart e ha hb (base_ok hsu) hl (star1 hs)
 ·cases h
theorem const_ok {kc:Const} {ce:CE} {j:Nat} {pos:Pos} (h:cConst kc=some ce):PE X (.Constant kc j pos) (tD X.K W (den F ce)):=by
 cases kc with
 | none=>cases h; exact d_lit L2.pe_non fun _ _=>rfl
 | bool b=>cases h; exact d_lit L2.pe_bl fun _ _=>rfl
 | int i=>cases h; exact d_lit L2.pe_int fun _ _=>rfl
 | str s=>cases h; exact d_lit L2.pe_str fun _ _=>(show V.str s=V.str ⟨s.cps.toList.toArray⟩ by simp)
 | _=>cases h
theorem call_ok (T:Body X c F k ex W) (hc:c.calm=true) {x:Str} {i:Nat} {e:Expr} {es:List Expr} {cl:CL} {p pos:Pos} (h:c.glob x=some (.fn i)) (ha:PA X (e::es) (tDL X.K W (denL F cl))) (hs:stars (e::es)=true):PE X (.Call (.Name x p) (e::es) [] pos) (tD X.K W (den F (.call i cl))):=by
 obtain ⟨g1,g2,g3,f,fd,ps,hm,hk,hb,FO⟩:=T.gl h
 have hs':=Bool.and_eq_true_iff.mp hs
 intro pins s σ H Q I t
 obtain ⟨ρ,env,hh,st,r,pp⟩:=t
 rw [den] at pp
 refine wpAny_Call_Name_kw (L2.ld_glob I g1 hm ?_ g2)
 refine PySem.W.callWith_K (h₀:=X.base) I.ok.mod.kin hk (L2.thn (ha pos pins s σ H (fun vs H1=>spD X.K (F i) vs H1 Q fun _ co H'=>∃ c,co=some c∧W c σ H') I ⟨ρ,env,hh,st,r,Post.bind pp fun ρ1 h1 ds H1 e1 r1 q vs hvs=>?_⟩) fun us s1 z=>?_) (star_cons hs'.1) (star_any hs'.2)
 ·exact ⟨ρ1,h1,ds,r1,hvs,by
   cases z:F i ds h1 with
   | ok a g=>rw [z] at q; exact q
   | exc c g=>rw [z] at q; exact fun ρ' H' e' r' _=>⟨c,rfl,q ρ' H' e' r'⟩
   | bad=>rw [z] at q; exact q⟩
 ·obtain ⟨vs,H1,I1,rv,q1⟩:=z
  exact ⟨I1.kIn,run_fnX FO ((T.room hc).mono (Nat.le_succ _)) hb (fun e s' x=>T.xc pins σ H1 s1 e s' I1 x) I1 rv q1⟩
theorem call0_ok (T:Body X c F k ex W) (hc:c.calm=true) {x:Str} {i:Nat} {p pos:Pos} (h:c.glob x=some (.fn i)):PE X (.Call (.Name x p) [] [] pos) (tD X.K W (den F (.call i .nil))):=by
 obtain ⟨g1,g2,g3,f,fd,ps,hm,hk,hb,FO⟩:=T.gl h
 intro pins s σ H Q I t
 obtain ⟨ρ,env,hh,st,r,pp⟩:=t
 rw [den,denL] at pp
 refine wpAny_Call_Name_kw (L2.ld_glob I g1 hm ?_ g2)
 refine PySem.W.callWith_K0 I.kIn hk (run_fnX (us:=[]) (vs:=[]) (E:=fun _ co H'=>∃ c,co=some c∧W c σ H') FO ((T.room hc).mono (Nat.le_succ _)) hb (fun e s' x=>T.xc pins σ H s e s' I x) I .nil ⟨ρ,hh,[],r,rfl,?_⟩)
 have q:PostV X.K (W.at σ) Q ρ H (F i [] hh):=pp
 cases z:F i [] hh with
 | ok a g=>rw [z] at q; exact q
 | exc c g=>rw [z] at q; exact fun ρ' H' e' r' _=>⟨c,rfl,q ρ' H' e' r'⟩
 | bad=>rw [z] at q; exact q
theorem isNone_of {b:Expr} (h:isNone b=true):∃ j pos,b=.Constant .none j pos:=by
 unfold isNone at h
 split at h
 ·exact ⟨_,_,rfl⟩
 ·cases h
theorem isBool_of {b:Expr} {k:Bool} (h:isBool b=some k):∃ j pos,b=.Constant (.bool k) j pos:=by
 unfold isBool at h
 split at h
 ·cases h; exact ⟨_,_,rfl⟩
 ·cases h
theorem plainT_of {e:Expr} {env:PySem.Env} (h:plainT e=true) (whole:Sem Value):isTrue e env whole=(do let v ← whole; standAt e.pos; holding [v] (truthy v)):=by
 cases e <;> first | rfl | cases h
theorem folded_ok {e:Expr} {env:PySem.Env} (h:noSet e=true) (x:Value):foldedSetIterable e env x=pure x:=by
 cases e <;> first | rfl | cases h
theorem compOk_of (T:Body X c F k ex W) {x:Str} {scope:Scope} (h:c.compOk x scope=true):CompOk X x scope:=by
 unfold Cc.compOk at h
 simp only [Bool.and_eq_true,Bool.or_eq_true,decide_eq_true_eq,List.all_eq_true] at h
 obtain ⟨⟨⟨⟨⟨⟨h1,h2⟩,h3⟩,h4⟩,h5⟩,h6⟩,h7⟩:=h
 refine ⟨h1,h2,h3,h4,fun y hy hf=>?_,h6.1,fun z=>?_,fun y hne hy hm=>h7 _ (mem_lookup hy) hne rfl (by rw [← T.N]; exact hm)⟩
 rotate_left
 ·rw [T.N] at z ⊢
  rcases h6.2 with w | w
  ·exact absurd z w
  ·exact w
 show X.env.scope.names.lookup y.1=_ ∨ X.env.scope.names.lookup y.1=_
 rw [T.sc]
 exact h5 y hy hf
theorem inner_ok (T:Body X c F k ex W) {x:Str} {scope:Scope} (h:c.compOk x scope=true) (cl:List (Str × Addr)) (C:Addr) (s3:Shared) (H3:Hp) (fp:List Addr) (E:Value→Shared→Prop):Body (cxC X x scope cl C s3 H3 fp E) (c.inner x scope) F k ex WF:=by
 have K:=compOk_of T h
 refine ⟨?_,?_,?_,T.calm,T.room,T.hu,fun y g hg=>?_,T.xq,T.xv,T.mt,T.at',T.xg,fun pins σ H s0 e s' I x=>?_⟩
 ·show maskN X.N x++[x]=maskN c.N x++[x]
  rw [T.N]
 ·show (maskN c.N x++[x]).Nodup
  exact mask_nd T.nd K.new fun z=>by have:=(K.hole (by rw [T.N]; exact z)).1; rw [T.N] at this; exact this
 ·show relabel scope X.env=relabS scope c.sc
  rw [← T.sc]
  rfl
 ·have:=T.glob y g hg
  cases g <;> exact this
 ·obtain ⟨_,_,_,_,_,_,_,_,_,_,_,_,_,_,_,_,z⟩:=x
  exact False.elim z
structure AllOk (X:Cx) (c:Cc) (F:Nat→List D→M D) (W:WX) (r:Rc):Prop where
 e:∀ e ce,r.e c e=some ce→PE X e (tD X.K W (den F ce))
 cmp:∀ a op b ce pos,r.cmp c a op b=some ce→PE X (.Compare a [op] [b] pos) (tD X.K W (den F ce))∧PT X (.Compare a [op] [b] pos) (tDT X.K W (denT F (.val ce)))
 b:∀ x es ce p pos,c.glob x=some .blt→r.b c x es=some ce→PE X (.Call (.Name x p) es [] pos) (tD X.K W (den F ce))
 l:∀ es cl,r.l c es=some cl→PA X es (tDL X.K W (denL F cl))∧stars es=true
 o:∀ o cp,r.o c o=some cp→PO X o (tDP X.K W (denP F cp))
 t:∀ e ct,r.t c e=some ct→PT X e (tDT X.K W (denT F ct))
 tb:∀ op es ct pos,r.tb c op es=some ct→L2.PW X (.BoolOp op es pos) (tDT X.K W (denT F ct))
 i:∀ tg e ci,r.i c e=some ci→PI X tg e (tDI X.K W (denI F ci))∧noSet e=true
end
end Fy
set_option Elab.async false
set_option linter.all false
set_option maxRecDepth 100000
set_option maxHeartbeats 4000000
namespace Fy
open PySem PySem.Spec PyProof.Rows
open L2 (V Hp HO VK TE TT TA TS TI Cx Inv RelV Vals SqL SqT Rd upd upd_same upd_ne PE PT PA PS PSs EP OpR CallR IxR MtR SlR PO TO PI PG PIE Turn FpOk Ends)
section
variable {X:Cx} {c:Cc} {F:Nat→List D→M D} {k B:Nat} {ex:Nat→Option Addr} {W:WX}
theorem name_ok (T:Body X c F k ex W) {x:Str} {pos:Pos} {ce:CE} (h:sName c x=some ce):PE X (.Name x pos) (tD X.K W (den F ce)):=by
 unfold sName at h
 cases q:c.slot x with
 | some i =>
  rw [q] at h
  cases h
  obtain ⟨h1,h2,h3,h4⟩:=T.vis q
  exact d_var (L2.pe_var h1 h2 h3 h4)
 | none =>
  rw [q] at h
  cases w:c.glob x with
  | none=>rw [w] at h; cases h
  | some g =>
   rw [w] at h
   cases g with
   | con d =>
    cases h
    obtain ⟨g1,g2,g3,v,u,hm,hr,hv⟩:=T.gl w
    exact d_lit (L2.pe_glob g1 hm hr g2) hv
   | _=>cases h
theorem un_ok {r:Rc} (A:AllOk X c F W r) {op:UnaryOp} {a:Expr} {pos:Pos} {ce:CE} (h:sUn r c a op=some ce):PE X (.UnaryOp op a pos) (tD X.K W (den F ce)):=by
 cases op with
 | Not=>obtain ⟨x,hx,h⟩:=bd_ok h; cases h; exact d_not (A.e a x hx)
 | USub=>obtain ⟨x,hx,h⟩:=bd_ok h; cases h; exact d_neg (A.e a x hx)
 | _=>cases h
theorem bool_ok {r:Rc} (A:AllOk X c F W r) {op:BoolOp} {es:List Expr} {pos:Pos} {ce:CE} (h:sBool r c op pos es=some ce):PE X (.BoolOp op es pos) (tD X.K W (den F ce)):=by
 cases es with
 | nil=>cases h
 | cons a es =>
  cases es with
  | nil=>exact L2.pe_one (A.e a ce h)
  | cons b es =>
   obtain ⟨x,hx,h⟩:=bd_ok h
   obtain ⟨y,hy,h⟩:=bd_ok h
   cases op with
   | And=>cases h; exact d_and (A.e a x hx) (A.e _ y hy)
   | Or=>cases h; exact d_or (A.e a x hx) (A.e _ y hy)
theorem chain_ok (T : Body X c F k ex W) {r : Rc} (A : AllOk X c F W r) {a b d : Expr} {op op' : CmpOp} {ce : CE} {pos : Pos} (h : sChain r c a op op' b d = some ce) :
    PE X (.Compare a [op, op'] [b, d] pos) (tD X.K W (den F ce)) ∧ PT X (.Compare a [op, op'] [b, d] pos) (tDT X.K W (denT F (.val ce))) := by
  obtain ⟨o, ho, h⟩ := bd_ok h
  obtain ⟨p, hp, h⟩ := bd_ok h
  obtain ⟨x, hx, h⟩ := bd_ok h
  obtain ⟨y, hy, h⟩ := bd_ok h
  obtain ⟨z, hz, h⟩ := bd_ok h
  obtain ⟨hl, rfl⟩ := need_ok h
  have hl : lastMarks [op, op'] [b, d] = false := by simpa using hl
  exact ⟨d_chain (cmpO_ok T ho).2 (cmpO_ok T hp).2 (A.e a x hx) (A.e b y hy) (A.e d z hz) hl, dt_chain (cmpO_ok T hp).1 (cmpO_ok T ho).2 (cmpO_ok T hp).2 (A.e _ x hx) (A.e _ y hy) (A.e _ z hz) hl⟩
theorem compare_ok (T : Body X c F k ex W) {r : Rc} (A : AllOk X c F W r) {a : Expr} {ops : List CmpOp} {cs : List Expr} {ce : CE} {pos : Pos} (h : sCompare r c a ops cs = some ce) :
    PE X (.Compare a ops cs pos) (tD X.K W (den F ce)) ∧ PT X (.Compare a ops cs pos) (tDT X.K W (denT F (.val ce))) := by
  cases ops with
  | nil => cases h
  | cons op ops =>
    cases cs with
    | nil => cases h
    | cons b cs =>
      cases ops with
      | nil =>
        cases cs with
        | nil => exact A.cmp a op b ce pos h
        | cons _ _ => cases h
      | cons op' ops =>
        cases ops with
        | cons _ _ => cases h
        | nil =>
          cases cs with
          | nil => cases h
          | cons d cs =>
            cases cs with
            | nil => exact chain_ok T A h
            | cons _ _ => cases h
theorem sub_ok {r:Rc} (A:AllOk X c F W r) {a b:Expr} {pos:Pos} {ce:CE} (h:sSub r c a b=some ce):PE X (.Subscript a b pos) (tD X.K W (den F ce)):=by
 unfold sSub at h
 cases qr:isRev b with
 | true =>
  rw [qr] at h
  cases h
 | false =>
 rw [qr] at h
 cases q:isSl b with
 | some w =>
  rw [q] at h
  obtain ⟨p,rfl⟩:=isSl_of q
  obtain ⟨x,hx,h⟩:=bd_ok h
  obtain ⟨l,hl,h⟩:=bd_ok h
  obtain ⟨u,hu,h⟩:=bd_ok h
  cases h
  exact d_sl (A.e a x hx) (A.o w.1 l hl) (A.o w.2 u hu)
 | none =>
  rw [q] at h
  obtain ⟨x,hx,h⟩:=bd_ok h
  obtain ⟨y,hy,h⟩:=bd_ok h
  obtain ⟨hs,rfl⟩:=need_ok h
  exact d_ix (A.e a x hx) (A.e b y hy) (ix_plain hs)
theorem callN_ok (T:Body X c F k ex W) {r:Rc} (A:AllOk X c F W r) {x:Str} {es:List Expr} {p pos:Pos} {ce:CE} (h:sCallN r c x es (c.glob x)=some ce):PE X (.Call (.Name x p) es [] pos) (tD X.K W (den F ce)):=by
 cases w:c.glob x with
 | none=>rw [w] at h; cases h
 | some g =>
  rw [w] at h
  cases g with
  | fn i =>
   cases es with
   | nil=>obtain ⟨hs,rfl⟩:=need_ok h; exact call0_ok T hs w
   | cons e es =>
    obtain ⟨l,hl,h⟩:=bd_ok h
    obtain ⟨hs,rfl⟩:=need_ok h
    exact call_ok T hs w (A.l _ l hl).1 (A.l _ l hl).2
  | blt=>exact A.b x es ce p pos w h
  | _=>cases h
theorem methS_ok (T:Body X c F k ex W) {r:Rc} (A:AllOk X c F W r) {a:Expr} {m:Str} {ap p:Pos} {es:List Expr} {x ce:CE} (hx:r.e c a=some x) (h:sMeth r c m (noSuper a && (ap.endLine == p.line)) x es (c.M.lookup m)=some ce):PE X (.Call (.Attribute a m ap) es [] p) (tD X.K W (den F ce)):=by
 cases w:c.M.lookup m with
 | some q=>rw [w] at h; cases h
 | none =>
  rw [w] at h
  cases es with
  | nil =>
   cases h
  | cons b es =>
   cases es with
   | cons d es =>
    cases es with
    | cons _ _=>cases h
    | nil =>
     have h:(match decide (m="setdefault") with | true=>none | false=>(r.e c b).bind fun y=>(r.e c d).bind fun z=>need (noSuper a && (ap.endLine == p.line) && noStar b && noStar d && decide (m="split")) (.splm x y z))=some ce:=h
     split at h
     ·cases h
     ·obtain ⟨y,hy,h⟩:=bd_ok h
      obtain ⟨z,hz,h⟩:=bd_ok h
      obtain ⟨hs,rfl⟩:=need_ok h
      obtain ⟨hs,h6⟩:=Bool.and_eq_true_iff.mp hs
      obtain ⟨hs,h5⟩:=Bool.and_eq_true_iff.mp hs
      obtain ⟨hs,h4⟩:=Bool.and_eq_true_iff.mp hs
      obtain ⟨h2,h3⟩:=Bool.and_eq_true_iff.mp hs
      exact d_splm (of_decide_eq_true h6) (A.e a x hx) (A.e b y hy) (A.e d z hz) (base_ok h2) h3 (star2 h4 h5) (star1 h5)
   | nil =>
    obtain ⟨o,ho,h⟩:=bd_ok h
    obtain ⟨y,hy,h⟩:=bd_ok h
    obtain ⟨hs,rfl⟩:=need_ok h
    obtain ⟨hs,h4⟩:=Bool.and_eq_true_iff.mp hs
    obtain ⟨h2,h3⟩:=Bool.and_eq_true_iff.mp hs
    exact me1_ok T ho (A.e a x hx) (A.e b y hy) h4 h2 h3
theorem callS_ok (T:Body X c F k ex W) {r:Rc} (A:AllOk X c F W r) {f:Expr} {es:List Expr} {ks:List Keyword} {p:Pos} {ce:CE} (h:sCall r c f es ks p=some ce):PE X (.Call f es ks p) (tD X.K W (den F ce)):=by
 cases ks with
 | cons _ _=>cases h
 | nil =>
  cases f with
  | Name x q=>exact callN_ok T A h
  | Attribute a m ap=>obtain ⟨x,hx,h⟩:=bd_ok h; exact methS_ok T A hx h
  | _=>cases h
theorem join_ok {r:Rc} (A:AllOk X c F W r) {es:List Expr} {p:Pos} {ce:CE} (h:sJoin r c es=some ce):PE X (.JoinedStr es p) (tD X.K W (den F ce)):=by
 rcases es with _ | ⟨f,_ | ⟨s,_ | ⟨g,_ | ⟨u,es⟩⟩⟩⟩
 ·cases h
 ·cases h
 ·cases h
 ·obtain ⟨a,ha,h⟩:=bd_ok h
  obtain ⟨t,ht,h⟩:=bd_ok h
  obtain ⟨b,hb,h⟩:=bd_ok h
  obtain ⟨x,hx,h⟩:=bd_ok h
  obtain ⟨y,hy,h⟩:=bd_ok h
  cases h
  obtain ⟨_,rfl⟩:=isF_of ha
  obtain ⟨_,_,rfl⟩:=isS_of ht
  obtain ⟨_,rfl⟩:=isF_of hb
  exact d_fstr (A.e a x hx) (A.e b y hy)
 ·cases h
theorem comp_ok (T:Body X c F k ex W) {r:Rc} (AA:∀ (X:Cx) (c:Cc) (W:WX),Body X c F k ex W→AllOk X c F W r) {elt:Expr} {q:Gn} {scope:Scope} {pos:Pos} {ce:CE} (h:sComp r c elt scope q=some ce):PE X (.ListComp elt [⟨.Name q.x q.p,q.iter,q.ifs,0⟩] scope pos) (tD X.K W (den F ce)):=by
 have A:=AA X c W T
 obtain ⟨x,px,iter,ifs⟩:=q
 cases ifs with
 | nil =>
  obtain ⟨it,hi,h⟩:=bd_ok h
  obtain ⟨y,hy,h⟩:=bd_ok h
  obtain ⟨hk',rfl⟩:=need_ok h
  obtain ⟨hcm,hk⟩:=Bool.and_eq_true_iff.mp hk'
  have K:=compOk_of T hk
  exact PE.imp (pe_comp K (by rw [T.N]; exact T.nd) (T.calm hcm) (A.i _ iter it hi).1 (folded_ok (A.i (.Name x px) iter it hi).2) (tt:=none) fun cl C s3 H3 fp E=>⟨(AA _ _ _ (inner_ok T hk cl C s3 H3 fp E)).e elt y hy,rfl⟩) fun σ H Q t=>compI (f:=fun env x=>compF (den F y) env x) (mi:=denI F it) (turn_plain _) (by
   obtain ⟨ρ,env,h,s,r,p⟩:=t
   rw [den] at p
   exact ⟨ρ,env,h,s,r,p⟩)
 | cons tst ts =>
  cases ts with
  | cons _ _=>cases h
  | nil =>
   obtain ⟨it,hi,h⟩:=bd_ok h
   obtain ⟨z,hz,h⟩:=bd_ok h
   obtain ⟨y,hy,h⟩:=bd_ok h
   obtain ⟨hk',rfl⟩:=need_ok h
   obtain ⟨hcm,hk⟩:=Bool.and_eq_true_iff.mp hk'
   have K:=compOk_of T hk
   exact PE.imp (pe_comp K (by rw [T.N]; exact T.nd) (T.calm hcm) (A.i _ iter it hi).1 (folded_ok (A.i (.Name x px) iter it hi).2) (tt:=some (tDT X.K WF (denT F z))) fun cl C s3 H3 fp E=>⟨(AA _ _ _ (inner_ok T hk cl C s3 H3 fp E)).e elt y hy,tst,rfl,(AA _ _ _ (inner_ok T hk cl C s3 H3 fp E)).t tst z hz⟩) fun σ H Q t=>compI (f:=fun env x=>compIfF (den F y) (denT F z) env x) (mi:=denI F it) (turn_test _ _) (by
    obtain ⟨ρ,env,h,s,r,p⟩:=t
    rw [den] at p
    exact ⟨ρ,env,h,s,r,p⟩)
theorem step_e (T:Body X c F k ex W) {r:Rc} (AA:∀ (X:Cx) (c:Cc) (W:WX),Body X c F k ex W→AllOk X c F W r) (e:Expr) (ce:CE) (h:eS r c e=some ce):PE X e (tD X.K W (den F ce)):=by
 have A:=AA X c W T
 cases e with
 | Constant kc j pos=>exact const_ok h
 | Name x pos=>exact name_ok T h
 | BinOp a op b pos =>
  obtain ⟨o,ho,h⟩:=bd_ok h
  obtain ⟨x,hx,h⟩:=bd_ok h
  obtain ⟨y,hy,h⟩:=bd_ok h
  cases h
  exact PE.imp (L2.pe_op (binO_ok ho) (A.e a x hx) (A.e b y hy)) fun _ _ _ t=>two t
 | UnaryOp op a pos=>exact un_ok A h
 | BoolOp op es pos=>exact bool_ok A h
 | IfExp t a b pos =>
  obtain ⟨z,hz,h⟩:=bd_ok h
  obtain ⟨x,hx,h⟩:=bd_ok h
  obtain ⟨y,hy,h⟩:=bd_ok h
  cases h
  exact d_ite (A.t t z hz) (A.e a x hx) (A.e b y hy)
 | Compare a ops cs pos=>exact (compare_ok T A h).1
 | Tuple es j pos=>obtain ⟨l,hl,h⟩:=bd_ok h; cases h; exact d_tup (A.l es l hl).1
 | List es pos=>obtain ⟨l,hl,h⟩:=bd_ok h; cases h; exact d_lst (A.l es l hl).1
 | Subscript a b pos=>exact sub_ok A h
 | Call f es ks p=>exact callS_ok T A h
 | JoinedStr es p=>exact join_ok A h
 | ListComp elt gs scope pos =>
  obtain ⟨q,hq,h⟩:=bd_ok h
  rw [isGen_of hq]
  exact comp_ok T AA h
 | _=>cases h
theorem cmp_ok (T : Body X c F k ex W) {r : Rc} (A : AllOk X c F W r) {a : Expr} {op : CmpOp} {b : Expr} {ce : CE} {pos : Pos} (h : sCmp r c a op b = some ce) :
    PE X (.Compare a [op] [b] pos) (tD X.K W (den F ce)) ∧ PT X (.Compare a [op] [b] pos) (tDT X.K W (denT F (.val ce))) := by
  obtain ⟨o, ho, h⟩ := bd_ok h
  obtain ⟨x, hx, h⟩ := bd_ok h
  obtain ⟨y, hy, h⟩ := bd_ok h
  obtain ⟨hb, rfl⟩ := need_ok h
  have hb : behindInMarks op b = false := by simpa using hb
  exact ⟨d_cmp (cmpO_ok T ho).2 (A.e _ x hx) (A.e _ y hy) hb, dt_cmp (cmpO_ok T ho).1 (cmpO_ok T ho).2 (A.e _ x hx) (A.e _ y hy) hb⟩
theorem step_cmp (T : Body X c F k ex W) {r : Rc} (A : AllOk X c F W r) (a : Expr) (op : CmpOp) (b : Expr) (ce : CE) (pos : Pos) (h : cmpS r c a op b = some ce) :
    PE X (.Compare a [op] [b] pos) (tD X.K W (den F ce)) ∧ PT X (.Compare a [op] [b] pos) (tDT X.K W (denT F (.val ce))) := by
  cases op with
  | Is =>
    obtain ⟨x, hx, h⟩ := bd_ok h
    unfold sIs at h
    cases q : isNone b with
    | true =>
      rw [q] at h
      cases h
      obtain ⟨j, p', rfl⟩ := isNone_of q
      exact ⟨d_isN (A.e _ x hx), dt_isN (A.e _ x hx)⟩
    | false =>
      rw [q] at h
      obtain ⟨kb, hb, h⟩ := bd_ok h
      cases h
      obtain ⟨j, p', rfl⟩ := isBool_of hb
      exact ⟨d_isB (A.e _ x hx), dt_isB (A.e _ x hx)⟩
  | IsNot =>
    obtain ⟨x, hx, h⟩ := bd_ok h
    unfold sIs at h
    cases q : isNone b with
    | true =>
      rw [q] at h
      cases h
      obtain ⟨j, p', rfl⟩ := isNone_of q
      exact ⟨d_notN (A.e _ x hx), dt_notN (A.e _ x hx)⟩
    | false =>
      rw [q] at h
      obtain ⟨kb, hb, h⟩ := bd_ok h
      cases h
      obtain ⟨j, p', rfl⟩ := isBool_of hb
      exact ⟨d_nsB (A.e _ x hx), dt_nsB (A.e _ x hx)⟩
  | _ => exact cmp_ok T A h
theorem b1_ok (T:Body X c F k ex W) {x:Str} {a:Expr} {y ce:CE} {p pos:Pos} (hg:c.glob x=some .blt) (ha:PE X a (tD X.K W (den F y))) (h:sB1 c x a y=some ce):PE X (.Call (.Name x p) [a] [] pos) (tD X.K W (den F ce)):=by
 unfold sB1 at h
 cases q:bi1 x with
 | some o =>
  rw [q] at h
  obtain ⟨hs,rfl⟩:=need_ok h
  exact bi1_ok T q hg ha hs
 | none =>
  rw [q] at h
  obtain ⟨o,ho,h⟩:=bd_ok h
  obtain ⟨hs,rfl⟩:=need_ok h
  obtain ⟨h1,h2⟩:=Bool.and_eq_true_iff.mp hs
  exact bi1c_ok T h2 ho hg ha h1
theorem isiS_ok (T:Body X c F k ex W) {r:Rc} (A:AllOk X c F W r) {x y:Str} {a:Expr} {ce:CE} {p p2 pos:Pos} (hx:x="isinstance") (hg:c.glob x=some .blt) (h:sIsi r c a y=some ce):PE X (.Call (.Name x p) [a,.Name y p2] [] pos) (tD X.K W (den F ce)):=by
 obtain ⟨z,hz,h⟩:=bd_ok h
 cases q:tyN y with
 | some t =>
  rw [q] at h
  obtain ⟨hs,rfl⟩:=need_ok h
  obtain ⟨h1,h2⟩:=Bool.and_eq_true_iff.mp hs
  exact isi_of T hx q hg h2 (A.e _ z hz) h1
 | none =>
  rw [q] at h
  obtain ⟨w,hw,h⟩:=bd_ok h
  obtain ⟨hs,rfl⟩:=need_ok h
  exact isx_of T hx hw hg (A.e _ z hz) hs
theorem step_b (T:Body X c F k ex W) {r:Rc} (A:AllOk X c F W r) (x:Str) (es:List Expr) (ce:CE) (p pos:Pos) (hg:c.glob x=some .blt) (h:bS r c x es=some ce):PE X (.Call (.Name x p) es [] pos) (tD X.K W (den F ce)):=by
 rcases es with _ | ⟨a,_ | ⟨b,_ | ⟨d,_ | ⟨_,_⟩⟩⟩⟩
 ·cases h
 ·obtain ⟨y,hy,h⟩:=bd_ok h
  exact b1_ok T hg (A.e _ y hy) h
 ·unfold bS at h
  cases q:decide (x="isinstance") with
  | true =>
   simp only [q] at h
   obtain ⟨y,hy,h⟩:=bd_ok h
   obtain ⟨p2,rfl⟩:=isNm_of hy
   exact isiS_ok T A (of_decide_eq_true q) hg h
  | false =>
   simp only [q] at h
   obtain ⟨o,ho,h⟩:=bd_ok h
   obtain ⟨u,hu,h⟩:=bd_ok h
   obtain ⟨v,hv,h⟩:=bd_ok h
   obtain ⟨hs,rfl⟩:=need_ok h
   obtain ⟨hs,h3⟩:=Bool.and_eq_true_iff.mp hs
   obtain ⟨h1,h2⟩:=Bool.and_eq_true_iff.mp hs
   exact bi2_ok T h3 ho hg (A.e _ u hu) (A.e _ v hv) h1 h2
 ·cases h
 ·cases h
theorem isB_glob {x:Str} (h:c.isB x=true):c.glob x=some .blt:=by
 unfold Cc.isB at h
 split at h
 ·assumption
 ·cases h
theorem step_l {r:Rc} (A:AllOk X c F W r) (es:List Expr) (cl:CL) (h:lS r c es=some cl):PA X es (tDL X.K W (denL F cl))∧stars es=true:=by
 cases es with
 | nil=>cases h; exact ⟨da_nil (es:=[]),rfl⟩
 | cons e es =>
  obtain ⟨x,hx,h⟩:=bd_ok h
  obtain ⟨l,hl,h⟩:=bd_ok h
  obtain ⟨hs,rfl⟩:=need_ok h
  exact ⟨da_cons (A.e _ x hx) (A.l _ l hl).1 (star_cons hs),by unfold stars; rw [hs,(A.l _ l hl).2]; rfl⟩
theorem step_o {r:Rc} (A:AllOk X c F W r) (o:Option Expr) (cp:CP) (h:oS r c o=some cp):PO X o (tDP X.K W (denP F cp)):=by
 cases o with
 | none=>cases h; exact dp_no
 | some e=>obtain ⟨x,hx,h⟩:=bd_ok h; cases h; exact dp_at (A.e _ x hx)
theorem sT_ok {r:Rc} (A:AllOk X c F W r) {e:Expr} {ct:CT} (h:sT r c e=some ct):PT X e (tDT X.K W (denT F ct)):=by
 obtain ⟨x,hx,h⟩:=bd_ok h
 obtain ⟨hs,rfl⟩:=need_ok h
 exact dt_truth (A.e _ x hx) (plainT_of hs)
theorem step_t (T:Body X c F k ex W) {r:Rc} (A:AllOk X c F W r) (e:Expr) (ct:CT) (h:tS r c e=some ct):PT X e (tDT X.K W (denT F ct)):=by
 cases e with
 | UnaryOp op a pos =>
  cases op with
  | Not=>obtain ⟨x,hx,h⟩:=bd_ok h; cases h; exact dt_not (A.t _ x hx)
  | _=>cases h
 | BoolOp op es pos=>exact (A.tb _ _ ct pos h).pt
 | Compare a ops cs pos=>obtain ⟨x,hx,h⟩:=bd_ok h; cases h; exact (compare_ok T A hx).2
 | _=>exact sT_ok A h
theorem step_tb {r:Rc} (A:AllOk X c F W r) (op:BoolOp) (es:List Expr) (ct:CT) (pos:Pos) (h:tbS r c op es=some ct):L2.PW X (.BoolOp op es pos) (tDT X.K W (denT F ct)):=by
 cases es with
 | nil=>cases h
 | cons a es =>
  cases es with
  | nil =>
   cases op with
   | And=>exact L2.pw_and1 (A.t _ ct h)
   | Or=>exact L2.pw_or1 (A.t _ ct h)
  | cons b es =>
   obtain ⟨x,hx,h⟩:=bd_ok h
   obtain ⟨y,hy,h⟩:=bd_ok h
   cases op with
   | And=>cases h; exact dw_and (A.t _ x hx) (A.tb _ _ y pos hy)
   | Or=>cases h; exact dw_or (A.t _ x hx) (A.tb _ _ y pos hy)
theorem step_i (T:Body X c F k ex W) {r:Rc} (A:AllOk X c F W r) (tg e:Expr) (ci:CI) (h:iS r c e=some ci):PI X tg e (tDI X.K W (denI F ci))∧noSet e=true:=by
 unfold iS at h
 cases q:isRg e with
 | none =>
  rw [q] at h
  obtain ⟨z,hz,h⟩:=bd_ok h
  obtain ⟨hs,rfl⟩:=need_ok h
  exact ⟨di_of (A.e _ z hz),hs⟩
 | some es =>
  rw [q] at h
  obtain ⟨p,p2,rfl⟩:=isRg_of q
  rcases es with _ | ⟨a,_ | ⟨b,_ | ⟨_,_⟩⟩⟩
  ·cases h
  ·obtain ⟨z,hz,h⟩:=bd_ok h
   obtain ⟨hs,rfl⟩:=need_ok h
   obtain ⟨h1,h2⟩:=Bool.and_eq_true_iff.mp hs
   obtain ⟨g1,g2,g3,g4⟩:=T.gl (isB_glob h2)
   exact ⟨di_rng1 g1 g4 (A.e _ z hz) (star1 h1),rfl⟩
  ·obtain ⟨z,hz,h⟩:=bd_ok h
   obtain ⟨z',hz',h⟩:=bd_ok h
   obtain ⟨hs,rfl⟩:=need_ok h
   obtain ⟨hs,h2⟩:=Bool.and_eq_true_iff.mp hs
   obtain ⟨h1,h3⟩:=Bool.and_eq_true_iff.mp hs
   obtain ⟨g1,g2,g3,g4⟩:=T.gl (isB_glob h2)
   exact ⟨di_rng2 g1 g4 (A.e _ z hz) (A.e _ z' hz') (star2 h1 h3) (star1 h3),rfl⟩
  ·cases h
theorem all_e : ∀ (n : Nat) (X : Cx) (c : Cc) (W : WX), Body X c F k ex W → AllOk X c F W (rcN n)
  | 0, _, _, _, _ => {
      e := fun _ _ h => nomatch h
      cmp := fun _ _ _ _ _ h => nomatch h
      b := fun _ _ _ _ _ _ h => nomatch h
      l := fun _ _ h => nomatch h
      o := fun _ _ h => nomatch h
      t := fun _ _ h => nomatch h
      tb := fun _ _ _ _ h => nomatch h
      i := fun _ _ _ h => nomatch h }
  | n + 1, X, c, W, T =>
    have A := all_e n X c W T
    ⟨step_e T (all_e n), step_cmp T A, step_b T A, step_l A, step_o A, step_t T A, step_tb A, step_i T A⟩
theorem swaps_ok {e:Expr} {t:Option Expr} {n:Nat} {env:PySem.Env} (h:noComp e=true):swapsWith e t n env=pure false:=by
 cases e <;> first | rfl | cases h
theorem calm_post {α:Type} {K:PySem.W.Frag} {w:W1} {rep:List Addr→Hp→α→Prop} {ρ:List Addr} {H:Hp} {r:R α} (p:Post K w rep ρ H r.calm) (w':W1):Post K w' rep ρ H r:=by
 cases r with
 | ok a h=>exact p
 | exc _ _=>exact False.elim p
 | bad=>exact p
theorem s_forD {t : TG} {g : L2.TG} {tg iter : Expr} {ci : CI} {body : List Stmt} {cb : CS} {pos : Pos} (ht : tgOk X.K t g) (hc : X.calm = true) (hi : PI X.nox tg iter (tDI X.K WF (denI F ci))) (hg : PG X.nox tg g) (hb : PSs X.nox body (tDS X.K WF (denS F B cb)))
    (hs : ∀ x, foldedSetIterable iter X.env x = pure x) : PS X (.For tg iter body [] pos) (tDS X.K W (denS F B (.fori t ci cb))) := PS.imp (PS.nox (L2.ps_for PassesOwn.never hc hi hg hb hs)) fun E σ H q => by
  obtain ⟨ρ, env, h, s, r, p⟩ := q
  rw [denS] at p
  refine ⟨ρ, env, h, s, r, calm_post (PostS.ofR s p fun ρ1 h1 it H1 e1 r1 q J hJ => ?_) _⟩
  cases it with
  | row xs =>
    obtain ⟨go, yl, sp⟩ := hJ
    exact loop_row ht (s.mono e1) r1 go yl sp q
  | live k =>
    obtain ⟨a, ha, rfl⟩ := hJ
    exact loop_live ht (s.mono e1) r1 ha q
theorem s_setC {i:Nat} {y:Str} {py spos:Pos} {e:Expr} {ce:CE} (T:BodyS X c F k ex W) (hi:c.own y=some i) (hc:isComp e=true) {n:Nat} (he:eS (rcN n) c e=some ce):PS X (.Assign [.Name y py] e spos) (tDS X.K W (denS F B (.set (.nm i) ce))):=by
 have AA:=all_e (F:=F) (k:=k) (ex:=ex) n
 have A:=AA X c W T.toBody
 obtain ⟨h1,h2⟩:=T.loc hi
 have pe:=step_e T.toBody (all_e n) e ce he
 have key:∀ {σ:L2.St} {H:Hp} {E:Ends},tDS X.K W (denS F B (.set (.nm i) ce)) E σ H→tD X.K W (den F ce) σ H fun v H'=>E.nx (σ.set i (some v)) H':=fun {σ H E} t=>by
  obtain ⟨ρ,env,h,s,r,p⟩:=t
  rw [denS] at p
  exact ⟨ρ,env,h,s,r,PostS.ofR s p fun ρ' h' d H' e' r' q v hv=>q ρ' H' _ (Step.refl _ _) r' ((s.mono e').set i hv)⟩
 cases e with
 | ListComp elt gs scope pos =>
  obtain ⟨g,hg,he⟩:=bd_ok he
  obtain rfl:=isGen_of hg
  obtain ⟨x,px,iter,ifs⟩:=g
  have hsw:swapsWith (.ListComp elt [⟨.Name x px,iter,ifs,0⟩] scope pos) (some (.Name y py)) spos.line X.env=pure (X.env.blockKind == .function && X.env.kindOf y == some .local && py.line == (Expr.ListComp elt [⟨.Name x px,iter,ifs,0⟩] scope pos).pos.line && !(scope.names.any fun (n,k)=>n == y && (k == .local || k == .cell))):=rfl
  cases q:(X.env.blockKind == .function && X.env.kindOf y == some .local && py.line == (Expr.ListComp elt [⟨.Name x px,iter,ifs,0⟩] scope pos).pos.line && !(scope.names.any fun (n,k)=>n == y && (k == .local || k == .cell))) with
  | false =>
   rw [q] at hsw
   exact s_set T.nd' h1 h2 pe hsw (.inl (T.fn _))
  | true =>
   rw [q] at hsw
   simp only [Bool.and_eq_true] at q
   have hk:X.env.scope.names.lookup y=some .local:=(show X.env.kindOf y=some .local by simpa using q.1.1.2)
   cases ifs with
   | nil =>
    obtain ⟨it,hit,he⟩:=bd_ok he
    obtain ⟨z,hz,he⟩:=bd_ok he
    obtain ⟨hko',rfl⟩:=need_ok he
    obtain ⟨hcm,hko⟩:=Bool.and_eq_true_iff.mp hko'
    have K:=compOk_of T.toBody hko
    refine PS.imp (ps_comp K T.nd' (T.calm hcm) (A.i _ iter it hit).1 (folded_ok (A.i (.Name x px) iter it hit).2) (tt:=none) (fun cl C s3 H3 fp E=>⟨(AA _ _ _ (inner_ok T.toBody hko cl C s3 H3 fp E)).e elt z hz,rfl⟩) h1 hk hsw) fun E σ H t=>compI (f:=fun env x=>compF (den F z) env x) (mi:=denI F it) (turn_plain _) ?_
    obtain ⟨ρ,env,h,s,r,p⟩:=key t
    rw [den] at p
    exact ⟨ρ,env,h,s,r,p⟩
   | cons tst ts =>
    cases ts with
    | cons _ _=>cases he
    | nil =>
     obtain ⟨it,hit,he⟩:=bd_ok he
     obtain ⟨zt,hzt,he⟩:=bd_ok he
     obtain ⟨z,hz,he⟩:=bd_ok he
     obtain ⟨hko',rfl⟩:=need_ok he
     obtain ⟨hcm,hko⟩:=Bool.and_eq_true_iff.mp hko'
     have K:=compOk_of T.toBody hko
     refine PS.imp (ps_comp K T.nd' (T.calm hcm) (A.i _ iter it hit).1 (folded_ok (A.i (.Name x px) iter it hit).2) (tt:=some (tDT X.K WF (denT F zt))) (fun cl C s3 H3 fp E=>⟨(AA _ _ _ (inner_ok T.toBody hko cl C s3 H3 fp E)).e elt z hz,tst,rfl,(AA _ _ _ (inner_ok T.toBody hko cl C s3 H3 fp E)).t tst zt hzt⟩) h1 hk hsw) fun E σ H t=>compI (f:=fun env x=>compIfF (den F z) (denT F zt) env x) (mi:=denI F it) (turn_test _ _) ?_
     obtain ⟨ρ,env,h,s,r,p⟩:=key t
     rw [den] at p
     exact ⟨ρ,env,h,s,r,p⟩
 | _=>cases hc
theorem still_ok (T:BodyS X c F k ex W):BodyS X.nox c.still F k ex WF where
 N:=T.N
 nd:=T.nd
 sc:=T.sc
 calm:=T.calm
 room:=T.room
 hu:=T.hu
 glob:=fun x g h=>by
  have:=T.glob x g h
  cases g <;> exact this
 xc:=fun pins σ H s0 e s' I x=>by
  obtain ⟨_,_,_,_,_,_,_,_,_,_,_,_,_,_,_,_,z⟩:=x
  exact False.elim z
 fn:=T.fn
 stk:=T.stk
 xr:=fun z=>by cases z
 xm:=T.xm
 xq:=T.xq
 xv:=T.xv
 xg:=T.xg
 mt:=T.mt
 at':=T.at'
 noex:=T.noex
 xcl:=T.xcl
theorem dull_ok (T:BodyS X c F k ex W) (e:Value):BodyS (mark X e) c.dull F k ex WF where
 N:=T.N
 nd:=T.nd
 sc:=T.sc
 calm:=fun z=>by cases z
 room:=fun z=>by cases z
 hu:=T.hu
 glob:=fun x g h=>by
  have:=T.glob x g h
  cases g <;> exact this
 xc:=fun pins σ H s0 e s' I x=>by
  obtain ⟨_,_,_,_,_,_,_,_,_,_,_,_,_,_,_,_,z⟩:=x
  exact False.elim z
 fn:=T.fn
 stk:=T.stk
 xr:=fun z=>by cases z
 xm:=T.xm
 xq:=T.xq
 xv:=T.xv
 xg:=T.xg
 mt:=T.mt
 at':=T.at'
 noex:=T.noex
 xcl:=T.xcl
theorem hold_ok (T:BodyS X c F k ex W) (pins:List (Addr × Obj)) (W1:WX):BodyS (hold X pins fun e s'=>∃ pins' σ H s0,Inv (hold X pins fun _ _=>False) pins' σ H s0∧CXD X.prog X.w ex X.stack H s0 (fun _ co H'=>∃ c,co=some c∧W1 c σ H') e s') c.still F k ex W1 where
 N:=T.N
 nd:=T.nd
 sc:=T.sc
 calm:=T.calm
 room:=T.room
 hu:=T.hu
 glob:=fun x g h=>by
  have:=T.glob x g h
  cases g <;> exact this
 xc:=fun pins' σ H s0 e s' I x=>⟨pins',σ,H,s0,⟨ok_hold (ok_unhold I.ok),I.os,I.bare,I.base,I.loc,I.cell,I.free,I.freeC,I.pin,I.hok,I.len⟩,x⟩
 fn:=T.fn
 stk:=T.stk
 xr:=fun z=>by cases z
 xm:=T.xm
 xq:=T.xq
 xv:=T.xv
 xg:=T.xg
 mt:=T.mt
 at':=T.at'
 noex:=T.noex
 xcl:=T.xcl
structure AllS (F:Nat→List D→M D) (k B:Nat) (ex:Nat→Option Addr) (r:Rs):Prop where
 s:∀ (X:Cx) (c:Cc) (W:WX),BodyS X c F k ex W→∀ st cs,r.s c st=some cs→PS X st (tDS X.K W (denS F B cs))
 ss:∀ (X:Cx) (c:Cc) (W:WX),BodyS X c F k ex W→∀ st cs,r.ss c st=some cs→PSs X st (tDS X.K W (denS F B cs))
 h:∀ (X:Cx) (c:Cc) (W:WX),BodyS X c F k ex W→∀ hs ch,r.h c hs=some ch→HOf X F B ex hs ch
theorem set_ok (T:BodyS X c F k ex W) {n:Nat} {t e:Expr} {spos:Pos} {cs:CS} (h:sSet (rcN n) c e t=some cs):PS X (.Assign [t] e spos) (tDS X.K W (denS F B cs)):=by
 have A:=all_e (F:=F) (k:=k) (ex:=ex) n X c W T.toBody
 cases t with
 | Name x py =>
  obtain ⟨i,hi,h⟩:=bd_ok h
  obtain ⟨y,hy,h⟩:=bd_ok h
  obtain ⟨hn,rfl⟩:=need_ok h
  obtain ⟨h1,h2⟩:=T.loc hi
  rcases Bool.or_eq_true_iff.mp hn with hn | hn
  ·exact s_set T.nd' h1 h2 (A.e _ y hy) (swaps_ok hn) (.inl (T.fn _))
  ·cases n with
   | zero=>cases hy
   | succ n=>exact s_setC T hi hn hy
 | _=>cases h
theorem tg_of (T:BodyS X c F k ex W) (hc:X.calm=true) {tg:Expr} {t:TG} (h:isTg c tg=some t):∃ g,tgOk X.K t g∧PG X.nox tg g:=by
 cases tg with
 | Name x p =>
  obtain ⟨i,hi,h⟩:=bd_ok h
  cases h
  obtain ⟨h1,h2⟩:=T.loc hi
  exact ⟨_,tg_nm i,L2.pg_name (X:=X.nox) T.nd' h1 h2 (.inl (T.fn _))⟩
 | _=>cases h
theorem for_ok {n:Nat} (S:AllS F k B ex (rsN n)) (X:Cx) (c:Cc) (W:WX) (T:BodyS X c F k ex W) {tg it:Expr} {a:List Stmt} {pos:Pos} {t:TG} {z:CI} {y:CS} (ht:isTg c tg=some t) (hz:(rcN n).i c it=some z) (hy:(rsN n).ss c.still a=some y) (hcm:c.calm=true):PS X (.For tg it a [] pos) (tDS X.K W (denS F B (.fori t z y))):=by
 have T':=still_ok T
 have A':=all_e (k:=k) (ex:=ex) n X.nox c WF { T'.toBody with }
 obtain ⟨g,g1,g2⟩:=tg_of T (T.calm hcm) ht
 exact s_forD g1 (T.calm hcm) (A'.i _ _ z hz).1 g2 (S.ss _ _ _ T' _ y hy) (folded_ok (A'.i (.Name "" ⟨0,0,0,0⟩) _ z hz).2)
theorem raise_ok (T:BodyS X c F k ex W) {e:Expr} {x:Str} {cs:CS} {pos:Pos} (he:isRs e=some x) (h:sRaise c x=some cs):PS X (.Raise (some e) none pos) (tDS X.K W (denS F B cs)):=by
 obtain ⟨_,_,_,_,_,rfl⟩:=isRs_of he
 unfold sRaise at h
 cases w:c.glob x with
 | none=>rw [w] at h; cases h
 | some g =>
  rw [w] at h
  cases g with
  | exc i =>
   obtain ⟨hr,rfl⟩:=need_ok h
   obtain ⟨hr1,hr2⟩:=Bool.and_eq_true_iff.mp hr
   obtain ⟨g1,g2,g3,C,g4,g5,g6⟩:=T.gl w
   exact s_raise (T.calm hr2) g1 g2 g4 g6 fun pins σ H s a args h' I m hw=>T.xr hr1 pins σ H s a args h' i C g5 I m hw
  | _=>cases h
theorem try_ok {n:Nat} (S:AllS F k B ex (rsN n)) (X:Cx) (c:Cc) (W:WX) (T:BodyS X c F k ex W) {a els fin:List Stmt} {hs:List ExceptHandler} {pos:Pos} {cs:CS} (h:sTry (rsN n) c a hs els fin=some cs):PS X (.Try a hs els fin pos) (tDS X.K W (denS F B cs)):=by
 cases hs with
 | nil=>cases h
 | cons hd hs =>
  cases els with
  | cons _ _=>cases h
  | nil =>
   cases fin with
   | cons _ _=>cases h
   | nil =>
    obtain ⟨x,hx,h⟩:=bd_ok h
    obtain ⟨y,hy,h⟩:=bd_ok h
    obtain ⟨_,rfl⟩:=need_ok h
    exact s_try T.stk (S.h X c W T _ y hy) fun pins W1=>S.ss _ _ _ (hold_ok T pins W1) _ x hx
theorem step_s {n:Nat} (S:AllS F k B ex (rsN n)) (X:Cx) (c:Cc) (W:WX) (T:BodyS X c F k ex W) (st:Stmt) (cs:CS) (h:stS (rcN n) (rsN n) c st=some cs):PS X st (tDS X.K W (denS F B cs)):=by
 have A:=all_e (k:=k) (ex:=ex) n X c W T.toBody
 cases st with
 | Assign ts e spos =>
  rcases ts with _ | ⟨t,_ | ⟨_,_⟩⟩
  ·cases h
  ·exact set_ok T h
  ·cases h
 | Expr e pos =>
  obtain ⟨y,hy,h⟩:=bd_ok h
  obtain ⟨hn,rfl⟩:=need_ok h
  exact s_exp (A.e _ y hy) (swaps_ok hn)
 | Return v pos =>
  cases v with
  | none=>cases h; exact s_retN
  | some e=>obtain ⟨y,hy,h⟩:=bd_ok h; cases h; exact s_ret (A.e _ y hy)
 | Pass pos=>cases h; exact s_pass
 | Break pos=>cases h; exact s_brk
 | Continue pos=>cases h; exact s_cnt
 | If t a b pos =>
  obtain ⟨z,hz,h⟩:=bd_ok h
  obtain ⟨x,hx,h⟩:=bd_ok h
  obtain ⟨y,hy,h⟩:=bd_ok h
  cases h
  exact s_if (A.t _ z hz) (S.ss X c W T _ x hx) (S.ss X c W T _ y hy)
 | For tg it a els pos =>
  cases els with
  | cons _ _=>cases h
  | nil =>
   obtain ⟨t,ht,h⟩:=bd_ok h
   obtain ⟨z,hz,h⟩:=bd_ok h
   obtain ⟨y,hy,h⟩:=bd_ok h
   obtain ⟨hcm,rfl⟩:=need_ok h
   exact for_ok S X c W T ht hz hy hcm
 | Raise x y pos =>
  cases y with
  | some _=>cases h
  | none =>
   cases x with
   | none=>cases h
   | some e=>obtain ⟨x,hx,h⟩:=bd_ok h; exact raise_ok T hx h
 | Try a hs els fin pos=>exact try_ok S X c W T h
 | _=>cases h
theorem s_opq {st:Stmt}:PS X st (tDS X.K W (denS F B .opq)):=fun pins s σ H D I t=>by
 obtain ⟨ρ,env,h,st,r,p⟩:=t
 rw [denS] at p
 exact False.elim p
theorem s_get {n:Nat} (S:AllS F k B ex (rsN n)) {X:Cx} {c:Cc} {W:WX} (T:BodyS X c F k ex W) (st:Stmt):PS X st (tDS X.K W (denS F B (((rsN n).s c st).getD .opq))):=by
 cases q:(rsN n).s c st with
 | none=>exact s_opq
 | some x=>exact S.s X c W T st x q
theorem s_one {st:Stmt} {a:CS} (h1:PS X st (tDS X.K W (denS F B a))):PSs X [st] (tDS X.K W (denS F B a)):=L2.pss_one h1
theorem step_ss {n:Nat} (S:AllS F k B ex (rsN n)) (X:Cx) (c:Cc) (W:WX) (T:BodyS X c F k ex W) (st:List Stmt) (cs:CS) (h:ssS (rsN n) c st=some cs):PSs X st (tDS X.K W (denS F B cs)):=by
 cases st with
 | nil=>cases h; exact s_nil
 | cons s r =>
  cases r with
  | nil=>cases h; exact s_one (s_get S T _)
  | cons t r=>obtain ⟨y,hy,h⟩:=bd_ok h; cases h; exact s_cons (s_get S T _) (S.ss X c W T _ y hy)
theorem h_ok {n:Nat} (S:AllS F k B ex (rsN n)) (X:Cx) (c:Cc) (W:WX) (T:BodyS X c F k ex W) {x:Str} {p pos:Pos} {i:Nat} {nm:Option Str} {b:List Stmt} {r:List ExceptHandler} {ch:CH} (hi:c.glob x=some (.exc i)) (h:sH (rsN n) c i nm b r=some ch):HOf X F B ex (.ExceptHandler (some (.Name x p)) nm b pos::r) ch:=by
 obtain ⟨g1,g2,g3,C,g4,g5,g6⟩:=T.gl hi
 cases b with
 | nil=>cases h
 | cons s b =>
  obtain ⟨cs,hcs,h⟩:=bd_ok h
  obtain ⟨kk,hk,h⟩:=bd_ok h
  obtain ⟨q,hq,h⟩:=bd_ok h
  cases nm with
  | none =>
   cases h
   exact ⟨⟨C,g1,g2,g4,fun j D hj=>T.xm i cs C j D hcs g5 hj⟩,⟨_,_,rfl⟩,fun e=>S.ss _ _ _ (dull_ok T e) _ kk hk,S.h X c W T _ q hq⟩
  | some m =>
   obtain ⟨j,hj,h⟩:=bd_ok h
   cases h
   unfold Cc.loc at hj
   split at hj
   ·rename_i hl
    exact ⟨⟨C,g1,g2,g4,fun j D hj=>T.xm i cs C j D hcs g5 hj⟩,⟨_,_,rfl⟩,⟨T.noex,T.nd',by rw [T.N]; exact idx_get hj,by rw [T.sc]; exact hl,T.xcl⟩,fun e=>S.ss _ _ _ (dull_ok T e) _ kk hk,S.h X c W T _ q hq⟩
   ·cases hj
theorem step_h {n:Nat} (S:AllS F k B ex (rsN n)) (X:Cx) (c:Cc) (W:WX) (T:BodyS X c F k ex W) (hs:List ExceptHandler) (ch:CH) (h:hS (rsN n) c hs=some ch):HOf X F B ex hs ch:=by
 cases hs with
 | nil=>cases h; trivial
 | cons hd r =>
  obtain ⟨ty,nm,b,pos⟩:=hd
  cases ty with
  | none=>cases h
  | some t =>
   obtain ⟨x,hx,h2⟩:=bd_ok h
   obtain ⟨p,rfl⟩:=isNm_of hx
   clear h
   cases w:c.glob x with
   | none=>rw [w] at h2; cases h2
   | some g =>
    rw [w] at h2
    cases g with
    | exc i=>exact h_ok S X c W T w h2
    | _=>cases h2
theorem all_s:∀ n,AllS F k B ex (rsN n)
 | 0=>{ s:=fun _ _ _ _ _ _ h=>(nomatch h),ss:=fun _ _ _ _ _ _ h=>(nomatch h),h:=fun _ _ _ _ _ _ h=>(nomatch h) }
 | n+1 =>
  have S:=all_s n
  ⟨step_s S,step_ss S,step_h S⟩
end
end Fy
set_option Elab.async false
set_option linter.all false
set_option maxRecDepth 100000
set_option maxHeartbeats 4000000
namespace Fy
open PySem PySem.Spec PyProof.Rows
open L2 (XK frs V Hp HO VK TE TT TA TS TI Cx Inv RelV Vals SqL SqT Rd upd upd_same upd_ne PE PT PA PS PSs EP OpR CallR IxR MtR SlR PO TO PI PG PIE Turn FpOk Ends)
structure Df where
 name:Str
 qual:Str
 st:Stmt
 N:List Str
 ps:List Str
structure DfOk (G:List (Str × GK)) (xs:List (Nat × List Nat)) (Mt:List (Str × Nat × List (Nat × Nat))) (At:List (Str × Nat × List Nat)) (d:Df) (f:Fn):Prop where
 sc:L2.FnScope d.N d.ps (L2.defScope d.st)
 cp:cSs ⟨d.N,L2.defScope d.st,G,xs,true,true,Mt,At⟩ 100 (L2.defBody d.st)=some f.body
 ar:f.ar=d.ps.length
 sl:f.sl=d.N.length
noncomputable def DfIn (K:PySem.W.Frag) (d:Df) (f:Addr) (fd:FuncData):Prop:=L2.Fun K d.name d.qual d.st f fd∧L2.Binds K fd d.ps []
noncomputable def ConIn (mg:Str→Option Value) (x:Str) (d:D):Prop:=∃ v u,mg x=some u∧RelV v u∧∀ K ρ H,RepV K ρ H d v
noncomputable def exOf (K:PySem.W.Frag) (xl:List Nat) (c:Nat):Option Addr:=if xl.contains c then (match PySem.W.nsIn K mainGlobals (nmOf c) with | some (some (.ref C))=>some C | _=>none) else none
theorem exOf_some {K:PySem.W.Frag} {xl:List Nat} {c:Nat} {C:Addr} (h:exOf K xl c=some C):c ∈ xl∧ClsAt K c C:=by
 unfold exOf at h
 split at h
 ·rename_i q
  refine ⟨by simpa using q,?_⟩
  split at h
  ·rename_i C' z
   cases h
   exact z
  ·cases h
 ·cases h
theorem exOf_mk {K:PySem.W.Frag} {xl:List Nat} {c:Nat} {C:Addr} {x:Str} (hc:xl.contains c=true) (hx:nmOf c=x) (h:PySem.W.nsIn K mainGlobals x=some (some (.ref C))):exOf K xl c=some C:=by
 unfold exOf
 rw [if_pos hc,hx,h]
theorem cls_is {K:PySem.W.Frag} {c:Nat} {C D:Addr} {x:Str} (h:ClsAt K c D) (hx:nmOf c=x) (ha:PySem.W.nsIn K mainGlobals x=some (some (.ref C))):D=C:=by
 unfold ClsAt at h
 rw [hx,ha] at h
 cases h
 rfl
theorem exm_mk {K : PySem.W.Frag} {C D : Addr} {b : Bool} (hc : PySem.W.isClsIn K C = true) (ht : PySem.W.typeIn K (.ref C) = some (.type "type")) (hb : PySem.W.subIn K (.ref C) (.type "BaseException") = some true) (hs : PySem.W.subIn K (.ref D) (.ref C) = some b) :
    PySem.W.exmOne K (.ref D) (.ref C) = some b := by
  unfold PySem.W.exmOne
  rw [hb, if_pos (show (some true == some true) = true from rfl)]
  unfold PySem.W.kitCls
  have hc' : (PySem.W.clsIn K C).isSome = true := hc
  simp only
  rw [hc', ht, if_pos (show (true && some (Value.type "type") == some (Value.type "type")) = true by decide), hs]
theorem exm_ve {K:PySem.W.Frag} {D:Addr} (hs:PySem.W.subIn K (.ref D) (.type "ValueError")=some true):PySem.W.exmOne K (.ref D) (.type "ValueError")=some true:=by
 unfold PySem.W.exmOne
 rw [if_pos (show (PySem.W.subIn K (.type "ValueError") (.type "BaseException") == some true)=true by unfold PySem.W.subIn; kernel_rfl)]
 unfold PySem.W.kitCls
 simp only
 rw [if_pos (show PySem.W.kitMeta "ValueError"=true by kernel_rfl),hs]
noncomputable def GlP (K:PySem.W.Frag) (mg:Str→Option Value) (xl:List Nat) (ds:List Df) (x:Str) (g:GK):Prop:=match g with
 | .fn i=>∃ d f fd,ds[i]?=some d∧mg x=some (.ref f)∧DfIn K d f fd
 | .con d=>ConIn mg x d
 | .blt=>mg x=none
 | .exc c=>∃ C,mg x=some (.ref C)∧exOf K xl c=some C∧isXC K C=true
 | .cls c i=>∃ C d f fd,mg x=some (.ref C)∧ClsAt K c C∧L2.Cls K C∧L2.Mk K C f∧ds[i]?=some d∧DfIn K d f fd
noncomputable def MtP (K:PySem.W.Frag) (ds:List Df) (m:Str) (mk:Nat) (tb:List (Nat × Nat)):Prop:=m=nmOf mk∧mk < 256 ^ 60∧∀ cc fi C,tbN tb cc=some fi→ClsAt K cc C→L2.Cls K C∧∃ d f fd,L2.Meth K C m f∧ds[fi]?=some d∧DfIn K d f fd
noncomputable def AtP (K:PySem.W.Frag) (f:Str) (kk:Nat) (cs:List Nat):Prop:=f=nmOf kk∧kk < 256 ^ 60∧∀ cc C,cs.contains cc=true→ClsAt K cc C→L2.NoAttr K C (nmOf kk)
noncomputable def AllP {α:Type} (P:α→Prop):List α→Prop
 | []=>True
 | a::r=>P a∧AllP P r
theorem AllP.of {α:Type} {P:α→Prop} {l:List α} (h:AllP P l) {a:α} (ha:a ∈ l):P a:=by
 induction l with
 | nil=>cases ha
 | cons b r ih =>
  rcases List.mem_cons.mp ha with e | e
  ·rw [e]; exact h.1
  ·exact ih h.2 e
noncomputable def AllZ {α β:Type} (P:α→β→Prop):List α→List β→Prop
 | a::r,b::q=>P a b∧AllZ P r q
 | _,_=>True
theorem AllZ.of {α β:Type} {P:α→β→Prop} {l:List α} {m:List β} (h:AllZ P l m) {i:Nat} {a:α} {b:β} (ha:l[i]?=some a) (hb:m[i]?=some b):P a b:=by
 induction l generalizing m i with
 | nil=>cases ha
 | cons x r ih =>
  cases m with
  | nil=>cases hb
  | cons y q =>
   cases i with
   | zero=>cases ha; cases hb; exact h.1
   | succ i=>exact ih h.2 (by simpa using ha) (by simpa using hb)
noncomputable def BindsD (d:Df):Prop:=∀ (kV doc pm:Value) (an:Option Addr) (cdv ct:Value) (us:List Value),us.length=d.ps.length→bindArgs (PySem.W.fnOf d.name d.qual (L2.defArgs d.st) (L2.defBody d.st) (L2.defScope d.st) .none kV doc pm an cdv ct) ⟨us,[]⟩=pure (d.ps.zip us)
section
variable {P:List Value→Prop}
theorem ar0 (h:P []):∀ us:List Value,us.length=0→P us
 | [],_=>h
theorem ar1 (h:∀ a,P [a]):∀ us:List Value,us.length=1→P us
 | [a],_=>h a
theorem ar2 (h:∀ a b,P [a,b]):∀ us:List Value,us.length=2→P us
 | [a,b],_=>h a b
theorem ar3 (h:∀ a b c,P [a,b,c]):∀ us:List Value,us.length=3→P us
 | [a,b,c],_=>h a b c
end
theorem df_mk {K : PySem.W.Frag} {d : Df} {f : Addr} {oc : Value} {od an : Option Addr} {osl : Array (Option Value)} {kV doc pm cdv ct : Value} (p : BindsD d)
    (l : K.lookup f = some ⟨oc, od, .func (PySem.W.fnOf d.name d.qual (L2.defArgs d.st) (L2.defBody d.st) (L2.defScope d.st) .none kV doc pm an cdv ct), osl⟩) (c : PySem.W.codeIn K cdv d.qual = true) (k : PySem.W.keepIn K (.ref f) = true) :
    ∃ fd, DfIn K d f fd := ⟨_, L2.fun_mk l c k, (L2.fun_mk l c k).binds p⟩
section
variable {K:PySem.W.Frag} {mg:Str→Option Value} {xl:List Nat} {ds:List Df} {h:Heap} {x:Str}
theorem gl_fn {i:Nat} {d:Df} {f:Addr} (X:K.In h) (Gm:h.Ns mainGlobals mg) (hd:ds[i]?=some d) (a:PySem.W.nsIn K mainGlobals x=some (some (.ref f))) (D:∃ fd,DfIn K d f fd):GlP K mg xl ds x (.fn i):=by
 obtain ⟨fd,D⟩:=D
 exact ⟨d,f,fd,hd,PySem.W.mg_of X Gm a,D⟩
theorem gl_exc {c:Nat} {C:Addr} (X:K.In h) (Gm:h.Ns mainGlobals mg) (hc:xl.contains c=true) (hx:nmOf c=x) (a:PySem.W.nsIn K mainGlobals x=some (some (.ref C))) (e:isXC K C=true):GlP K mg xl ds x (.exc c) :=
 ⟨C,PySem.W.mg_of X Gm a,exOf_mk hc hx a,e⟩
theorem gl_int {n:Int} {t:Tok} (X:K.In h) (Gm:h.Ns mainGlobals mg) (a:PySem.W.nsIn K mainGlobals x=some (some (.int n t))):GlP K mg xl ds x (.con (.int n)):=⟨.int _,_,PySem.W.mg_of X Gm a,⟨_,rfl⟩,fun _ _ _=>rfl⟩
theorem gl_blt (X:K.In h) (Gm:h.Ns mainGlobals mg) (a:PySem.W.nsIn K mainGlobals x=some none):GlP K mg xl ds x .blt:=PySem.W.mg_none_of X Gm a
end
structure Top (K:PySem.W.Frag) (mg:Str→Option Value) (G:List (Str × GK)) (xs:List (Nat × List Nat)) (xl:List Nat) (Mt:List (Str × Nat × List (Nat × Nat))) (At:List (Str × Nat × List Nat)) (ds:List Df) (fns:List Fn):Prop where
 ok:∀ (i:Nat) (d:Df) (f:Fn),ds[i]?=some d→fns[i]?=some f→DfOk G xs Mt At d f
 len:ds.length=fns.length
 gl:∀ x g,(x,g) ∈ G→GlP K mg xl ds x g
 mt:∀ m mk tb,(m,mk,tb) ∈ Mt→MtP K ds m mk tb
 at':∀ f kk cs,(f,kk,cs) ∈ At→AtP K f kk cs
 xm:∀ (i:Nat) (cs:List Nat) (C:Addr) (j:Nat) (D:Addr),(i,cs) ∈ xs→exOf K xl i=some C→exOf K xl j=some D→PySem.W.exmOne K (.ref D) (.ref C)=some (cs.contains j)
 xk:∀ (i:Nat) (cs:List Nat),(i,cs) ∈ xs→xl.contains i=true→cs.contains i=true
 xl1:∀ (cs:List Nat),(1,cs) ∈ xs→cs=xl
 xv:∀ (cs:List Nat) (j:Nat) (D:Addr),(0,cs) ∈ xs→exOf K xl j=some D→PySem.W.exmOne K (.ref D) (.type "ValueError")=some (cs.contains j)
 xg:∀ (j:Nat) (D:Addr),exOf K xl j=some D→XGet K D
theorem lookup_mem' {α β:Type} [BEq α] [LawfulBEq α] {l:List (α × β)} {x:α} {g:β} (h:l.lookup x=some g):(x,g) ∈ l:=by
 induction l with
 | nil=>cases h
 | cons p l ih =>
  obtain ⟨a,b⟩:=p
  rw [List.lookup_cons] at h
  cases q:(x == a) with
  | true =>
   rw [q] at h
   cases h
   have:x=a:=by simpa using q
   subst this
   exact List.mem_cons_self ..
  | false =>
   rw [q] at h
   exact List.mem_cons_of_mem _ (ih h)
theorem PostS.fin {K:PySem.W.Frag} {Q:VK} {w:W1} {ρ:List Addr} {H:Hp} {r:SR} (p:PostV K w Q ρ H (fin r)):PostS K (fun c _ H'=>w c H') { nx:=fun _ H'=>Q .non H',rt:=Q } ρ H r:=by
 cases r with
 | nx e h=>exact fun ρ' H' st e' r' s'=>p ρ' H' e' r' .non rfl
 | rt d h=>exact fun ρ' H' v e' r' hv=>p ρ' H' e' r' v hv
 | bk e h=>exact False.elim p
 | ct e h=>exact False.elim p
 | exc c e h=>exact fun ρ' H' st e' r' s'=>p ρ' H' e' r'
 | bad=>exact False.elim p
theorem PSs.wish {X:Cx} {E:Value→Shared→Prop} {st:List Stmt} {t:TS} (h:PSs (X.wish E) st t) (hE:∀ e s,E e s→X.xe e s):PSs X st t:=fun pins s σ H D I hw =>
 wpAny_mono (h pins s σ H D (I.wish _) hw) (fun _ _ q=>q.unwish) hE
theorem RepS.start {K:PySem.W.Frag} {ρ:List Addr} {H:Hp} {N:List Str} {ds:List D} {vs:List V} {n:Nat} (l:RepL K ρ H ds vs) (hn:n=N.length - vs.length):RepS K ρ H (ds.map some++List.replicate n none) (L2.start N vs):=by
 subst hn
 unfold L2.start
 refine ⟨by simp [l.length],fun i d hi=>?_⟩
 by_cases hlt:i < ds.length
 ·rw [List.getElem?_append_left (by simpa using hlt),List.getElem?_map] at hi
  cases q:ds[i]? with
  | none=>rw [q] at hi; cases hi
  | some d' =>
   rw [q] at hi
   cases hi
   obtain ⟨v,h1,h2⟩:=l.get q
   refine ⟨v,?_,h2⟩
   rw [List.getElem?_append_left (by simpa [l.length] using hlt),List.getElem?_map,h1]
   rfl
 ·rw [List.getElem?_append_right (by simpa using hlt),List.getElem?_replicate] at hi
  split at hi <;> cases hi
noncomputable def bodyE (X0:Cx) (ex:Nat→Option Addr) (E:XK):Value→Shared→Prop:=fun e s' =>
 (∃ pins σ H1 s1,Inv X0 pins σ H1 s1∧CXD X0.prog X0.w ex X0.stack H1 s1 (fun _ co H'=>∃ c,co=some c∧∀ e,E e (some c) H') e s') ∨
 (∃ pins σ H1 s1 a args h' c C,ex c=some C∧Inv X0 pins σ H1 s1∧Heap.MadeExcOf s1.heap h' a (.ref C) args∧(∀ e,E e (some c) H1)∧e=.ref a∧s'={ s1 with heap:=h' })
theorem fns_ok {P : Program} {w : World} {K : PySem.W.Frag} {mg : Str → Option Value} {base : Heap} {G : List (Str × GK)} {xs : List (Nat × List Nat)} {xl : List Nat} {Mt : List (Str × Nat × List (Nat × Nat))} {At : List (Str × Nat × List Nat)} {ds : List Df} {fns : List Fn} {B : Nat} (T : Top K mg G xs xl Mt At ds fns) :
    ∀ (n i : Nat) (d : Df) (f : Addr) (fd : FuncData), ds[i]? = some d → L2.Fun K d.name d.qual d.st f fd → L2.FnOk P w K mg base (CXD P w (exOf K xl)) (2 * n) f fd d.ps (spD K (callN fns B n i))
  | 0, i, d, f, fd, hi, hf => by
    refine ⟨fun vs H Q E h => ?_, fun A outer s H args us vs Q E hr he hb hv h => ?_⟩
    · obtain ⟨ρ, h0, ds, _, _, p⟩ := h
      exact False.elim p
    · obtain ⟨ρ, h0, ds, _, _, p⟩ := h
      exact False.elim p
  | n + 1, i, d, f, fd, hi, hf => by
    have hil := (List.getElem?_eq_some_iff.mp hi).1
    have hfi : fns[i]? = some (fns[i]'(by rw [← T.len]; exact hil)) := List.getElem?_eq_getElem _
    generalize fns[i]'(by rw [← T.len]; exact hil) = fn at hfi
    have O := T.ok i d fn hi hfi
    have key : ∀ {ds : List D} {h : AH}, callN fns B (n + 1) i ds h = runFn (callN fns B n) B fn ds h := by
      intro ds h
      rw [callN, hfi]
    have arity : ∀ {w : W1} {Q : VK} {ρ : List Addr} {H : Hp} {ds : List D} {h : AH}, PostV K w Q ρ H (callN fns B (n + 1) i ds h) → ds.length = fn.ar ∧ PostV K w Q ρ H (fin (denS (callN fns B n) B fn.body (ds.map some ++ List.replicate (fn.sl - fn.ar) none) h)) := by
      intro w Q ρ H ds h p
      rw [key, runFn] at p
      exact PostV.ite p
    obtain ⟨oc, od, kV, doc, pm, an, cdv, ct, osl, rfl, lk, hcd⟩ := hf.ex
    refine L2.fn_of lk hcd O.sc (fun vs H Q E h => ?_) fun A outer s H vs Q E hr h => ?_
    · obtain ⟨ρ, h0, ds, _, l, p⟩ := h
      rw [l.length, (arity p).1, O.ar]
    · obtain ⟨ρ, h0, ds', r, l, p⟩ := h
      obtain ⟨ha, p⟩ := arity p
      refine ⟨tDS K (fun c _ H' => ∀ e, E e (some c) H') (denS (callN fns B n) B fn.body), ?_, ρ, ds'.map some ++ List.replicate (fn.sl - fn.ar) none, h0, RepS.start l (by rw [O.sl, l.length, ha]), r, PostS.fin p⟩
      refine PSs.wish (E := bodyE (cxX (exOf K xl) P w K mg base d.N d.qual (L2.defScope d.st) f cdv A outer s H E) (exOf K xl) E) ?_ fun e s' z => ?_
      · have T' : BodyS ((cxX (exOf K xl) P w K mg base d.N d.qual (L2.defScope d.st) f cdv A outer s H E).wish (bodyE (cxX (exOf K xl) P w K mg base d.N d.qual (L2.defScope d.st) f cdv A outer s H E) (exOf K xl) E)) ⟨d.N, L2.defScope d.st, G, xs, true, true, Mt, At⟩ (callN fns B n) (2 * n) (exOf K xl) (fun c _ H' => ∀ e, E e (some c) H') := by
          refine ⟨⟨rfl, O.sc.nd, rfl, fun _ => rfl, fun _ => hr, hr.units, fun x g hg => ?_, fun i cs xl' C j D h h1 hC hD hj => ?_, fun cs xl' j D h h1 hD hj => ?_, fun m mk tb hm => ?_, fun f kk cs hf => T.at' f kk cs (lookup_mem' hf), fun xl' j D h1 hD hj => ?_, fun pins σ H1 s1 e s' I x => .inl ⟨pins, σ, H1, s1, I.unwish, x⟩⟩, fun _ => rfl, ⟨rfl, rfl⟩, rfl, fun i C h => (exOf_some h).2, fun _ pins σ H1 s1 a args h' c C hc I m hw => .inr ⟨pins, σ, H1, s1, a, args, h', c, C, hc, I.unwish, m, hw, rfl, rfl⟩, fun i cs C j D h => T.xm i cs C j D (lookup_mem' h)⟩
          · have gm := T.gl x g (lookup_mem' hg)
            cases g with
            | fn j =>
              obtain ⟨d', f', fd', hd', hm, hF, hB⟩ := gm
              exact ⟨f', fd', d'.ps, hm, hF.kp, hB, fns_ok T n j d' f' fd' hd' hF⟩
            | con e =>
              obtain ⟨v, u, h1, h2, h3⟩ := gm
              exact ⟨v, u, h1, h2, fun ρ H => h3 _ ρ H⟩
            | blt => exact gm
            | exc c => exact gm
            | cls c j =>
              obtain ⟨C, d', f', fd', hm, h1, h2, h3, hd', hF, hB⟩ := gm
              exact ⟨C, f', fd', d'.ps, hm, h1, h2, h3, hB, fns_ok T n j d' f' fd' hd' hF⟩
          · have e := T.xl1 _ (lookup_mem' h1)
            subst e
            have hD' := exOf_mk hj rfl hD
            have q1 := T.xm i cs C j D (lookup_mem' h) hC hD'
            refine kit_of q1 fun z => ?_
            have e : D = C := Value.ref.inj (beq_iff_eq.mp z)
            subst e
            have q2 := T.xm i cs D i D (lookup_mem' h) hC hC
            rw [T.xk i cs (lookup_mem' h) (by simpa using (exOf_some hC).1)] at q2
            exact Option.some.inj (q1.symm.trans q2)
          · have e := T.xl1 _ (lookup_mem' h1)
            subst e
            exact kit_of (T.xv cs j D (lookup_mem' h) (exOf_mk hj rfl hD)) fun z => by cases beq_iff_eq.mp z
          · obtain ⟨m1, m2, m3⟩ := T.mt m mk tb (lookup_mem' hm)
            refine ⟨m1, m2, fun cc fi C ht hC => ?_⟩
            obtain ⟨k1, d', f', fd', k2, k3, k4, k5⟩ := m3 cc fi C ht hC
            exact ⟨k1, f', fd', d'.ps, k2, k5, fns_ok T n fi d' f' fd' k3 k4⟩
          · have e := T.xl1 _ (lookup_mem' h1)
            subst e
            exact T.xg j D (exOf_mk hj rfl hD)
        exact (all_s 100).ss _ _ _ T' _ _ O.cp
      · rcases z with ⟨pins, σ, H1, s1, I, x⟩ | ⟨pins, σ, H1, s1, a, args, h', c, C, hc, I, m, hw, rfl, rfl⟩
        · exact leave_fly (W := fun c _ H' => ∀ e, E e (some c) H') (fun _ _ _ z => z) I x
        · exact leave_made (W := fun c _ H' => ∀ e, E e (some c) H') (fun _ _ _ z => z) I hc m hw
theorem law_sp {K : PySem.W.Frag} {m : List D → M D} (hm : ∀ ns : List Int, ns.length ≤ 63 → ∃ h', m [.ref 0] [.rol (ns.map .int)] = .ok (.bl true) h') (H : Hp) (a : Addr) (ns : List Int) (hl : ns.length ≤ 63) (hO : L2.Only H) (hS : SqL K H a (ns.map V.int)) {E : L2.XK} :
    spD K m [.ref a] H (fun v _ => v = .bl true) E := by
  have hr : ∀ ns : List Int, RepL K [a] H (ns.map .int) (ns.map V.int) := fun ns => by
    induction ns with
    | nil => rfl
    | cons x ns ih => exact ⟨_, _, rfl, rfl, ih⟩
  refine ⟨[a], [.rol (ns.map .int)], [.ref 0], ⟨rfl, fun i o hi => ?_, fun i j b o1 o2 hi hj m1 m2 _ _ => ?_⟩, ⟨.ref a, [], rfl, ⟨a, rfl, rfl⟩, rfl⟩, ?_⟩
  · cases i with
    | succ i => simp at hi
    | zero =>
      cases hi
      refine ⟨a, rfl, ns.map V.int, ?_, hr ns⟩
      rcases hS with (h | ⟨o, h⟩) | h
      · rcases hO a with z | ⟨o, xs, z⟩
        · rw [h] at z; cases z
        · rw [h] at z; cases z
      · exact .inl ⟨o, h⟩
      · exact .inr h
  · cases i with
    | succ i => simp at hi
    | zero => cases hi; cases m1
  · obtain ⟨h', e⟩ := hm ns hl
    rw [e]
    exact fun ρ' H' _ _ v hv => hv
theorem walk {l : PySem.W.OpenLaw} {q : Program} {loose : List Str} {XP : (Str → Option Value) → Heap → Prop} {YP : World → Heap → Prop} {dr : DefRec} {K : Params → PySem.W.Frag} {G : List (Str × GK)} {xs : List (Nat × List Nat)} {xl : List Nat} {Mt : List (Str × Nat × List (Nat × Nat))} {At : List (Str × Nat × List Nat)} {ds : List Df} {fns : List Fn} {B i : Nat} {d : Df} {x : Str}
    (hn : l.most = some 63) (hdf : dr.params.defaults = []) (hi : ds[i]? = some d) (hG : (dr.name, GK.fn i) ∈ G) (hq : d.qual = d.name) (hps : d.ps = [x])
    (hY : ∀ (w : World) (h : Heap), YP w h → (K w.params).In h)
    (T : ∀ (w : World) (mg : Str → Option Value) (h : Heap), (K w.params).In h → h.Ns mainGlobals mg → Top (K w.params) mg G xs xl Mt At ds fns)
    (hm : ∀ ns : List Int, ns.length ≤ 63 → ∃ h', callN fns B 40 i [.ref 0] [.rol (ns.map .int)] = .ok (.bl true) h')
    (hbnd : ∀ (fd : FuncData) (f : Addr) (K : PySem.W.Frag), L2.Fun K d.name d.name d.st f fd → ∀ (s : Shared) (u : Value), BindsTo s fd ⟨[u], []⟩ [(x, u)]) :
    PySem.W.WalkO q loose XP YP l.row.toRowW dr [] (fun f vs => PySem.call f vs) := by
  refine L2.walk_of (n := 63) (k := 80) (x := x) (K := K) (CX := fun w => CXD l.prog w (exOf (K w.params) xl)) (sp := fun w => spD (K w.params) (callN fns B 40 i)) hn (by decide) hdf ⟨rfl, by decide, by decide⟩ hY (fun w mg fa h KX Gm hmg => ?_) (fun w H a ns hl hO hS => law_sp hm H a ns hl hO hS) fun w H s e s' z => ?_
  · have T' := T w mg h KX Gm
    obtain ⟨d', f, fd, h0, h1, h2, h3⟩ := T'.gl _ _ hG
    rw [hi] at h0
    cases h0
    rw [h1] at hmg
    cases hmg
    refine ⟨fd, hbnd fd _ _ (hq ▸ h2), fun base kb nb => ?_⟩
    have := fns_ok (P := l.prog) (w := w) (base := base) (B := B) T' 40 i d _ fd hi h2
    rw [hps] at this
    exact this
  · obtain ⟨_, _, _, _, _, _, _, _, _, _, _, _, _, _, q⟩ := z
    exact q
end Fy
set_option Elab.async false
set_option linter.all false
set_option maxRecDepth 100000
namespace Lk06
open Fy PySem
def b_is_sign:CS:=(.seq (.set (.nm 1) (.un .ord (.var 0))) (.ret (.and (.chain .le .le (.lit (.int 32)) (.var 1) (.lit (.int 126))) (.bi .ne (.var 1) (.lit (.int 37))))))
def b_is_signs_1:CE:=(.call 0 (.cons (.var 1) .nil))
def b_is_signs:CS:=(.ret (.and (.un (.isi .str) (.var 0)) (.un .all (.comp b_is_signs_1 (.of (.var 0))))))
def b_is_number_1:CS:=(.ret (.chain .le .le (.var 1) (.var 0) (.var 2)))
def b_is_number:CS:=(.seq (.ite (.or (.val (.un (.isi .bool) (.var 0))) (.not (.val (.un (.isi .int) (.var 0))))) (.ret (.lit (.bl false))) .skip) b_is_number_1)
def b_check_of_1:CS:=(.set (.nm 1) (.bi .mod (.bi .sub (.bi .add (.bi .mul (.var 1) (.lit (.int 31))) (.un .ord (.var 2))) (.lit (.int 32))) (.lit (.int 9973))))
def b_check_of_2:CS:=(.ret (.var 1))
def b_check_of:CS:=(.seq (.set (.nm 1) (.lit (.int 7))) (.seq (.fori (.nm 2) (.of (.var 0)) b_check_of_1) b_check_of_2))
def b_figures:CS:=(.ret (.un .str (.var 0)))
def b_is_figures_1:CE:=(.bi .isin (.var 1) (.lit (.str [48,49,50,51,52,53,54,55,56,57])))
def b_is_figures_2:CS:=(.ret (.un .all (.comp b_is_figures_1 (.of (.var 0)))))
def b_is_figures_3:CS:=(.seq (.ite (.and (.val (.bi .eq (.bi .ix (.var 0) (.lit (.int 0))) (.lit (.str [48])))) (.val (.bi .gt (.un .len (.var 0)) (.lit (.int 1))))) (.ret (.lit (.bl false))) .skip) b_is_figures_2)
def b_is_figures:CS:=(.seq (.ite (.or (.not (.val (.un (.isi .str) (.var 0)))) (.not (.val (.chain .le .le (.lit (.int 1)) (.un .len (.var 0)) (.lit (.int 13)))))) (.ret (.lit (.bl false))) .skip) b_is_figures_3)
def b_number_of_1:CS:=(.seq (.set (.nm 1) (.un .int (.var 0))) (.ret (.ite (.val (.bi .le (.var 1) (.lit (.int 1000000000000)))) (.var 1) (.lit .non))))
def b_number_of:CS:=(.seq (.ite (.not (.val (.call 5 (.cons (.var 0) .nil)))) (.ret (.lit .non)) .skip) b_number_of_1)
def b_is_life:CS:=(.ret (.call 2 (.cons (.var 0) (.cons (.lit (.int 1)) (.cons (.lit (.int 1000000000)) .nil)))))
def b_is_place:CS:=(.ret (.call 2 (.cons (.var 0) (.cons (.lit (.int 0)) (.cons (.lit (.int 1000000)) .nil)))))
def b_names_stream:CS:=(.ret (.and (.call 7 (.cons (.bi .ix (.var 0) (.lit (.int 1))) .nil)) (.and (.call 7 (.cons (.bi .ix (.var 0) (.lit (.int 2))) .nil)) (.call 2 (.cons (.bi .ix (.var 0) (.lit (.int 3))) (.cons (.lit (.int 0)) (.cons (.lit (.int 999)) .nil)))))))
def b_is_hello:CS:=(.ret (.and (.bi .eq (.un .len (.var 0)) (.lit (.int 3))) (.and (.call 7 (.cons (.bi .ix (.var 0) (.lit (.int 1))) .nil)) (.call 2 (.cons (.bi .ix (.var 0) (.lit (.int 2))) (.cons (.lit (.int 0)) (.cons (.lit (.int 1000000000)) .nil)))))))
def b_is_data_1:CS:=(.ret (.and (.bi .le (.un .len (.var 2)) (.lit (.int 40))) (.bi .le (.bi .add (.var 1) (.un .len (.var 2))) (.lit (.int 1000000)))))
def b_is_data_2:CS:=(.seq (.set (.nm 1) (.bi .ix (.var 0) (.lit (.int 4)))) (.seq (.set (.nm 2) (.bi .ix (.var 0) (.lit (.int 5)))) (.seq (.ite (.or (.not (.val (.call 8 (.cons (.var 1) .nil)))) (.not (.val (.call 1 (.cons (.var 2) .nil))))) (.ret (.lit (.bl false))) .skip) b_is_data_1)))
def b_is_data:CS:=(.seq (.ite (.or (.val (.bi .ne (.un .len (.var 0)) (.lit (.int 6)))) (.not (.val (.call 9 (.cons (.var 0) .nil))))) (.ret (.lit (.bl false))) .skip) b_is_data_2)
def b_is_end:CS:=(.ret (.and (.bi .eq (.un .len (.var 0)) (.lit (.int 5))) (.and (.call 9 (.cons (.var 0) .nil)) (.call 8 (.cons (.bi .ix (.var 0) (.lit (.int 4))) .nil)))))
def b_is_span_above_1:CS:=(.ret (.and (.call 8 (.cons (.bi .ix (.var 0) (.lit (.int 0))) .nil)) (.and (.call 8 (.cons (.bi .ix (.var 0) (.lit (.int 1))) .nil)) (.chain .lt .lt (.var 1) (.bi .ix (.var 0) (.lit (.int 0))) (.bi .ix (.var 0) (.lit (.int 1)))))))
def b_is_span_above:CS:=(.seq (.ite (.or (.not (.val (.un (.isi .tuple) (.var 0)))) (.val (.bi .ne (.un .len (.var 0)) (.lit (.int 2))))) (.ret (.lit (.bl false))) .skip) b_is_span_above_1)
def b_are_spans_above_1:CS:=(.set (.nm 1) (.bi .ix (.var 2) (.lit (.int 1))))
def b_are_spans_above_2:CS:=(.seq (.ite (.not (.val (.call 13 (.cons (.var 2) (.cons (.var 1) .nil))))) (.ret (.lit (.bl false))) .skip) b_are_spans_above_1)
def b_are_spans_above_3:CS:=(.ret (.lit (.bl true)))
def b_are_spans_above_4:CS:=(.seq (.fori (.nm 2) (.of (.var 0)) b_are_spans_above_2) b_are_spans_above_3)
def b_are_spans_above:CS:=(.seq (.ite (.or (.not (.val (.un (.isi .tuple) (.var 0)))) (.val (.bi .gt (.un .len (.var 0)) (.lit (.int 8))))) (.ret (.lit (.bl false))) .skip) b_are_spans_above_4)
def b_is_answer_1:CS:=(.ret (.call 14 (.cons (.bi .ix (.var 0) (.lit (.int 6))) (.cons (.bi .ix (.var 0) (.lit (.int 4))) .nil))))
def b_is_answer_2:CS:=(.seq (.ite (.or (.not (.val (.call 2 (.cons (.bi .ix (.var 0) (.lit (.int 4))) (.cons (.lit (.int 0)) (.cons (.lit (.int 1000001)) .nil)))))) (.not (.val (.call 2 (.cons (.bi .ix (.var 0) (.lit (.int 5))) (.cons (.lit (.int 0)) (.cons (.lit (.int 1000200)) .nil))))))) (.ret (.lit (.bl false))) .skip) b_is_answer_1)
def b_is_answer:CS:=(.seq (.ite (.or (.val (.bi .ne (.un .len (.var 0)) (.lit (.int 7)))) (.not (.val (.call 9 (.cons (.var 0) .nil))))) (.ret (.lit (.bl false))) .skip) b_is_answer_2)
def b_is_piece_1:CS:=(.ret (.and (.bi .eq (.var 1) (.lit (.str [97,110,115,119,101,114]))) (.call 15 (.cons (.var 0) .nil))))
def b_is_piece_2:CS:=(.seq (.ite (.val (.bi .eq (.var 1) (.lit (.str [101,110,100])))) (.ret (.call 12 (.cons (.var 0) .nil))) .skip) b_is_piece_1)
def b_is_piece_3:CS:=(.seq (.ite (.val (.bi .eq (.var 1) (.lit (.str [100,97,116,97])))) (.ret (.call 11 (.cons (.var 0) .nil))) .skip) b_is_piece_2)
def b_is_piece_4:CS:=(.seq (.ite (.val (.bi .eq (.var 1) (.lit (.str [104,101,108,108,111])))) (.ret (.call 10 (.cons (.var 0) .nil))) .skip) b_is_piece_3)
def b_is_piece_5:CS:=(.seq (.set (.nm 1) (.bi .ix (.var 0) (.lit (.int 0)))) (.seq (.ite (.not (.val (.un (.isi .str) (.var 1)))) (.ret (.lit (.bl false))) .skip) b_is_piece_4))
def b_is_piece:CS:=(.seq (.ite (.or (.not (.val (.un (.isi .tuple) (.var 0)))) (.val (.bi .eq (.un .len (.var 0)) (.lit (.int 0))))) (.ret (.lit (.bl false))) .skip) b_is_piece_5)
def b_number_words_1:CE:=(.call 4 (.cons (.var 1) .nil))
def b_number_words:CS:=(.ret (.comp b_number_words_1 (.of (.var 0))))
def b_signs_word:CS:=(.seq (.set (.nm 1) (.call 4 (.cons (.un .len (.var 0)) .nil))) (.ret (.bi .add (.bi .add (.var 1) (.lit (.str [58]))) (.var 0))))
def b_spans_word_1:CE:=(.me .join (.lit (.str [45])) (.call 17 (.cons (.var 1) .nil)))
def b_spans_word_2:CS:=(.ret (.me .join (.lit (.str [44])) (.comp b_spans_word_1 (.of (.var 0)))))
def b_spans_word:CS:=(.seq (.ite (.val (.bi .eq (.un .len (.var 0)) (.lit (.int 0)))) (.ret (.lit (.str [45]))) .skip) b_spans_word_2)
def b_body_of_1:CS:=(.set (.nm 2) (.bi .add (.call 17 (.cons (.sl (.var 0) (.at (.lit (.int 1))) (.at (.lit (.int 5)))) .nil)) (.lst (.cons (.call 18 (.cons (.bi .ix (.var 0) (.lit (.int 5))) .nil)) .nil))))
def b_body_of_2:CS:=(.set (.nm 2) (.bi .add (.call 17 (.cons (.sl (.var 0) (.at (.lit (.int 1))) (.at (.lit (.int 6)))) .nil)) (.lst (.cons (.call 19 (.cons (.bi .ix (.var 0) (.lit (.int 6))) .nil)) .nil))))
def b_body_of_3:CS:=(.set (.nm 2) (.call 17 (.cons (.sl (.var 0) (.at (.lit (.int 1))) .no) .nil)))
def b_body_of_4:CS:=(.ite (.val (.bi .eq (.var 1) (.lit (.str [97,110,115,119,101,114])))) b_body_of_2 b_body_of_3)
def b_body_of_5:CS:=(.ret (.me .join (.lit (.str [32])) (.bi .add (.lst (.cons (.var 1) .nil)) (.var 2))))
def b_body_of:CS:=(.seq (.set (.nm 1) (.bi .ix (.var 0) (.lit (.int 0)))) (.seq (.ite (.val (.bi .eq (.var 1) (.lit (.str [100,97,116,97])))) b_body_of_1 b_body_of_4) b_body_of_5))
def b_written_1:CS:=(.seq (.set (.nm 1) (.call 20 (.cons (.var 0) .nil))) (.seq (.set (.nm 2) (.me .zfill (.call 4 (.cons (.call 3 (.cons (.var 1) .nil)) .nil)) (.lit (.int 4)))) (.ret (.bi .add (.bi .add (.var 1) (.lit (.str [32]))) (.var 2)))))
def b_written:CS:=(.seq (.ite (.not (.val (.call 16 (.cons (.var 0) .nil)))) (.raise 22077439339750245) .skip) b_written_1)
def b_numbers_of_1:CE:=(.call 6 (.cons (.var 1) .nil))
def b_numbers_of:CS:=(.ret (.un .tuple (.comp b_numbers_of_1 (.of (.var 0)))))
def b_spans_of_1:CE:=(.call 22 (.cons (.me .split (.var 1) (.lit (.str [45]))) .nil))
def b_spans_of_2:CS:=(.ret (.un .tuple (.comp b_spans_of_1 (.of (.me .split (.var 0) (.lit (.str [44])))))))
def b_spans_of:CS:=(.seq (.ite (.val (.bi .eq (.var 0) (.lit (.str [45])))) (.ret (.tup .nil)) .skip) b_spans_of_2)
def b_parts_of_1:CS:=(.seq (.set (.nm 1) (.splm (.var 0) (.lit (.str [32])) (.lit (.int 5)))) (.ret (.bi .add (.bi .add (.tup (.cons (.var 2) .nil)) (.call 22 (.cons (.sl (.var 1) (.at (.lit (.int 1))) (.at (.un .neg (.lit (.int 1))))) .nil))) (.tup (.cons (.bi .ix (.me .part (.bi .ix (.var 1) (.un .neg (.lit (.int 1)))) (.lit (.str [58]))) (.lit (.int 2))) .nil)))))
def b_parts_of_2:CS:=(.ret (.bi .add (.tup (.cons (.var 2) .nil)) (.call 22 (.cons (.sl (.var 1) (.at (.lit (.int 1))) .no) .nil))))
def b_parts_of_3:CS:=(.seq (.ite (.val (.bi .eq (.var 2) (.lit (.str [97,110,115,119,101,114])))) (.ret (.bi .add (.bi .add (.tup (.cons (.var 2) .nil)) (.call 22 (.cons (.sl (.var 1) (.at (.lit (.int 1))) (.at (.un .neg (.lit (.int 1))))) .nil))) (.tup (.cons (.call 23 (.cons (.bi .ix (.var 1) (.un .neg (.lit (.int 1)))) .nil)) .nil)))) .skip) b_parts_of_2)
def b_parts_of:CS:=(.seq (.set (.nm 1) (.me .split (.var 0) (.lit (.str [32])))) (.seq (.set (.nm 2) (.bi .ix (.var 1) (.lit (.int 0)))) (.seq (.ite (.val (.bi .eq (.var 2) (.lit (.str [100,97,116,97])))) b_parts_of_1 .skip) b_parts_of_3)))
def b_read_1:CS:=(.ret (.var 1))
def b_read_2:CS:=(.seq (.set (.nm 1) (.call 24 (.cons (.bi .ix (.me .rpart (.var 0) (.lit (.str [32]))) (.lit (.int 0))) .nil))) (.seq (.ite (.or (.not (.val (.call 16 (.cons (.var 1) .nil)))) (.val (.bi .ne (.call 21 (.cons (.var 1) .nil)) (.var 0)))) (.raise 91742370622580) .skip) b_read_1))
def b_read:CS:=(.seq (.ite (.not (.val (.call 1 (.cons (.var 0) .nil)))) (.raise 91742370622580) .skip) b_read_2)
def b_law_mixed_1:CS:=(.seq (.set (.nm 2) (.bi .mod (.bi .add (.bi .add (.bi .mul (.var 2) (.lit (.int 6364136223846793005))) (.var 3)) (.lit (.int 1442695040888963407))) (.lit (.int 1000000000000000003)))) (.exp (.me .append (.var 1) (.var 2))))
def b_law_mixed_2:CS:=(.ret (.var 1))
def b_law_mixed:CS:=(.seq (.set (.nm 1) (.lst .nil)) (.seq (.set (.nm 2) (.lit (.int 1))) (.seq (.fori (.nm 3) (.of (.var 0)) b_law_mixed_1) b_law_mixed_2)))
def b_law_cell_at_1:CS:=(.ret (.bi .mul (.bi .add (.var 1) (.lit (.int 1))) (.lit (.int 7919))))
def b_law_cell_at:CS:=(.seq (.ite (.val (.bi .lt (.var 1) (.un .len (.var 0)))) (.ret (.bi .ix (.var 0) (.var 1))) .skip) b_law_cell_at_1)
def b_law_whole:CS:=(.ret (.and (.un (.isi .int) (.var 0)) (.not (.un (.isi .bool) (.var 0)))))
def b_law_all:CS:=(.seq (.set (.nm 0) (.lit (.str [32,33,34,35,36,38,39,40,41,42,43,44,45,46,47,48,49,50,51,52,53,54,55,56,57,58,59,60,61,62,63,64,65,66,67,68,69,70,71,72,73,74,75,76,77,78,79,80,81,82,83,84,85,86,87,88,89,90,91,92,93,94,95,96]))) (.ret (.bi .add (.var 0) (.lit (.str [97,98,99,100,101,102,103,104,105,106,107,108,109,110,111,112,113,114,115,116,117,118,119,120,121,122,123,124,125,126])))))
def b_law_signs_by_1:CS:=(.set (.nm 3) (.bi .add (.var 3) (.bi .ix (.var 2) (.bi .mod (.bi .add (.bi .fdiv (.var 0) (.lit (.int 95))) (.bi .mul (.var 4) (.bi .add (.lit (.int 1)) (.bi .mod (.var 0) (.lit (.int 95)))))) (.lit (.int 94))))))
def b_law_signs_by_2:CS:=(.ret (.var 3))
def b_law_signs_by:CS:=(.seq (.set (.nm 2) (.call 29 .nil)) (.seq (.set (.nm 3) (.lit (.str []))) (.seq (.fori (.nm 4) (.rng1 (.var 1)) b_law_signs_by_1) b_law_signs_by_2)))
def b_law_check_1:CS:=(.set (.nm 1) (.bi .mod (.bi .sub (.bi .add (.bi .mul (.lit (.int 31)) (.var 1)) (.un .ord (.var 2))) (.lit (.int 32))) (.lit (.int 9973))))
def b_law_check_2:CS:=(.ret (.var 1))
def b_law_check:CS:=(.seq (.set (.nm 1) (.lit (.int 7))) (.seq (.fori (.nm 2) (.of (.var 0)) b_law_check_1) b_law_check_2))
def b_law_number_by_1:CS:=(.ret (.bi .mod (.bi .fdiv (.var 0) (.lit (.int 4))) (.bi .min2 (.lit (.int 40)) (.bi .add (.var 1) (.lit (.int 1))))))
def b_law_number_by_2:CS:=(.seq (.ite (.val (.bi .eq (.var 2) (.lit (.int 1)))) (.ret (.bi .sub (.var 1) (.bi .mod (.bi .fdiv (.var 0) (.lit (.int 4))) (.lit (.int 2))))) .skip) b_law_number_by_1)
def b_law_number_by:CS:=(.seq (.set (.nm 2) (.bi .mod (.var 0) (.lit (.int 4)))) (.seq (.ite (.val (.bi .eq (.var 2) (.lit (.int 0)))) (.ret (.bi .mod (.bi .fdiv (.var 0) (.lit (.int 4))) (.bi .add (.var 1) (.lit (.int 1))))) .skip) b_law_number_by_2))
def b_law_spans_by_1:CS:=(.seq (.set (.nm 3) (.bi .add (.bi .add (.var 3) (.lit (.int 1))) (.bi .mod (.bi .add (.bi .fdiv (.var 0) (.lit (.int 9))) (.bi .mul (.var 4) (.bi .fdiv (.var 0) (.lit (.int 99))))) (.lit (.int 30))))) (.seq (.exp (.me .append (.var 2) (.tup (.cons (.var 3) (.cons (.bi .add (.bi .add (.var 3) (.lit (.int 1))) (.bi .mod (.bi .add (.bi .fdiv (.var 0) (.lit (.int 270))) (.var 4)) (.lit (.int 12)))) .nil))))) (.set (.nm 3) (.bi .ix (.bi .ix (.var 2) (.un .neg (.lit (.int 1)))) (.lit (.int 1))))))
def b_law_spans_by_2:CS:=(.ret (.un .tuple (.var 2)))
def b_law_spans_by:CS:=(.seq (.set (.nm 2) (.lst .nil)) (.seq (.set (.nm 3) (.var 1)) (.seq (.fori (.nm 4) (.rng1 (.bi .mod (.var 0) (.lit (.int 9)))) b_law_spans_by_1) b_law_spans_by_2)))
def b_law_piece_by_1:CS:=(.seq (.set (.nm 7) (.bi .mod (.bi .fdiv (.var 2) (.lit (.int 4))) (.lit (.int 41)))) (.ret (.tup (.cons (.lit (.str [100,97,116,97])) (.cons (.var 3) (.cons (.var 4) (.cons (.var 5) (.cons (.call 32 (.cons (.var 6) (.cons (.bi .sub (.lit (.int 1000000)) (.var 7)) .nil))) (.cons (.call 30 (.cons (.bi .fdiv (.var 2) (.lit (.int 164))) (.cons (.var 7) .nil))) .nil)))))))))
def b_law_piece_by_2:CS:=(.ret (.tup (.cons (.lit (.str [97,110,115,119,101,114])) (.cons (.var 3) (.cons (.var 4) (.cons (.var 5) (.cons (.var 8) (.cons (.var 9) (.cons (.call 33 (.cons (.bi .fdiv (.var 6) (.lit (.int 7))) (.cons (.var 8) .nil))) .nil)))))))))
def b_law_piece_by_3:CS:=(.seq (.set (.nm 8) (.call 32 (.cons (.var 6) (.cons (.lit (.int 1000001)) .nil)))) (.seq (.set (.nm 9) (.call 32 (.cons (.bi .fdiv (.var 2) (.lit (.int 4))) (.cons (.lit (.int 1000200)) .nil)))) (.seq (.ite (.val (.bi .gt (.var 8) (.lit (.int 999000)))) (.ret (.tup (.cons (.lit (.str [97,110,115,119,101,114])) (.cons (.var 3) (.cons (.var 4) (.cons (.var 5) (.cons (.var 8) (.cons (.var 9) (.cons (.tup .nil) .nil))))))))) .skip) b_law_piece_by_2)))
def b_law_piece_by_4:CS:=(.seq (.ite (.val (.bi .eq (.bi .mod (.var 2) (.lit (.int 4))) (.lit (.int 2)))) (.ret (.tup (.cons (.lit (.str [101,110,100])) (.cons (.var 3) (.cons (.var 4) (.cons (.var 5) (.cons (.call 32 (.cons (.var 6) (.cons (.lit (.int 1000000)) .nil))) .nil))))))) .skip) b_law_piece_by_3)
def b_law_piece_by_5:CS:=(.seq (.ite (.val (.bi .eq (.bi .mod (.var 2) (.lit (.int 4))) (.lit (.int 1)))) b_law_piece_by_1 .skip) b_law_piece_by_4)
def b_law_piece_by:CS:=(.seq (.set (.nm 2) (.call 27 (.cons (.var 0) (.cons (.var 1) .nil)))) (.seq (.set (.nm 3) (.bi .add (.lit (.int 1)) (.call 32 (.cons (.call 27 (.cons (.var 0) (.cons (.bi .add (.var 1) (.lit (.int 1))) .nil))) (.cons (.lit (.int 999999999)) .nil))))) (.seq (.set (.nm 4) (.bi .add (.lit (.int 1)) (.call 32 (.cons (.call 27 (.cons (.var 0) (.cons (.bi .add (.var 1) (.lit (.int 2))) .nil))) (.cons (.lit (.int 999999999)) .nil))))) (.seq (.set (.nm 5) (.call 32 (.cons (.call 27 (.cons (.var 0) (.cons (.bi .add (.var 1) (.lit (.int 3))) .nil))) (.cons (.lit (.int 999)) .nil)))) (.seq (.set (.nm 6) (.call 27 (.cons (.var 0) (.cons (.bi .add (.var 1) (.lit (.int 4))) .nil)))) (.seq (.ite (.val (.bi .eq (.bi .mod (.var 2) (.lit (.int 4))) (.lit (.int 0)))) (.ret (.tup (.cons (.lit (.str [104,101,108,108,111])) (.cons (.var 3) (.cons (.bi .sub (.var 4) (.bi .mod (.bi .fdiv (.var 2) (.lit (.int 4))) (.lit (.int 2)))) .nil))))) .skip) b_law_piece_by_5))))))
def b_law_four:CS:=(.ret (.sl (.bi .add (.lit (.str [48,48,48])) (.un .str (.var 0))) (.at (.un .neg (.lit (.int 4)))) .no))
def b_law_line_1:CS:=(.set (.nm 1) (.bi .add (.bi .add (.var 1) (.lit (.str [32]))) (.un .str (.var 2))))
def b_law_line_2:CS:=(.set (.nm 1) (.bi .add (.bi .add (.bi .add (.bi .add (.var 1) (.lit (.str [32]))) (.un .str (.un .len (.bi .ix (.var 0) (.lit (.int 5)))))) (.lit (.str [58]))) (.bi .ix (.var 0) (.lit (.int 5)))))
def b_law_line_3:CS:=(.set (.nm 1) (.bi .add (.bi .add (.bi .add (.bi .add (.var 1) (.bi .ix (.lst (.cons (.lit (.str [])) (.cons (.lit (.str [44])) .nil))) (.un .int (.bi .gt (.var 3) (.lit (.int 0)))))) (.un .str (.bi .ix (.bi .ix (.bi .ix (.var 0) (.lit (.int 6))) (.var 3)) (.lit (.int 0))))) (.lit (.str [45]))) (.un .str (.bi .ix (.bi .ix (.bi .ix (.var 0) (.lit (.int 6))) (.var 3)) (.lit (.int 1))))))
def b_law_line_4:CS:=(.set (.nm 1) (.bi .add (.var 1) (.lit (.str [45]))))
def b_law_line_5:CS:=(.ite (.val (.bi .eq (.bi .ix (.var 0) (.lit (.int 6))) (.tup .nil))) b_law_line_4 .skip)
def b_law_line_6:CS:=(.seq (.set (.nm 1) (.bi .add (.bi .add (.bi .add (.var 1) (.lit (.str [32]))) (.un .str (.bi .ix (.var 0) (.lit (.int 5))))) (.lit (.str [32])))) (.seq (.fori (.nm 3) (.rng1 (.un .len (.bi .ix (.var 0) (.lit (.int 6))))) b_law_line_3) b_law_line_5))
def b_law_line_7:CS:=(.ret (.bi .add (.bi .add (.var 1) (.lit (.str [32]))) (.call 35 (.cons (.call 31 (.cons (.var 1) .nil)) .nil))))
def b_law_line_8:CS:=(.seq (.ite (.val (.bi .eq (.bi .ix (.var 0) (.lit (.int 0))) (.lit (.str [97,110,115,119,101,114])))) b_law_line_6 .skip) b_law_line_7)
def b_law_line_9:CS:=(.seq (.ite (.val (.bi .eq (.bi .ix (.var 0) (.lit (.int 0))) (.lit (.str [100,97,116,97])))) b_law_line_2 .skip) b_law_line_8)
def b_law_line:CS:=(.seq (.set (.nm 1) (.bi .ix (.var 0) (.lit (.int 0)))) (.seq (.fori (.nm 2) (.of (.sl (.var 0) (.at (.lit (.int 1))) (.at (.lit (.int 5))))) b_law_line_1) b_law_line_9))
def b_law_in:CS:=(.ret (.and (.call 28 (.cons (.var 0) .nil)) (.and (.bi .le (.var 1) (.var 0)) (.bi .le (.var 0) (.var 2)))))
def b_law_fine_1:CS:=(.set (.nm 1) (.bi .ix (.var 2) (.lit (.int 1))))
def b_law_fine_2:CS:=(.seq (.ite (.or (.not (.val (.call 37 (.cons (.bi .ix (.var 2) (.lit (.int 0))) (.cons (.bi .add (.var 1) (.lit (.int 1))) (.cons (.lit (.int 1000000)) .nil)))))) (.not (.val (.call 37 (.cons (.bi .ix (.var 2) (.lit (.int 1))) (.cons (.bi .add (.bi .ix (.var 2) (.lit (.int 0))) (.lit (.int 1))) (.cons (.lit (.int 1000000)) .nil))))))) (.ret (.lit (.bl false))) .skip) b_law_fine_1)
def b_law_fine_3:CS:=(.seq (.ite (.or (.not (.val (.un (.isi .tuple) (.var 2)))) (.val (.bi .ne (.un .len (.var 2)) (.lit (.int 2))))) (.ret (.lit (.bl false))) .skip) b_law_fine_2)
def b_law_fine_4:CS:=(.ret (.lit (.bl true)))
def b_law_fine_5:CS:=(.seq (.fori (.nm 2) (.of (.var 0)) b_law_fine_3) b_law_fine_4)
def b_law_fine:CS:=(.seq (.ite (.or (.not (.val (.un (.isi .tuple) (.var 0)))) (.val (.bi .gt (.un .len (.var 0)) (.lit (.int 8))))) (.ret (.lit (.bl false))) .skip) b_law_fine_5)
def b_law_good_signs_1:CS:=(.ite (.val (.bi .notin (.var 1) (.call 29 .nil))) (.ret (.lit (.bl false))) .skip)
def b_law_good_signs_2:CS:=(.ret (.lit (.bl true)))
def b_law_good_signs_3:CS:=(.seq (.fori (.nm 1) (.of (.var 0)) b_law_good_signs_1) b_law_good_signs_2)
def b_law_good_signs:CS:=(.seq (.ite (.not (.val (.un (.isi .str) (.var 0)))) (.ret (.lit (.bl false))) .skip) b_law_good_signs_3)
def b_law_is_piece_1:CS:=(.ret (.call 37 (.cons (.bi .ix (.var 0) (.lit (.int 4))) (.cons (.lit (.int 0)) (.cons (.bi .sub (.lit (.int 1000000)) (.un .len (.bi .ix (.var 0) (.lit (.int 5))))) .nil)))))
def b_law_is_piece_2:CS:=(.seq (.ite (.or (.val (.bi .ne (.un .len (.var 0)) (.lit (.int 6)))) (.or (.not (.val (.call 39 (.cons (.bi .ix (.var 0) (.lit (.int 5))) .nil)))) (.val (.bi .gt (.un .len (.bi .ix (.var 0) (.lit (.int 5)))) (.lit (.int 40)))))) (.ret (.lit (.bl false))) .skip) b_law_is_piece_1)
def b_law_is_piece_3:CS:=(.ret (.and (.call 37 (.cons (.bi .ix (.var 0) (.lit (.int 5))) (.cons (.lit (.int 0)) (.cons (.lit (.int 1000200)) .nil)))) (.call 38 (.cons (.bi .ix (.var 0) (.lit (.int 6))) (.cons (.bi .ix (.var 0) (.lit (.int 4))) .nil)))))
def b_law_is_piece_4:CS:=(.seq (.ite (.or (.val (.bi .ne (.bi .ix (.var 0) (.lit (.int 0))) (.lit (.str [97,110,115,119,101,114])))) (.or (.val (.bi .ne (.un .len (.var 0)) (.lit (.int 7)))) (.not (.val (.call 37 (.cons (.bi .ix (.var 0) (.lit (.int 4))) (.cons (.lit (.int 0)) (.cons (.lit (.int 1000001)) .nil)))))))) (.ret (.lit (.bl false))) .skip) b_law_is_piece_3)
def b_law_is_piece_5:CS:=(.seq (.ite (.val (.bi .eq (.bi .ix (.var 0) (.lit (.int 0))) (.lit (.str [100,97,116,97])))) b_law_is_piece_2 .skip) b_law_is_piece_4)
def b_law_is_piece_6:CS:=(.seq (.ite (.val (.bi .eq (.bi .ix (.var 0) (.lit (.int 0))) (.lit (.str [101,110,100])))) (.ret (.and (.bi .eq (.un .len (.var 0)) (.lit (.int 5))) (.call 37 (.cons (.bi .ix (.var 0) (.lit (.int 4))) (.cons (.lit (.int 0)) (.cons (.lit (.int 1000000)) .nil)))))) .skip) b_law_is_piece_5)
def b_law_is_piece_7:CS:=(.seq (.ite (.or (.val (.bi .lt (.un .len (.var 0)) (.lit (.int 5)))) (.not (.val (.call 37 (.cons (.bi .ix (.var 0) (.lit (.int 3))) (.cons (.lit (.int 0)) (.cons (.lit (.int 999)) .nil))))))) (.ret (.lit (.bl false))) .skip) b_law_is_piece_6)
def b_law_is_piece_8:CS:=(.seq (.ite (.val (.bi .eq (.bi .ix (.var 0) (.lit (.int 0))) (.lit (.str [104,101,108,108,111])))) (.ret (.bi .eq (.un .len (.var 0)) (.lit (.int 3)))) .skip) b_law_is_piece_7)
def b_law_is_piece_9:CS:=(.seq (.set (.nm 1) (.un .int (.bi .ne (.bi .ix (.var 0) (.lit (.int 0))) (.lit (.str [104,101,108,108,111]))))) (.seq (.ite (.or (.not (.val (.call 37 (.cons (.bi .ix (.var 0) (.lit (.int 1))) (.cons (.lit (.int 1)) (.cons (.lit (.int 1000000000)) .nil)))))) (.not (.val (.call 37 (.cons (.bi .ix (.var 0) (.lit (.int 2))) (.cons (.var 1) (.cons (.lit (.int 1000000000)) .nil))))))) (.ret (.lit (.bl false))) .skip) b_law_is_piece_8))
def b_law_is_piece:CS:=(.seq (.ite (.or (.not (.val (.un (.isi .tuple) (.var 0)))) (.or (.val (.bi .lt (.un .len (.var 0)) (.lit (.int 3)))) (.not (.val (.un (.isi .str) (.bi .ix (.var 0) (.lit (.int 0)))))))) (.ret (.lit (.bl false))) .skip) b_law_is_piece_9)
def b_law_same_1:CS:=(.ite (.and (.val (.un (.isi .tuple) (.bi .ix (.var 1) (.var 2)))) (.not (.val (.call 41 (.cons (.bi .ix (.var 0) (.var 2)) (.cons (.bi .ix (.var 1) (.var 2)) .nil)))))) (.ret (.lit (.bl false))) .skip)
def b_law_same_2:CS:=(.seq (.ite (.and (.val (.call 28 (.cons (.bi .ix (.var 1) (.var 2)) .nil))) (.not (.val (.call 28 (.cons (.bi .ix (.var 0) (.var 2)) .nil))))) (.ret (.lit (.bl false))) .skip) b_law_same_1)
def b_law_same_3:CS:=(.seq (.ite (.and (.val (.un (.isi .str) (.bi .ix (.var 1) (.var 2)))) (.not (.val (.un (.isi .str) (.bi .ix (.var 0) (.var 2)))))) (.ret (.lit (.bl false))) .skip) b_law_same_2)
def b_law_same_4:CS:=(.ret (.bi .eq (.var 0) (.var 1)))
def b_law_same_5:CS:=(.seq (.fori (.nm 2) (.rng1 (.un .len (.var 1))) b_law_same_3) b_law_same_4)
def b_law_same:CS:=(.seq (.ite (.or (.not (.val (.un (.isi .tuple) (.var 0)))) (.val (.bi .ne (.un .len (.var 0)) (.un .len (.var 1))))) (.ret (.lit (.bl false))) .skip) b_law_same_5)
def b_law_number_of_1:CS:=(.ite (.val (.bi .notin (.var 1) (.lit (.str [48,49,50,51,52,53,54,55,56,57])))) (.ret (.lit .non)) .skip)
def b_law_number_of_2:CS:=(.ret (.un .int (.var 0)))
def b_law_number_of_3:CS:=(.seq (.fori (.nm 1) (.of (.var 0)) b_law_number_of_1) b_law_number_of_2)
def b_law_number_of:CS:=(.seq (.ite (.or (.val (.bi .eq (.var 0) (.lit (.str [])))) (.or (.val (.bi .gt (.un .len (.var 0)) (.lit (.int 13)))) (.and (.val (.bi .eq (.bi .ix (.var 0) (.lit (.int 0))) (.lit (.str [48])))) (.val (.bi .ne (.var 0) (.lit (.str [48]))))))) (.ret (.lit .non)) .skip) b_law_number_of_3)
def b_law_spans_of_1:CS:=(.exp (.me .append (.var 1) (.tup (.cons (.call 42 (.cons (.bi .ix (.var 3) (.lit (.int 0))) .nil)) (.cons (.call 42 (.cons (.bi .ix (.var 3) (.lit (.int 1))) .nil)) .nil)))))
def b_law_spans_of_2:CS:=(.seq (.set (.nm 3) (.me .split (.var 2) (.lit (.str [45])))) (.seq (.ite (.or (.val (.bi .ne (.un .len (.var 3)) (.lit (.int 2)))) (.or (.val (.un .isN (.call 42 (.cons (.bi .ix (.var 3) (.lit (.int 0))) .nil)))) (.val (.un .isN (.call 42 (.cons (.bi .ix (.var 3) (.lit (.int 1))) .nil)))))) (.ret (.lit .non)) .skip) b_law_spans_of_1))
def b_law_spans_of_3:CS:=(.ret (.un .tuple (.var 1)))
def b_law_spans_of_4:CS:=(.seq (.fori (.nm 2) (.of (.me .split (.var 0) (.lit (.str [44])))) b_law_spans_of_2) b_law_spans_of_3)
def b_law_spans_of:CS:=(.seq (.set (.nm 1) (.lst .nil)) (.seq (.ite (.val (.bi .eq (.var 0) (.lit (.str [45])))) (.ret (.tup .nil)) .skip) b_law_spans_of_4))
def b_law_told_1:CS:=(.exp (.me .append (.var 2) (.call 42 (.cons (.var 3) .nil))))
def b_law_told_2:CS:=(.seq (.set (.nm 4) (.me .join (.lit (.str [32])) (.sl (.var 1) (.at (.lit (.int 5))) .no))) (.exp (.me .append (.var 2) (.sl (.var 4) (.at (.bi .add (.me .find (.var 4) (.lit (.str [58]))) (.lit (.int 1)))) .no))))
def b_law_told_3:CS:=(.seq (.exp (.me .append (.var 2) (.call 42 (.cons (.bi .ix (.var 1) (.lit (.int 5))) .nil)))) (.exp (.me .append (.var 2) (.call 43 (.cons (.bi .ix (.var 1) (.lit (.int 6))) .nil)))))
def b_law_told_4:CS:=(.ret (.var 5))
def b_law_told_5:CS:=(.seq (.set (.nm 5) (.un .tuple (.var 2))) (.seq (.ite (.or (.not (.val (.call 40 (.cons (.var 5) .nil)))) (.val (.bi .ne (.call 36 (.cons (.var 5) .nil)) (.var 0)))) (.ret (.lit .non)) .skip) b_law_told_4))
def b_law_told_6:CS:=(.seq (.ite (.and (.val (.bi .eq (.bi .ix (.var 1) (.lit (.int 0))) (.lit (.str [97,110,115,119,101,114])))) (.val (.bi .eq (.un .len (.var 1)) (.lit (.int 7))))) b_law_told_3 .skip) b_law_told_5)
def b_law_told_7:CS:=(.seq (.ite (.val (.bi .eq (.bi .ix (.var 1) (.lit (.int 0))) (.lit (.str [100,97,116,97])))) b_law_told_2 .skip) b_law_told_6)
def b_law_told:CS:=(.seq (.set (.nm 1) (.me .split (.sl (.var 0) .no (.at (.un .neg (.lit (.int 5))))) (.lit (.str [32])))) (.seq (.set (.nm 2) (.lst (.cons (.bi .ix (.var 1) (.lit (.int 0))) .nil))) (.seq (.fori (.nm 3) (.of (.sl (.var 1) (.at (.lit (.int 1))) (.at (.lit (.int 5))))) b_law_told_1) b_law_told_7)))
def b_law_mended_1:CS:=(.set (.nm 2) (.bi .ix (.lit (.str [48,49,50,51,52,53,54,55,56,57,32,45,44,58])) (.bi .mod (.bi .fdiv (.var 1) (.lit (.int 6))) (.lit (.int 14)))))
def b_law_mended_2:CS:=(.ret (.bi .add (.bi .add (.sl (.var 0) .no (.at (.var 3))) (.var 2)) (.sl (.var 0) (.at (.bi .add (.var 3) (.lit (.int 1)))) .no)))
def b_law_mended_3:CS:=(.seq (.ite (.val (.bi .eq (.bi .mod (.var 1) (.lit (.int 3))) (.lit (.int 1)))) (.ret (.bi .add (.sl (.var 0) .no (.at (.var 3))) (.sl (.var 0) (.at (.bi .add (.var 3) (.lit (.int 1)))) .no))) .skip) b_law_mended_2)
def b_law_mended_4:CS:=(.seq (.set (.nm 3) (.bi .mod (.bi .fdiv (.var 1) (.lit (.int 600))) (.bi .add (.un .len (.var 0)) (.lit (.int 1))))) (.seq (.ite (.val (.bi .eq (.bi .mod (.var 1) (.lit (.int 3))) (.lit (.int 0)))) (.ret (.bi .add (.bi .add (.sl (.var 0) .no (.at (.var 3))) (.var 2)) (.sl (.var 0) (.at (.var 3)) .no))) .skip) b_law_mended_3))
def b_law_mended:CS:=(.seq (.set (.nm 2) (.bi .ix (.bi .add (.call 29 .nil) (.lit (.str [10,9]))) (.bi .mod (.bi .fdiv (.var 1) (.lit (.int 6))) (.lit (.int 96))))) (.seq (.ite (.val (.bi .eq (.bi .mod (.bi .fdiv (.var 1) (.lit (.int 3))) (.lit (.int 2))) (.lit (.int 0)))) b_law_mended_1 .skip) b_law_mended_4))
def b_law_odd:CS:=(.seq (.set (.nm 1) (.lst (.cons (.lit (.str [])) (.cons (.lit (.str [32])) (.cons (.lit (.str [48,48,48,55])) (.cons (.lit (.str [104,101,108,108,111])) (.cons (.lit (.str [104,101,108,108,111,32,49])) (.cons (.lit (.str [104,101,108,108,111,32,48,32,48])) (.cons (.lit (.str [104,101,108,108,111,32,49,32,50,32,51])) (.cons (.lit (.str [72,101,108,108,111,32,49,32,48])) (.cons (.lit (.str [100,97,116,97,32,49,32,49,32,48,32,48,32,48,58])) .nil))))))))))) (.seq (.set (.nm 1) (.bi .add (.var 1) (.lst (.cons (.lit (.str [100,97,116,97,32,49,32,49,32,48,32,48,32,49,58])) (.cons (.lit (.str [100,97,116,97,32,49,32,49,32,48,32,48,32,51,58,97,32,98])) (.cons (.lit (.str [100,97,116,97,32,49,32,49,32,48,32,48,32,58])) (.cons (.lit (.str [100,97,116,97,32,49,32,49,32,48,32,48,32,48])) (.cons (.lit (.str [101,110,100,32,49,32,49,32,48])) .nil)))))))) (.seq (.set (.nm 1) (.bi .add (.var 1) (.lst (.cons (.lit (.str [101,110,100,32,49,32,49,32,48,32,48,48])) (.cons (.lit (.str [101,110,100,32,49,32,48,32,48,32,48])) (.cons (.lit (.str [97,110,115,119,101,114,32,49,32,49,32,48,32,48,32,49,32])) (.cons (.lit (.str [97,110,115,119,101,114,32,49,32,49,32,48,32,48,32,49,32,45])) .nil))))))) (.seq (.set (.nm 1) (.bi .add (.var 1) (.lst (.cons (.lit (.str [97,110,115,119,101,114,32,49,32,49,32,48,32,48,32,49,32,49,45,50,44,50,45,51])) (.cons (.lit (.str [97,110,115,119,101,114,32,49,32,49,32,48,32,53,32,57,32,55,45,57])) .nil))))) (.ret (.bi .ix (.var 1) (.bi .mod (.var 0) (.lit (.int 20)))))))))
def b_law_refused_1:CS:=(.exp (.call 25 (.cons (.var 0) .nil)))
def b_law_refused_2:CS:=(.ret (.lit (.bl true)))
def b_law_refused_3:CS:=(.ret (.lit (.bl false)))
def b_law_refused:CS:=(.seq (.tryx b_law_refused_1 (.cons [91742370622580] b_law_refused_2 .nil)) b_law_refused_3)
def b_law_1:CS:=(.set (.nm 3) (.call 46 (.cons (.bi .fdiv (.var 2) (.lit (.int 5))) .nil)))
def b_law_2:CS:=(.set (.nm 3) (.call 45 (.cons (.var 3) (.cons (.call 27 (.cons (.var 1) (.cons (.bi .add (.lit (.int 6)) (.var 4)) .nil))) .nil))))
def b_law_3:CS:=(.seq (.set (.nm 3) (.sl (.var 3) .no (.at (.bi .sub (.un .len (.var 3)) (.bi .mul (.lit (.int 5)) (.bi .mod (.bi .fdiv (.var 2) (.lit (.int 5))) (.lit (.int 2)))))))) (.fori (.nm 4) (.rng1 (.bi .add (.lit (.int 1)) (.bi .mod (.bi .fdiv (.var 2) (.lit (.int 10))) (.lit (.int 3))))) b_law_2))
def b_law_4:CE:=(.var 9)
def b_law_5:CT:=(.val (.bi .isin (.var 9) (.call 29 .nil)))
def b_law_6:CS:=(.seq (.set (.nm 5) (.me .join (.lit (.str [])) (.compIf b_law_4 b_law_5 (.of (.var 3))))) (.set (.nm 3) (.bi .add (.bi .add (.var 3) (.lit (.str [32]))) (.call 35 (.cons (.call 31 (.cons (.var 5) .nil)) .nil)))))
def b_law_7:CS:=(.set (.nm 7) (.call 25 (.cons (.var 3) .nil)))
def b_law_8:CS:=(.ret (.and (.un .isN (.var 6)) (.and (.un (.isx [332437021739526678278002,91742370622580,22077439339750245] [332437021739526678278002,91742370622580,22077439339750245]) (.var 8)) (.un (.isx [332437021739526678278002,91742370622580,22077439339750245] [332437021739526678278002,91742370622580,22077439339750245]) (.var 8)))))
def b_law_9:CS:=(.ret (.and (.un .notN (.var 6)) (.call 41 (.cons (.var 7) (.cons (.var 6) .nil)))))
def b_law_10:CS:=(.seq (.set (.nm 6) (.call 44 (.cons (.var 3) .nil))) (.seq (.tryx b_law_7 (.as [91742370622580] 8 b_law_8 .nil)) b_law_9))
def b_law_11:CS:=(.seq (.ite (.or (.val (.bi .eq (.bi .mod (.bi .fdiv (.var 2) (.lit (.int 5))) (.lit (.int 2))) (.lit (.int 1)))) (.val (.bi .eq (.bi .mod (.var 2) (.lit (.int 5))) (.lit (.int 4))))) b_law_6 .skip) b_law_10)
def b_law_12:CS:=(.seq (.set (.nm 2) (.call 27 (.cons (.var 1) (.cons (.lit (.int 0)) .nil)))) (.seq (.set (.nm 3) (.call 36 (.cons (.call 34 (.cons (.var 1) (.cons (.lit (.int 1)) .nil))) .nil))) (.seq (.ite (.val (.bi .eq (.bi .mod (.var 2) (.lit (.int 5))) (.lit (.int 4)))) b_law_1 b_law_3) b_law_11)))
def b_law:CS:=(.seq (.set (.nm 1) (.call 26 (.cons (.var 0) .nil))) (.seq (.ite (.not (.val (.call 47 (.cons (.bi .ix (.lst (.cons (.lit .non) (.cons (.lit (.int 5)) (.cons (.lst .nil) (.cons (.tup (.cons (.lit (.str [104,101,108,108,111])) (.cons (.lit (.int 1)) (.cons (.lit (.int 0)) .nil)))) .nil))))) (.bi .mod (.call 27 (.cons (.var 1) (.cons (.lit (.int 9)) .nil))) (.lit (.int 4)))) .nil)))) (.ret (.lit (.bl false))) .skip) b_law_12))
noncomputable def fns:List Fn:=[⟨1,2,b_is_sign⟩,
 ⟨1,1,b_is_signs⟩,
 ⟨3,3,b_is_number⟩,
 ⟨1,3,b_check_of⟩,
 ⟨1,1,b_figures⟩,
 ⟨1,1,b_is_figures⟩,
 ⟨1,2,b_number_of⟩,
 ⟨1,1,b_is_life⟩,
 ⟨1,1,b_is_place⟩,
 ⟨1,1,b_names_stream⟩,
 ⟨1,1,b_is_hello⟩,
 ⟨1,3,b_is_data⟩,
 ⟨1,1,b_is_end⟩,
 ⟨2,2,b_is_span_above⟩,
 ⟨2,3,b_are_spans_above⟩,
 ⟨1,1,b_is_answer⟩,
 ⟨1,2,b_is_piece⟩,
 ⟨1,1,b_number_words⟩,
 ⟨1,2,b_signs_word⟩,
 ⟨1,1,b_spans_word⟩,
 ⟨1,3,b_body_of⟩,
 ⟨1,3,b_written⟩,
 ⟨1,1,b_numbers_of⟩,
 ⟨1,1,b_spans_of⟩,
 ⟨1,3,b_parts_of⟩,
 ⟨1,2,b_read⟩,
 ⟨1,4,b_law_mixed⟩,
 ⟨2,2,b_law_cell_at⟩,
 ⟨1,1,b_law_whole⟩,
 ⟨0,1,b_law_all⟩,
 ⟨2,5,b_law_signs_by⟩,
 ⟨1,3,b_law_check⟩,
 ⟨2,3,b_law_number_by⟩,
 ⟨2,5,b_law_spans_by⟩,
 ⟨2,10,b_law_piece_by⟩,
 ⟨1,1,b_law_four⟩,
 ⟨1,4,b_law_line⟩,
 ⟨3,3,b_law_in⟩,
 ⟨2,3,b_law_fine⟩,
 ⟨1,2,b_law_good_signs⟩,
 ⟨1,2,b_law_is_piece⟩,
 ⟨2,3,b_law_same⟩,
 ⟨1,2,b_law_number_of⟩,
 ⟨1,4,b_law_spans_of⟩,
 ⟨1,6,b_law_told⟩,
 ⟨2,4,b_law_mended⟩,
 ⟨1,2,b_law_odd⟩,
 ⟨1,1,b_law_refused⟩,
 ⟨1,9,b_law⟩]
abbrev i_is_sign:Nat:=0
theorem c_is_sign (B n:Nat) (a0:D) (h:AH):callN fns B (n+1) 0 [a0] h=fin (denS (callN fns B n) B b_is_sign [some a0,none] h):=rfl
abbrev i_is_signs:Nat:=1
theorem c_is_signs (B n:Nat) (a0:D) (h:AH):callN fns B (n+1) 1 [a0] h=fin (denS (callN fns B n) B b_is_signs [some a0] h):=rfl
abbrev i_is_number:Nat:=2
theorem c_is_number (B n:Nat) (a0 a1 a2:D) (h:AH):callN fns B (n+1) 2 [a0,a1,a2] h=fin (denS (callN fns B n) B b_is_number [some a0,some a1,some a2] h):=rfl
abbrev i_check_of:Nat:=3
theorem c_check_of (B n:Nat) (a0:D) (h:AH):callN fns B (n+1) 3 [a0] h=fin (denS (callN fns B n) B b_check_of [some a0,none,none] h):=rfl
abbrev i_figures:Nat:=4
theorem c_figures (B n:Nat) (a0:D) (h:AH):callN fns B (n+1) 4 [a0] h=fin (denS (callN fns B n) B b_figures [some a0] h):=rfl
abbrev i_is_figures:Nat:=5
theorem c_is_figures (B n:Nat) (a0:D) (h:AH):callN fns B (n+1) 5 [a0] h=fin (denS (callN fns B n) B b_is_figures [some a0] h):=rfl
abbrev i_number_of:Nat:=6
theorem c_number_of (B n:Nat) (a0:D) (h:AH):callN fns B (n+1) 6 [a0] h=fin (denS (callN fns B n) B b_number_of [some a0,none] h):=rfl
abbrev i_is_life:Nat:=7
theorem c_is_life (B n:Nat) (a0:D) (h:AH):callN fns B (n+1) 7 [a0] h=fin (denS (callN fns B n) B b_is_life [some a0] h):=rfl
abbrev i_is_place:Nat:=8
theorem c_is_place (B n:Nat) (a0:D) (h:AH):callN fns B (n+1) 8 [a0] h=fin (denS (callN fns B n) B b_is_place [some a0] h):=rfl
abbrev i_names_stream:Nat:=9
theorem c_names_stream (B n:Nat) (a0:D) (h:AH):callN fns B (n+1) 9 [a0] h=fin (denS (callN fns B n) B b_names_stream [some a0] h):=rfl
abbrev i_is_hello:Nat:=10
theorem c_is_hello (B n:Nat) (a0:D) (h:AH):callN fns B (n+1) 10 [a0] h=fin (denS (callN fns B n) B b_is_hello [some a0] h):=rfl
abbrev i_is_data:Nat:=11
theorem c_is_data (B n:Nat) (a0:D) (h:AH):callN fns B (n+1) 11 [a0] h=fin (denS (callN fns B n) B b_is_data [some a0,none,none] h):=rfl
abbrev i_is_end:Nat:=12
theorem c_is_end (B n:Nat) (a0:D) (h:AH):callN fns B (n+1) 12 [a0] h=fin (denS (callN fns B n) B b_is_end [some a0] h):=rfl
abbrev i_is_span_above:Nat:=13
theorem c_is_span_above (B n:Nat) (a0 a1:D) (h:AH):callN fns B (n+1) 13 [a0,a1] h=fin (denS (callN fns B n) B b_is_span_above [some a0,some a1] h):=rfl
abbrev i_are_spans_above:Nat:=14
theorem c_are_spans_above (B n:Nat) (a0 a1:D) (h:AH):callN fns B (n+1) 14 [a0,a1] h=fin (denS (callN fns B n) B b_are_spans_above [some a0,some a1,none] h):=rfl
abbrev i_is_answer:Nat:=15
theorem c_is_answer (B n:Nat) (a0:D) (h:AH):callN fns B (n+1) 15 [a0] h=fin (denS (callN fns B n) B b_is_answer [some a0] h):=rfl
abbrev i_is_piece:Nat:=16
theorem c_is_piece (B n:Nat) (a0:D) (h:AH):callN fns B (n+1) 16 [a0] h=fin (denS (callN fns B n) B b_is_piece [some a0,none] h):=rfl
abbrev i_number_words:Nat:=17
theorem c_number_words (B n:Nat) (a0:D) (h:AH):callN fns B (n+1) 17 [a0] h=fin (denS (callN fns B n) B b_number_words [some a0] h):=rfl
abbrev i_signs_word:Nat:=18
theorem c_signs_word (B n:Nat) (a0:D) (h:AH):callN fns B (n+1) 18 [a0] h=fin (denS (callN fns B n) B b_signs_word [some a0,none] h):=rfl
abbrev i_spans_word:Nat:=19
theorem c_spans_word (B n:Nat) (a0:D) (h:AH):callN fns B (n+1) 19 [a0] h=fin (denS (callN fns B n) B b_spans_word [some a0] h):=rfl
abbrev i_body_of:Nat:=20
theorem c_body_of (B n:Nat) (a0:D) (h:AH):callN fns B (n+1) 20 [a0] h=fin (denS (callN fns B n) B b_body_of [some a0,none,none] h):=rfl
abbrev i_written:Nat:=21
theorem c_written (B n:Nat) (a0:D) (h:AH):callN fns B (n+1) 21 [a0] h=fin (denS (callN fns B n) B b_written [some a0,none,none] h):=rfl
abbrev i_numbers_of:Nat:=22
theorem c_numbers_of (B n:Nat) (a0:D) (h:AH):callN fns B (n+1) 22 [a0] h=fin (denS (callN fns B n) B b_numbers_of [some a0] h):=rfl
abbrev i_spans_of:Nat:=23
theorem c_spans_of (B n:Nat) (a0:D) (h:AH):callN fns B (n+1) 23 [a0] h=fin (denS (callN fns B n) B b_spans_of [some a0] h):=rfl
abbrev i_parts_of:Nat:=24
theorem c_parts_of (B n:Nat) (a0:D) (h:AH):callN fns B (n+1) 24 [a0] h=fin (denS (callN fns B n) B b_parts_of [some a0,none,none] h):=rfl
abbrev i_read:Nat:=25
theorem c_read (B n:Nat) (a0:D) (h:AH):callN fns B (n+1) 25 [a0] h=fin (denS (callN fns B n) B b_read [some a0,none] h):=rfl
abbrev i_law_mixed:Nat:=26
theorem c_law_mixed (B n:Nat) (a0:D) (h:AH):callN fns B (n+1) 26 [a0] h=fin (denS (callN fns B n) B b_law_mixed [some a0,none,none,none] h):=rfl
abbrev i_law_cell_at:Nat:=27
theorem c_law_cell_at (B n:Nat) (a0 a1:D) (h:AH):callN fns B (n+1) 27 [a0,a1] h=fin (denS (callN fns B n) B b_law_cell_at [some a0,some a1] h):=rfl
abbrev i_law_whole:Nat:=28
theorem c_law_whole (B n:Nat) (a0:D) (h:AH):callN fns B (n+1) 28 [a0] h=fin (denS (callN fns B n) B b_law_whole [some a0] h):=rfl
abbrev i_law_all:Nat:=29
abbrev i_law_signs_by:Nat:=30
theorem c_law_signs_by (B n:Nat) (a0 a1:D) (h:AH):callN fns B (n+1) 30 [a0,a1] h=fin (denS (callN fns B n) B b_law_signs_by [some a0,some a1,none,none,none] h):=rfl
abbrev i_law_check:Nat:=31
theorem c_law_check (B n:Nat) (a0:D) (h:AH):callN fns B (n+1) 31 [a0] h=fin (denS (callN fns B n) B b_law_check [some a0,none,none] h):=rfl
abbrev i_law_number_by:Nat:=32
theorem c_law_number_by (B n:Nat) (a0 a1:D) (h:AH):callN fns B (n+1) 32 [a0,a1] h=fin (denS (callN fns B n) B b_law_number_by [some a0,some a1,none] h):=rfl
abbrev i_law_spans_by:Nat:=33
theorem c_law_spans_by (B n:Nat) (a0 a1:D) (h:AH):callN fns B (n+1) 33 [a0,a1] h=fin (denS (callN fns B n) B b_law_spans_by [some a0,some a1,none,none,none] h):=rfl
abbrev i_law_piece_by:Nat:=34
theorem c_law_piece_by (B n:Nat) (a0 a1:D) (h:AH):callN fns B (n+1) 34 [a0,a1] h=fin (denS (callN fns B n) B b_law_piece_by [some a0,some a1,none,none,none,none,none,none,none,none] h):=rfl
abbrev i_law_four:Nat:=35
theorem c_law_four (B n:Nat) (a0:D) (h:AH):callN fns B (n+1) 35 [a0] h=fin (denS (callN fns B n) B b_law_four [some a0] h):=rfl
abbrev i_law_line:Nat:=36
theorem c_law_line (B n:Nat) (a0:D) (h:AH):callN fns B (n+1) 36 [a0] h=fin (denS (callN fns B n) B b_law_line [some a0,none,none,none] h):=rfl
abbrev i_law_in:Nat:=37
theorem c_law_in (B n:Nat) (a0 a1 a2:D) (h:AH):callN fns B (n+1) 37 [a0,a1,a2] h=fin (denS (callN fns B n) B b_law_in [some a0,some a1,some a2] h):=rfl
abbrev i_law_fine:Nat:=38
theorem c_law_fine (B n:Nat) (a0 a1:D) (h:AH):callN fns B (n+1) 38 [a0,a1] h=fin (denS (callN fns B n) B b_law_fine [some a0,some a1,none] h):=rfl
abbrev i_law_good_signs:Nat:=39
theorem c_law_good_signs (B n:Nat) (a0:D) (h:AH):callN fns B (n+1) 39 [a0] h=fin (denS (callN fns B n) B b_law_good_signs [some a0,none] h):=rfl
abbrev i_law_is_piece:Nat:=40
theorem c_law_is_piece (B n:Nat) (a0:D) (h:AH):callN fns B (n+1) 40 [a0] h=fin (denS (callN fns B n) B b_law_is_piece [some a0,none] h):=rfl
abbrev i_law_same:Nat:=41
theorem c_law_same (B n:Nat) (a0 a1:D) (h:AH):callN fns B (n+1) 41 [a0,a1] h=fin (denS (callN fns B n) B b_law_same [some a0,some a1,none] h):=rfl
abbrev i_law_number_of:Nat:=42
theorem c_law_number_of (B n:Nat) (a0:D) (h:AH):callN fns B (n+1) 42 [a0] h=fin (denS (callN fns B n) B b_law_number_of [some a0,none] h):=rfl
abbrev i_law_spans_of:Nat:=43
theorem c_law_spans_of (B n:Nat) (a0:D) (h:AH):callN fns B (n+1) 43 [a0] h=fin (denS (callN fns B n) B b_law_spans_of [some a0,none,none,none] h):=rfl
abbrev i_law_told:Nat:=44
theorem c_law_told (B n:Nat) (a0:D) (h:AH):callN fns B (n+1) 44 [a0] h=fin (denS (callN fns B n) B b_law_told [some a0,none,none,none,none,none] h):=rfl
abbrev i_law_mended:Nat:=45
theorem c_law_mended (B n:Nat) (a0 a1:D) (h:AH):callN fns B (n+1) 45 [a0,a1] h=fin (denS (callN fns B n) B b_law_mended [some a0,some a1,none,none] h):=rfl
abbrev i_law_odd:Nat:=46
theorem c_law_odd (B n:Nat) (a0:D) (h:AH):callN fns B (n+1) 46 [a0] h=fin (denS (callN fns B n) B b_law_odd [some a0,none] h):=rfl
abbrev i_law_refused:Nat:=47
theorem c_law_refused (B n:Nat) (a0:D) (h:AH):callN fns B (n+1) 47 [a0] h=fin (denS (callN fns B n) B b_law_refused [some a0] h):=rfl
abbrev i_law:Nat:=48
theorem c_law (B n:Nat) (a0:D) (h:AH):callN fns B (n+1) 48 [a0] h=fin (denS (callN fns B n) B b_law [some a0,none,none,none,none,none,none,none,none] h):=rfl
local macro_rules | `(tactic| simp! only [$ts,*] $[$l]?)=>`(tactic| simp only [Int.reduceLT,Int.reduceLE,Int.reduceNeg,Int.reduceAdd,Int.reduceSub,Int.reduceEq,Int.reduceBEq,Nat.reduceLeDiff,Nat.reduceLT,Nat.reduceBEq,and_self,and_true,true_and,fin_bad,fin_nx,fin_rt,fin_exc,denS,den,denT,denL,denI,denP,intD_int,andThen_bad,andThen_nx,andThen_rt,andThen_bk,andThen_ct,andThen_exc,ofR_ok,ofR_exc,ofR_bad,turn_nx,turn_ct,turn_bk,turn_rt,turn_exc,scalm_nx,scalm_rt,catch_nx,catch_rt,catch_exc,rtO_rt,denH,calm_ok,calm_eq,M.ret_eq,M.bind_eq,M.bad_eq,R.bind_ok,R.bind_exc,R.bind_bad,when_eq,newL,allocO,makeD,mclsD_ref,setFD_ref,setIxD_ref,setIxD_str,getN,putN,tbN,Option.isNone_none,Option.isNone_some,mapIt_row,mapIt_live,tgSet,forIt,turnOf_nm,turnOf_two,b2i,List.getElem?_cons_zero,List.getElem?_cons_succ,List.length_cons,List.length_nil,List.map_cons,List.map_nil,List.cons_append,List.nil_append,List.set_cons_zero,List.set_cons_succ,if_true,reduceIte,Nat.zero_add,Nat.reduceAdd,Bool.false_eq_true,if_false,Bool.not_true,Bool.not_false,Bool.or_true,Bool.or_false,Bool.true_or,Bool.false_or,decide_true,decide_false,reduceCtorEq,beq_self_eq_true,u_neg1,u_len1,u_len2,u_len3,u_str1,u_int1,u_int2,u_int3,u_ord1,u_tuple1,u_tuple2,u_list1,u_list2,u_all1,u_any1,u_upper1,u_sum1,u_rev1,u_clear1,u_isx1,u_fld1,u_isN1,u_notN1,u_isB1,u_isB2,u_isB3,u_isB4,u_nsB1,u_nsB2,u_nsB3,u_nsB4,u_isi1,o_add1,o_add2,o_add3,o_add4,o_sub1,o_mul1,o_split1,o_part1,o_rpart1,o_get1,o_pop1,o_starts1,o_index1,o_fdiv1,o_mod1,o_pow1,o_eq1,o_ne1,o_lt1,o_le1,o_gt1,o_ge1,o_isin1,o_isin2,o_isin3,o_isin4,o_notin1,o_notin2,o_ix1,o_ix2,o_ix3,o_ix4,o_min21,o_max21,o_find1,o_zfill1,o_join1,o_append1,o_remove1,t_non,t_bl,t_int,t_str,t_tup,t_ref,it_str,it_tup,it_ref,s_str_a,s_tup_a,s_ref_a,me_append,me_remove,me_zfill,me_join,me_find,me_get,me_pop,me_starts,me_index,me_split,me_part,me_rpart,splm_str,setdD_ref,isi_non,isi_bl,isi_int,isi_str,isi_tup,isi_ref,e_non_non,e_bl_bl,e_bl_int,e_int_bl,e_int_int,e_str_str,e_tup_tup,$ts,*] $[$l]?)
set_option maxRecDepth 10000
theorem m_cell_at (B n:Nat) (h:AH) (i:Nat) (xs:List D) (k:Nat) (hx:getL h i=some xs):callN fns B (n+1) i_law_cell_at [.ref i,.int k] h=.ok (xs.getD k (.int ((k+1) * 7919))) h:=by
 rw [c_law_cell_at]
 simp! only [b_law_cell_at,hx]
 by_cases hk:k < xs.length
 ·have e:decide ((k:Int) < (xs.length:Int))=true:=by simpa using hk
  have e2:xs[k]?=some xs[k]:=by simp [hk]
  simp! only [e,Option.bind_some,ixN,if_pos (show (0:Int)≤k by omega),if_pos (show (k:Int) < xs.length by omega),Int.toNat_natCast,e2,List.getD_eq_getElem?_getD,Option.getD_some]
 ·have e:decide ((k:Int) < (xs.length:Int))=false:=by simpa using hk
  have e2:xs[k]?=none:=by simp; omega
  simp! only [e,b_law_cell_at_1,if_pos (mulOk_r (i:=(k:Int)+1) (j:=7919) (by omega)),List.getD_eq_getElem?_getD,e2,Option.getD_none]
noncomputable def mixL (m:Int):List Int→List Int
 | []=>[]
 | c::r=>((m * 6364136223846793005+c+1442695040888963407) % 1000000000000000003)::mixL ((m * 6364136223846793005+c+1442695040888963407) % 1000000000000000003) r
theorem mixL_len (m:Int) (ns:List Int):(mixL m ns).length=ns.length:=by
 induction ns generalizing m with
 | nil=>rfl
 | cons c r ih=>simp [mixL,ih]
theorem mixL_nn (m:Int) (ns:List Int):∀ c ∈ mixL m ns,0≤c:=by
 induction ns generalizing m with
 | nil=>intro c hc; cases hc
 | cons c r ih =>
  intro d hd
  rcases List.mem_cons.mp hd with rfl | hd
  ·exact Int.emod_nonneg _ (by omega)
  ·exact ih _ d hd
noncomputable def mixV (m:Int):List Int→Int
 | []=>m
 | c::r=>mixV ((m * 6364136223846793005+c+1442695040888963407) % 1000000000000000003) r
theorem mixV_snoc (m c:Int) (ns:List Int):mixV m (ns++[c])=(mixV m ns * 6364136223846793005+c+1442695040888963407) % 1000000000000000003:=by
 induction ns generalizing m with
 | nil=>rfl
 | cons d r ih=>exact ih _
theorem mixL_snoc (m c:Int) (ns:List Int):mixL m (ns++[c])=mixL m ns++[(mixV m ns * 6364136223846793005+c+1442695040888963407) % 1000000000000000003]:=by
 induction ns generalizing m with
 | nil=>rfl
 | cons d r ih=>simp only [List.cons_append,mixL,mixV,ih]
theorem m_mixed (B n : Nat) (ns : List Int) (i : Nat) (h : AH) (hz : ns.length ≤ 1000) (hx : getL h i = some (ns.map .int)) :
    callN fns B (n + 1) i_law_mixed [.ref i] h = .ok (.ref h.length) (h ++ [.lst ((mixL 1 ns).map .int)]) := by
  rw [c_law_mixed]
  simp! only [b_law_mixed, if_pos (show 0 ≤ 16777216 by omega), getL_app _ hx]
  obtain ⟨σ', h', e, l, e1, e2⟩ := forIt_live (fun k σ g => ∃ l, σ = [some (.ref i), some (.ref h.length), some (.int (mixV 1 (ns.take k))), l] ∧ g = h ++ [.lst ((mixL 1 (ns.take k)).map .int)])
    (turnOf (TG.nm 3) (denS (callN fns B n) B b_law_mixed_1)) i (ns.map .int) [some (.ref i), some (.ref h.length), some (.int 1), none] (h ++ [.lst []]) ⟨none, rfl, rfl⟩
    (fun k σ g ⟨l, _, e⟩ => by rw [e]; exact getL_app _ hx) (fun j x σ g hj ⟨l, e1, e2⟩ => by
      rw [List.getElem?_map] at hj
      have hjl : j < ns.length := by
        cases q : ns[j]? with
        | none => rw [q] at hj; cases hj
        | some c => exact (List.getElem?_eq_some_iff.mp q).1
      have q : ns[j]? = some ns[j] := by simp [hjl]
      rw [q] at hj
      cases hj
      subst e1
      subst e2
      have tk : ns.take (j + 1) = ns.take j ++ [ns[j]] := by simp
      have hl : (mixL 1 (List.take j ns)).length = j := by rw [mixL_len, List.length_take]; omega
      refine ⟨_, _, ?_, some (.int ns[j]), rfl, rfl⟩
      simp! only [b_law_mixed_1, if_pos (mulOk_r (i := mixV 1 (List.take j ns)) (j := 6364136223846793005) (by omega)), show (0 : Int) < 1000000000000000003 by omega]
      have g1 : (h ++ [O.lst ((mixL 1 (List.take j ns)).map D.int)])[h.length]? = some (.lst ((mixL 1 (List.take j ns)).map .int)) := by simp
      have g2 : ∀ o, (h ++ [O.lst ((mixL 1 (List.take j ns)).map D.int)]).set h.length o = h ++ [o] := by intro o; simp
      rw [getL_new]
      simp! only [and_self]
      rw [g1]
      simp! only [List.length_map, hl, if_pos (show j < 16777216 by omega), g2]
      rw [tk, mixV_snoc, mixL_snoc, List.map_append, List.map_cons, List.map_nil])
  rw [e]
  subst e1
  subst e2
  simp! only [b_law_mixed_2]
  rw [List.length_map, List.take_length]
noncomputable def CELL (ns:List Int) (k:Nat):Int:=(mixL 1 ns).getD k ((k+1) * 7919)
theorem cell_nn (ns:List Int) (k:Nat):0≤CELL ns k:=by
 unfold CELL
 rw [List.getD_eq_getElem?_getD]
 cases q:(mixL 1 ns)[k]? with
 | none=>simp only [Option.getD_none]; omega
 | some c=>exact mixL_nn 1 ns c (List.mem_of_getElem? q)
theorem m_cell (B n:Nat) (ns:List Int) (h:AH) (i k:Nat) (hx:getL h i=some ((mixL 1 ns).map .int)):callN fns B (n+1) i_law_cell_at [.ref i,.int k] h=.ok (.int (CELL ns k)) h:=by
 rw [m_cell_at B n h i _ k hx]
 unfold CELL
 rw [List.getD_eq_getElem?_getD,List.getD_eq_getElem?_getD,List.getElem?_map]
 cases (mixL 1 ns)[k]? <;> rfl
noncomputable def ALL:Tx:=[32,33,34,35,36,38,39,40,41,42,43,44,45,46,47,48,49,50,51,52,53,54,55,56,57,58,59,60,61,62,63,64,65,66,67,68,69,70,71,72,73,74,75,76,77,78,79,80,81,82,83,84,85,86,87,88,89,90,91,92,93,94,95,96,97,98,99,100,101,102,103,104,105,106,107,108,109,110,111,112,113,114,115,116,117,118,119,120,121,122,123,124,125,126]
theorem ALL_len:ALL.length=94:=rfl
theorem ALL_bd:∀ c ∈ ALL,32≤c∧c≤126∧c ≠ 37:=by decide
theorem m_all (B n:Nat) (h:AH):callN fns B (n+1) i_law_all [] h=.ok (.str ALL) h:=rfl
noncomputable def sgn (cell:Int) (k:Nat):Nat:=ALL.getD ((cell / 95+k * (1+cell % 95)) % 94).toNat 0
noncomputable def signsBy (cell:Int) (n:Nat):Tx:=(List.range n).map (sgn cell)
theorem ixN_mod (i:Int):ixN 94 (i % 94)=some (i % 94).toNat:=by
 have h1:=Int.emod_nonneg i (show (94:Int) ≠ 0 by omega)
 have h2:=Int.emod_lt_of_pos i (show (0:Int) < 94 by omega)
 unfold ixN
 rw [if_pos h1,if_pos (by omega)]
theorem ALL_at (i:Int):ALL[(i % 94).toNat]?=some (ALL.getD (i % 94).toNat 0):=by
 have h1:=Int.emod_nonneg i (show (94:Int) ≠ 0 by omega)
 have h2:=Int.emod_lt_of_pos i (show (0:Int) < 94 by omega)
 rw [List.getD_eq_getElem?_getD,List.getElem?_eq_getElem (by rw [ALL_len]; omega),Option.getD_some]
theorem m_signs_by (B n:Nat) (cell:Int) (m:Nat) (h:AH) (hm:m≤1000):callN fns B (n+2) i_law_signs_by [.int cell,.int m] h=.ok (.str (signsBy cell m)) h:=by
 rw [c_law_signs_by]
 have hs:small62 (m:Int):=by unfold small62; omega
 simp! only [b_law_signs_by,m_all,if_pos hs,Int.toNat_natCast]
 obtain ⟨σ',h',e,i1,l,i2⟩:=forRow_ex (fun k σ g=>g=h∧∃ l,σ=[some (.int cell),some (.int m),some (.str ALL),some (.str (signsBy cell k)),l])
  (turnOf (TG.nm 4) (denS (callN fns B (n+1)) B b_law_signs_by_1)) (rangeD 0 m) 0 [some (.int cell),some (.int m),some (.str ALL),some (.str []),none] h ⟨rfl,none,rfl⟩
  (fun j x σ g hj ⟨e1,l,e2⟩=>by
   obtain ⟨hjl,rfl⟩:=range_get hj
   subst e1
   subst e2
   rw [Nat.zero_add]
   refine ⟨_,_,?_,rfl,some (.int (0+j)),rfl⟩
   have hb:mulOk (0+(j:Int)) (1+cell % 95):=mulOk_l (by omega)
   have hl:(signsBy cell j).length=j:=by unfold signsBy; simp
   simp! only [b_law_signs_by_1,if_pos hb,show (0:Int) < 95 by omega,show (95:Int) < 1073741824 by omega,and_self,show (0:Int) < 94 by omega,ALL_len,show 94≤16777216 by omega,ixN_mod,Option.bind_some,ALL_at,hl,show j≤16777215 by omega]
   congr 4
   unfold signsBy sgn
   rw [List.range_succ,List.map_append,List.map_cons,List.map_nil]
   simp)
 rw [e]
 subst i1
 subst i2
 simp! only [b_law_signs_by_2,range_len]
theorem sgn_mem (cell:Int) (k:Nat):sgn cell k ∈ ALL:=List.mem_of_getElem? (ALL_at _)
theorem cut_to (x:Tx) (k:Nat):cutX x none (some (k:Int))=x.take k:=by
 unfold cutX cutN
 simp only [if_neg (show ¬ (k:Int) < 0 by omega),Int.toNat_natCast,List.drop_zero,Nat.sub_zero]
 rw [Nat.min_comm,← List.take_take]
 exact List.take_of_length_le (by rw [List.length_take]; omega)
theorem cutD_to {α:Type} (x:List α) (k:Nat):cutX x none (some (k:Int))=x.take k:=by
 unfold cutX cutN
 simp only [if_neg (show ¬ (k:Int) < 0 by omega),Int.toNat_natCast,List.drop_zero,Nat.sub_zero]
 rw [Nat.min_comm,← List.take_take]
 exact List.take_of_length_le (by rw [List.length_take]; omega)
theorem cutD_from {α:Type} (x:List α) (k:Nat):cutX x (some (k:Int)) none=x.drop k:=by
 unfold cutX cutN
 simp only [if_neg (show ¬ (k:Int) < 0 by omega),Int.toNat_natCast]
 by_cases hk:k≤x.length
 ·rw [Nat.min_eq_left hk]
  exact List.take_of_length_le (by simp)
 ·rw [Nat.min_eq_right (by omega),List.drop_length,List.drop_eq_nil_of_le (by omega),List.take_nil]
theorem getL_add (h l:AH) (k:Nat):getL (h++l) (h.length+k)=getL l k:=by
 unfold getL
 rw [List.getElem?_append_right (by omega),Nat.add_sub_cancel_left]
theorem getL_len (h l:AH):getL (h++l) h.length=getL l 0:=getL_add h l 0
theorem get_add (h l:AH) (k:Nat):(h++l)[h.length+k]?=l[k]?:=by
 rw [List.getElem?_append_right (by omega),Nat.add_sub_cancel_left]
theorem get_len (h l:AH):(h++l)[h.length]?=l[0]?:=get_add h l 0
theorem set_add (h l:AH) (k:Nat) (o:O):(h++l).set (h.length+k) o=h++l.set k o:=by
 rw [List.set_append_right _ _ (by omega),Nat.add_sub_cancel_left]
theorem set_len (h l:AH) (o:O):(h++l).set h.length o=h++l.set 0 o:=set_add h l 0 o
noncomputable def okC (c:Nat):Bool:=decide (32≤c) && decide (c≤126) && !decide (c=37)
theorem m_is_sign (B n:Nat) (c:Nat) (h:AH):callN fns B (n+1) i_is_sign [.str [c]] h=.ok (.bl (okC c)) h:=by
 rw [c_is_sign]
 have e1:decide ((32:Int)≤(c:Int))=decide (32≤c):=int_le_nat 32 c
 have e2:decide ((c:Int)≤(126:Int))=decide (c≤126):=int_le_nat c 126
 have e3:((c:Int) == 37)=decide (c=37):=int_eq_nat c 37
 simp! only [b_is_sign,e1]
 unfold okC
 by_cases h1:32≤c
 ·by_cases h2:c≤126
  ·simp! only [e2,e3,h1,h2,Bool.true_and]
  ·simp! only [e2,h1,h2,Bool.and_false,Bool.false_and]
 ·simp! only [h1,Bool.false_and]
theorem m_is_signs (B n:Nat) (x:Tx) (h:AH) (hz:x.length≤1000):callN fns B (n+2) i_is_signs [.str x] h=.ok (.bl (x.all okC)) (h++[.lst (x.map fun c=>.bl (okC c))]):=by
 rw [c_is_signs]
 have e:mapRow (compF (den (callN fns B (n+1)) b_is_signs_1) [some (D.str x)]) (x.map fun c=>D.str [c]) h=.ok (x.map fun c=>.bl (okC c)) h:=by
  rw [mapRow_pure _ (fun d=>match d with | .str [c]=>.bl (okC c) | _=>.non)]
  ·rw [List.map_map]
   rfl
  ·intro y hy
   obtain ⟨c,_,rfl⟩:=List.mem_map.mp hy
   simp! only [compF_eq,b_is_signs_1,m_is_sign]
 have hz':x.length≤16777216:=by omega
 have hz2:x.length < 16777216:=by omega
 simp! only [b_is_signs,e,List.length_map,hz',hz2,getL_new,Option.bind_some,allB_map]
theorem m_is_signs_no (B n:Nat) (d:D) (h:AH) (hd:isiD h .str d=some false):callN fns B (n+1) i_is_signs [d] h=.ok (.bl false) h:=by
 rw [c_is_signs]
 simp! only [b_is_signs,hd]
noncomputable def chk (v:Int) (x:Tx):Int:=x.foldl (fun (v:Int) (c:Nat)=>(v * 31+(c:Int) - 32) % 9973) v
theorem m_check_of (B n:Nat) (x:Tx) (h:AH):callN fns B (n+1) i_check_of [.str x] h=.ok (.int (chk 7 x)) h:=by
 have step:∀ (c:Nat) (v:Int) (l:Option D),turnOf (TG.nm 2) (denS (callN fns B n) B b_check_of_1) (.str [c]) [some (.str x),some (.int v),l] h=.nx [some (.str x),some (.int ((v * 31+(c:Int) - 32) % 9973)),some (.str [c])] h:=by
  intro c v l
  simp! only [b_check_of_1,if_pos (mulOk_r (i:=v) (j:=31) (by omega)),show (0:Int) < 9973 by omega]
 have L:∀ (z:Tx) (v:Int) (l:Option D),∃ l',forRow (turnOf (TG.nm 2) (denS (callN fns B n) B b_check_of_1)) (z.map fun c=>D.str [c]) [some (.str x),some (.int v),l] h=.nx [some (.str x),some (.int (chk v z)),l'] h:=by
  intro z
  induction z with
  | nil=>intro v l; exact ⟨l,rfl⟩
  | cons c z ih =>
   intro v l
   rw [List.map_cons,forRow,step,turn_nx]
   exact ih _ _
 rw [c_check_of]
 simp! only [b_check_of]
 obtain ⟨l',L⟩:=L x 7 none
 rw [L]
 simp! only [b_check_of_2]
theorem m_law_check (B n:Nat) (x:Tx) (h:AH):callN fns B (n+1) i_law_check [.str x] h=.ok (.int (chk 7 x)) h:=by
 have step:∀ (c:Nat) (v:Int) (l:Option D),turnOf (TG.nm 2) (denS (callN fns B n) B b_law_check_1) (.str [c]) [some (.str x),some (.int v),l] h=.nx [some (.str x),some (.int ((v * 31+(c:Int) - 32) % 9973)),some (.str [c])] h:=by
  intro c v l
  simp! only [b_law_check_1,if_pos (mulOk_l (i:=31) (j:=v) (by omega)),show (0:Int) < 9973 by omega,Int.mul_comm 31 v]
 have L:∀ (z:Tx) (v:Int) (l:Option D),∃ l',forRow (turnOf (TG.nm 2) (denS (callN fns B n) B b_law_check_1)) (z.map fun c=>D.str [c]) [some (.str x),some (.int v),l] h=.nx [some (.str x),some (.int (chk v z)),l'] h:=by
  intro z
  induction z with
  | nil=>intro v l; exact ⟨l,rfl⟩
  | cons c z ih =>
   intro v l
   rw [List.map_cons,forRow,step,turn_nx]
   exact ih _ _
 rw [c_law_check]
 simp! only [b_law_check]
 obtain ⟨l',L⟩:=L x 7 none
 rw [L]
 simp! only [b_law_check_2]
noncomputable def txN (m:Nat):Tx:=(Nat.toDigits 10 m).map Char.toNat
theorem txI_nat (m:Nat):txI (m:Int)=txN m:=by
 unfold txI txN
 have e:(toString (m:Int):String)=String.ofList (Nat.toDigits 10 m):=rfl
 rw [e,String.toList_ofList]
theorem dch:∀ d:Nat,d < 10→(Nat.digitChar d).toNat=48+d:=by decide
theorem txN_lt {m:Nat} (h:m < 10):txN m=[48+m]:=by
 unfold txN
 rw [Nat.toDigits_of_lt_base h,List.map_cons,List.map_nil,dch m h]
theorem txN_ge {m:Nat} (h:10≤m):txN m=txN (m / 10)++[48+m % 10]:=by
 unfold txN
 rw [Nat.toDigits_of_base_le (by omega) h,List.map_append,List.map_cons,List.map_nil,dch _ (Nat.mod_lt _ (by omega))]
theorem txN_dig (m:Nat):isDig (txN m)=true:=by
 induction m using Nat.strongRecOn with
 | _ m ih =>
  by_cases h:m < 10
  ·rw [txN_lt h]; unfold isDig; simp; omega
  ·rw [txN_ge (by omega)]
   unfold isDig
   rw [List.all_append]
   have:=ih (m / 10) (by omega)
   unfold isDig at this
   rw [this]
   have:=Nat.mod_lt m (show 10 > 0 by omega)
   simp
   omega
theorem digV_snoc (x:Tx) (c:Nat):digV (x++[c])=digV x * 10+(c - 48):=by
 unfold digV
 rw [List.foldl_append]
 rfl
theorem txN_val (m:Nat):digV (txN m)=m:=by
 induction m using Nat.strongRecOn with
 | _ m ih =>
  by_cases h:m < 10
  ·rw [txN_lt h]; unfold digV; simp
  ·rw [txN_ge (by omega),digV_snoc,ih (m / 10) (by omega)]
   omega
theorem txN_ne (m:Nat):txN m ≠ []:=by
 by_cases h:m < 10
 ·rw [txN_lt h]; simp
 ·rw [txN_ge (by omega)]; simp
theorem txN_head {m:Nat} (h:0 < m):(txN m)[0]? ≠ some 48:=by
 induction m using Nat.strongRecOn with
 | _ m ih =>
  by_cases h1:m < 10
  ·rw [txN_lt h1]; simp; omega
  ·rw [txN_ge (by omega)]
   have:=ih (m / 10) (by omega) (by omega)
   rw [List.getElem?_append_left (List.length_pos_iff.mpr (txN_ne _))]
   exact this
theorem txN_len {m:Nat}:∀ k:Nat,m < 10 ^ (k+1)→(txN m).length≤k+1:=by
 intro k
 induction k generalizing m with
 | zero=>intro h; rw [txN_lt (by simpa using h)]; simp
 | succ k ih =>
  intro h
  by_cases h1:m < 10
  ·rw [txN_lt h1]; simp
  ·rw [txN_ge (by omega),List.length_append]
   have:=ih (m:=m / 10) (by rw [Nat.pow_succ] at h; omega)
   simp only [List.length_cons,List.length_nil]
   omega
noncomputable def FIG:Tx:=[48,49,50,51,52,53,54,55,56,57]
noncomputable def dgC (c:Nat):Bool:=decide (48≤c∧c≤57)
theorem fig_has (c:Nat):FIG.contains c=dgC c:=by
 rw [Bool.eq_iff_iff,List.contains_iff_mem]
 unfold FIG dgC
 simp only [List.mem_cons,List.not_mem_nil,or_false,decide_eq_true_eq]
 omega
theorem log2_lt {i:Int} (h0:0≤i) (h:i < 10000000000000):i.natAbs.log2 < 1920:=by
 by_cases h1:i.natAbs=0
 ·rw [h1]; decide
 ·refine Nat.lt_of_lt_of_le ((Nat.log2_lt h1).mpr (show i.natAbs < 2 ^ 44 from ?_)) (by decide)
  have:(2:Nat) ^ 44=17592186044416:=by decide
  omega
theorem m_figures (B n:Nat) (i:Int) (h0:0≤i) (h1:i < 10000000000000) (h:AH):callN fns B (n+1) i_figures [.int i] h=.ok (.str (txI i)) h:=by
 rw [c_figures]
 simp! only [b_figures,if_pos (log2_lt h0 h1)]
noncomputable def figOk (x:Tx):Bool:=decide (1≤x.length∧x.length≤13) && !(decide (x[0]?=some 48) && decide (1 < x.length)) && x.all dgC
theorem m_is_figures (B n:Nat) (x:Tx) (h:AH) (hz:x.length≤1000):∃ g,callN fns B (n+1) i_is_figures [.str x] h=.ok (.bl (figOk x)) (h++g):=by
 rw [c_is_figures]
 have hz':x.length≤16777216:=by omega
 have hz2:x.length < 16777216:=by omega
 have e1:decide ((1:Int)≤(x.length:Int))=decide (1≤x.length):=int_le_nat 1 x.length
 have e2:decide ((x.length:Int)≤13)=decide (x.length≤13):=int_le_nat x.length 13
 have e3:decide ((1:Int) < (x.length:Int))=decide (1 < x.length):=int_lt_nat 1 x.length
 unfold figOk
 match x,hz,hz',hz2,e1,e2,e3 with
 | [],_,_,_,_,_,_=>exact ⟨[],by rw [List.append_nil]; rfl⟩
 | c::r,hz,hz',hz2,e1,e2,e3 =>
  have f1:decide (1≤(c::r).length)=true:=by simp
  have ix0:(ixN (c::r).length 0).bind ((c::r)[·]?)=some c:=by
   rw [show (0:Int)=((0:Nat):Int) from rfl,ixN_nat (by simp)]; rfl
  generalize hy:c::r=x at *
  have hx0:x[0]?=some c:=by rw [← hy]; rfl
  simp! only [b_is_figures,hz',e1,f1,e2]
  by_cases h13:x.length≤13
  ·have q1:decide (1≤x.length∧x.length≤13)=true:=decide_eq_true ⟨of_decide_eq_true f1,h13⟩
   rw [q1,hx0]
   simp! only [h13,b_is_figures_3,hz',ix0,e3,Bool.true_and,Option.some.injEq]
   have e:mapRow (compF (den (callN fns B n) b_is_figures_1) [some (D.str x)]) (x.map fun c=>D.str [c]) h=.ok (x.map fun c=>.bl (dgC c)) h:=by
    rw [mapRow_pure _ (fun d=>match d with | .str [c]=>.bl (dgC c) | _=>.non)]
    ·rw [List.map_map]
     rfl
    ·intro y hy
     obtain ⟨c,_,rfl⟩:=List.mem_map.mp hy
     have q:=fig_has c
     unfold FIG at q
     simp! only [compF_eq,b_is_figures_1,q]
   by_cases h48:c=48
   ·subst h48
    simp! only [BEq.rfl,Bool.true_and,hz',e3]
    by_cases hl:1 < x.length
    ·simp! only [hl,Bool.false_and]
     exact ⟨[],by rw [List.append_nil]⟩
    ·simp! only [hl,b_is_figures_2,Bool.true_and,List.length_map,hz',hz2,e,getL_new,Option.bind_some,allB_map]
     exact ⟨_,rfl⟩
   ·have q:(([c]:Tx) == [48])=false:=by simp [h48]
    simp! only [q,h48,Bool.false_and,b_is_figures_2,Bool.true_and,List.length_map,hz',hz2,e,getL_new,Option.bind_some,allB_map]
    exact ⟨_,rfl⟩
  ·have q1:decide (1≤x.length∧x.length≤13)=false:=decide_eq_false fun q=>h13 q.2
   rw [q1]
   simp! only [h13,Bool.false_and]
   exact ⟨[],by rw [List.append_nil]⟩
noncomputable def numOf (x:Tx):D:=if figOk x=true then (if digV x≤1000000000000 then .int (digV x) else .non) else .non
theorem all_dig {x:Tx}:x.all dgC=isDig x:=rfl
theorem m_number_of (B n:Nat) (x:Tx) (h:AH) (hz:x.length≤1000):∃ g,callN fns B (n+2) i_number_of [.str x] h=.ok (numOf x) (h++g):=by
 rw [c_number_of]
 obtain ⟨g,e⟩:=m_is_figures B n x h hz
 refine ⟨g,?_⟩
 unfold numOf
 cases q:figOk x with
 | false=>simp! only [b_number_of,e,q]
 | true =>
  have q':=q
  unfold figOk at q'
  simp only [Bool.and_eq_true,decide_eq_true_eq] at q'
  obtain ⟨⟨⟨l1,l2⟩,_⟩,l3⟩:=q'
  have hc:x ≠ []∧x.length≤640∧isDig x=true:=⟨List.length_pos_iff.mp l1,by omega,l3⟩
  have ed:decide ((digV x:Int)≤1000000000000)=decide (digV x≤1000000000000):=int_le_nat _ _
  simp! only [b_number_of,e,q,b_number_of_1,if_pos hc,ed]
  by_cases hd:digV x≤1000000000000 <;> simp! only [hd]
theorem num_fig (m : Nat) (h : m ≤ 1000000000000) : numOf (txN m) = .int m := by
  unfold numOf
  have hl : (txN m).length ≤ 13 := txN_len 12 (by have : (10 : Nat) ^ (12 + 1) = 10000000000000 := by decide
                                                  omega)
  have : figOk (txN m) = true := by
    unfold figOk
    rw [all_dig, txN_dig, decide_eq_true (show 1 ≤ (txN m).length ∧ (txN m).length ≤ 13 from ⟨List.length_pos_iff.mpr (txN_ne m), hl⟩)]
    by_cases h0 : 0 < m
    · rw [decide_eq_false (txN_head h0)]; rfl
    · have : m = 0 := by omega
      subst this
      rw [txN_lt (by omega)]
      rfl
  rw [this, if_pos rfl, txN_val, if_pos h]
mutual
noncomputable def good (n:AH):D→Bool
 | .ref i=>(getL n i).isSome
 | .str x=>decide (x.length≤1000)
 | .tup xs=>goodL n xs
 | _=>true
noncomputable def goodL (n:AH):List D→Bool
 | []=>true
 | x::r=>good n x && goodL n r
end
theorem goodL_get {n:AH}:∀ {xs:List D} {i:Nat} {d:D},goodL n xs=true→xs[i]?=some d→good n d=true
 | x::r,0,d,h,e=>by cases e; unfold goodL at h; exact (Bool.and_eq_true_iff.mp h).1
 | x::r,i+1,d,h,e=>by unfold goodL at h; exact goodL_get (Bool.and_eq_true_iff.mp h).2 (by simpa using e)
 | [],i,d,h,e=>by simp at e
noncomputable def leH (n m:AH):Prop:=∀ i,(getL n i).isSome=true→(getL m i).isSome=true
theorem le_nil (m:AH):leH [] m:=fun i h=>by cases h
mutual
theorem good_mono {n m:AH} (hm:leH n m):∀ d,good n d=true→good m d=true
 | .ref i,h=>by unfold good at h ⊢; exact hm i h
 | .str x,h=>by unfold good at h ⊢; exact h
 | .tup xs,h=>by unfold good at h ⊢; exact goodL_mono hm xs h
 | .non,_=>by unfold good; rfl
 | .bl _,_=>by unfold good; rfl
 | .int _,_=>by unfold good; rfl
theorem goodL_mono {n m:AH} (hm:leH n m):∀ ds,goodL n ds=true→goodL m ds=true
 | [],_=>by unfold goodL; rfl
 | x::r,h=>by
  unfold goodL at h ⊢
  rw [Bool.and_eq_true] at h ⊢
  exact ⟨good_mono hm x h.1,goodL_mono hm r h.2⟩
end
noncomputable def isTy (t:Ty):D→Bool
 | .non=>false
 | .bl _=>t == .bool || t == .int
 | .int _=>t == .int
 | .str _=>t == .str
 | .tup _=>t == .tuple
 | .ref _=>t == .list
theorem isi_good {h:AH} {d:D} (t:Ty) (g:good h d=true):isiD h t d=some (isTy t d):=by
 cases d with
 | ref i =>
  unfold good at g
  obtain ⟨xs,e⟩:=Option.isSome_iff_exists.mp g
  rw [isi_ref,e]
  rfl
 | _=>rfl
noncomputable def inR (d:D) (lo hi:Int):Bool:=match d with
 | .int i=>decide (lo≤i) && decide (i≤hi)
 | _=>false
theorem m_is_number (B n:Nat) (d:D) (lo hi:Int) (h:AH) (g:good h d=true):callN fns B (n+1) i_is_number [d,.int lo,.int hi] h=.ok (.bl (inR d lo hi)) h:=by
 rw [c_is_number]
 simp! only [b_is_number,isi_good _ g]
 cases d with
 | int i =>
  simp! only [isTy,b_is_number_1,show (Ty.int == Ty.bool)=false from rfl,show (Ty.bool == Ty.int)=false from rfl,show (Ty.int == Ty.int)=true from rfl,isi_good _ g,inR]
  cases decide (lo≤i) <;> simp! only [Bool.true_and,Bool.false_and]
 | bl b=>simp! only [isTy,show (Ty.bool == Ty.bool)=true from rfl,inR]
 | non=>simp! only [isTy,isi_good _ g,inR]
 | str x=>simp! only [isTy,isi_good _ g,inR,show (Ty.bool == Ty.str)=false from rfl,show (Ty.int == Ty.str)=false from rfl]
 | tup x=>simp! only [isTy,isi_good _ g,inR,show (Ty.bool == Ty.tuple)=false from rfl,show (Ty.int == Ty.tuple)=false from rfl]
 | ref x=>simp! only [isTy,isi_good _ g,inR,show (Ty.bool == Ty.list)=false from rfl,show (Ty.int == Ty.list)=false from rfl]
theorem m_is_life (B n:Nat) (d:D) (h:AH) (g:good h d=true):callN fns B (n+2) i_is_life [d] h=.ok (.bl (inR d 1 1000000000)) h:=by
 rw [c_is_life]
 simp! only [b_is_life,m_is_number B n d _ _ h g]
theorem m_is_place (B n:Nat) (d:D) (h:AH) (g:good h d=true):callN fns B (n+2) i_is_place [d] h=.ok (.bl (inR d 0 1000000)) h:=by
 rw [c_is_place]
 simp! only [b_is_place,m_is_number B n d _ _ h g]
theorem ixT {xs:List D} {k:Nat} {d:D} (h:xs[k]?=some d):(ixN xs.length (k:Int)).bind (xs[·]?)=some d:=by
 rw [ixN_nat (List.getElem?_eq_some_iff.mp h).1]
 exact h
noncomputable def nsOk (a b c:D):Bool:=inR a 1 1000000000 && (inR b 1 1000000000 && inR c 0 999)
theorem m_names_stream (B n : Nat) (xs : List D) (a b c : D) (h : AH) (g : goodL h xs = true) (h1 : xs[1]? = some a) (h2 : xs[2]? = some b) (h3 : xs[3]? = some c) :
    callN fns B (n + 3) i_names_stream [.tup xs] h = .ok (.bl (nsOk a b c)) h := by
  rw [c_names_stream]
  have i1 : (ixN xs.length 1).bind (xs[·]?) = some a := ixT (k := 1) h1
  have i2 : (ixN xs.length 2).bind (xs[·]?) = some b := ixT (k := 2) h2
  have i3 : (ixN xs.length 3).bind (xs[·]?) = some c := ixT (k := 3) h3
  have s1 := m_is_life B n a h (goodL_get g h1)
  have s2 := m_is_life B n b h (goodL_get g h2)
  have s3 := m_is_number B (n + 1) c 0 999 h (goodL_get g h3)
  unfold nsOk
  simp! only [b_names_stream, i1, s1]
  cases inR a 1 1000000000 with
  | false => simp! only [Bool.false_and]
  | true =>
    simp! only [i2, s2, Bool.true_and]
    cases inR b 1 1000000000 with
    | false => simp! only [Bool.false_and]
    | true => simp! only [i3, s3, Bool.true_and]
noncomputable def hiOk (a b:D):Bool:=inR a 1 1000000000 && inR b 0 1000000000
noncomputable def hiM:List D→Bool
 | [a,b]=>hiOk a b
 | _=>false
noncomputable def enM:List D→Bool
 | [a,b,c,d]=>nsOk a b c && inR d 0 1000000
 | _=>false
theorem m_is_hello (B n:Nat) (k:D) (r:List D) (h:AH) (g:goodL h (k::r)=true):callN fns B (n+3) i_is_hello [.tup (k::r)] h=.ok (.bl (hiM r)) h:=by
 rw [c_is_hello]
 have e:(((k::r).length:Int) == 3)=decide ((k::r).length=3):=int_eq_nat (k::r).length 3
 by_cases hl:(k::r).length=3
 ·match r,hl,g,e with
  | [a,b],_,g,_ =>
   have i1:(ixN 3 1).bind ([k,a,b][·]?)=some a:=rfl
   have i2:(ixN 3 2).bind ([k,a,b][·]?)=some b:=rfl
   have s1:=m_is_life B n a h (goodL_get (i:=1) g rfl)
   have s2:=m_is_number B (n+1) b 0 1000000000 h (goodL_get (i:=2) g rfl)
   have e6:(((3:Nat):Int) == 3)=true:=rfl
   unfold hiM hiOk
   simp! only [b_is_hello,e6,i1,s1]
   cases inR a 1 1000000000 with
   | false=>simp! only [Bool.false_and]
   | true=>simp! only [i2,s2,Bool.true_and]
 ·have hm:hiM r=false:=by
   unfold hiM
   split
   ·exact absurd rfl hl
   ·rfl
  rw [hm]
  simp! only [b_is_hello] at e ⊢
  rw [List.length_cons] at hl
  simp! only [e,hl]
theorem m_is_end (B n:Nat) (k:D) (r:List D) (h:AH) (g:goodL h (k::r)=true):callN fns B (n+4) i_is_end [.tup (k::r)] h=.ok (.bl (enM r)) h:=by
 rw [c_is_end]
 have e:(((k::r).length:Int) == 5)=decide ((k::r).length=5):=int_eq_nat (k::r).length 5
 by_cases hl:(k::r).length=5
 ·match r,hl,g,e with
  | [a,b,c,d],_,g,_ =>
   have i4:(ixN 5 4).bind ([k,a,b,c,d][·]?)=some d:=rfl
   have s1:=m_names_stream B n [k,a,b,c,d] a b c h g rfl rfl rfl
   have s2:=m_is_place B (n+1) d h (goodL_get (i:=4) g rfl)
   have e6:(((5:Nat):Int) == 5)=true:=rfl
   unfold enM
   simp! only [b_is_end,e6,s1]
   cases nsOk a b c with
   | false=>simp! only [Bool.false_and]
   | true=>simp! only [i4,s2,Bool.true_and]
 ·have hm:enM r=false:=by
   unfold enM
   split
   ·exact absurd rfl hl
   ·rfl
  rw [hm]
  simp! only [b_is_end] at e ⊢
  rw [List.length_cons] at hl
  simp! only [e,hl]
noncomputable def sgOk (d:D):Bool:=match d with
 | .str x=>x.all okC
 | _=>false
theorem m_is_signs_any (B n:Nat) (d:D) (h:AH) (g:good h d=true):∃ f,callN fns B (n+2) i_is_signs [d] h=.ok (.bl (sgOk d)) (h++f):=by
 cases d with
 | str x=>unfold good at g; exact ⟨_,m_is_signs B n x h (of_decide_eq_true g)⟩
 | _=>exact ⟨[],by rw [List.append_nil]; exact m_is_signs_no B (n+1) _ h (by rw [isi_good _ g]; rfl)⟩
noncomputable def daOk (d e:D):Bool:=match d,e with
 | .int i,.str x=>inR d 0 1000000 && (x.all okC && (decide (x.length≤40) && decide (i+x.length≤1000000)))
 | _,_=>false
noncomputable def daM:List D→Bool
 | [a,b,c,d,e]=>nsOk a b c && daOk d e
 | _=>false
theorem m_is_data (B n:Nat) (k:D) (r:List D) (h:AH) (g:goodL h (k::r)=true):∃ f,callN fns B (n+4) i_is_data [.tup (k::r)] h=.ok (.bl (daM r)) (h++f):=by
 rw [c_is_data]
 have e:(((k::r).length:Int) == 6)=decide ((k::r).length=6):=int_eq_nat (k::r).length 6
 by_cases hl:(k::r).length=6
 ·match r,hl,g,e with
  | [a,b,c,d,e],hl,g,e' =>
   have i4:(ixN 6 4).bind ([k,a,b,c,d,e][·]?)=some d:=rfl
   have i5:(ixN 6 5).bind ([k,a,b,c,d,e][·]?)=some e:=rfl
   have s1:=m_names_stream B n [k,a,b,c,d,e] a b c h g rfl rfl rfl
   have gd:=goodL_get (i:=4) g rfl
   have ge:=goodL_get (i:=5) g rfl
   have s2:=m_is_place B (n+1) d h gd
   obtain ⟨f,s3⟩:=m_is_signs_any B (n+1) e h ge
   have e6:(((6:Nat):Int) == 6)=true:=rfl
   simp! only [b_is_data,s1,daM,e6]
   cases nsOk a b c with
   | false=>simp! only [Bool.false_and]; exact ⟨[],by rw [List.append_nil]⟩
   | true =>
    simp! only [b_is_data_2,i4,i5,s2,Bool.true_and]
    cases q:inR d 0 1000000 with
    | false =>
     simp! only [and_self]
     refine ⟨[],?_⟩
     rw [List.append_nil]
     unfold daOk
     split
     ·rw [q]; rfl
     ·rfl
    | true =>
     cases d with
     | int i =>
      simp! only [s3]
      cases e with
      | str x =>
       unfold good at ge
       have hx:=of_decide_eq_true ge
       simp! only [sgOk,daOk,q,Bool.true_and]
       rcases Bool.eq_false_or_eq_true (x.all okC) with hq | hq
       rotate_left
       ·simp! only [hq,Bool.false_and]; exact ⟨f,rfl⟩
       ·have e40:decide ((x.length:Int)≤40)=decide (x.length≤40):=int_le_nat x.length 40
        simp! only [hq,b_is_data_1,Bool.true_and,if_pos (show x.length≤16777216 by omega),e40]
        cases decide (x.length≤40) with
        | false=>simp! only [Bool.false_and]; exact ⟨f,rfl⟩
        | true=>simp! only [Bool.true_and,if_pos (show x.length≤16777216 by omega)]; exact ⟨f,rfl⟩
      | _=>simp! only [sgOk,daOk]; exact ⟨f,rfl⟩
     | _=>cases q
 ·have hm:daM r=false:=by
   unfold daM
   split
   ·exact absurd rfl hl
   ·rfl
  rw [hm]
  simp! only [b_is_data] at e ⊢
  rw [List.length_cons] at hl
  simp! only [e,hl]
  exact ⟨[],by rw [List.append_nil]⟩
noncomputable def spOk (d:D) (fl:Int):Bool:=match d with
 | .tup [a,b]=>match a,b with
  | .int i,.int j=>inR a 0 1000000 && (inR b 0 1000000 && (decide (fl < i) && decide (i < j)))
  | _,_=>false
 | _=>false
theorem m_is_span_above (B n:Nat) (d:D) (fl:Int) (h:AH) (g:good h d=true):callN fns B (n+3) i_is_span_above [d,.int fl] h=.ok (.bl (spOk d fl)) h:=by
 rw [c_is_span_above]
 simp! only [b_is_span_above,isi_good _ g]
 cases d with
 | tup xs =>
  have e:((xs.length:Int) == 2)=decide (xs.length=2):=int_eq_nat xs.length 2
  simp! only [isTy,show (Ty.tuple == Ty.tuple)=true from rfl,e]
  by_cases hl:xs.length=2
  ·match xs,hl,g with
   | [a,b],_,g =>
    unfold good at g
    have i0:(ixN 2 0).bind ([a,b][·]?)=some a:=rfl
    have i1:(ixN 2 1).bind ([a,b][·]?)=some b:=rfl
    have s1:=m_is_place B n a h (goodL_get (i:=0) g rfl)
    have s2:=m_is_place B n b h (goodL_get (i:=1) g rfl)
    simp! only [b_is_span_above_1,i0,s1]
    cases q:inR a 0 1000000 with
    | false =>
     simp! only [spOk]
     split
     ·rw [q]; rfl
     ·rfl
    | true =>
     cases a with
     | int i =>
      simp! only [i1,s2]
      cases q2:inR b 0 1000000 with
      | false =>
       simp! only [spOk]
       split
       ·rw [q2,Bool.false_and,Bool.and_false]
       ·rfl
      | true =>
       cases b with
       | int j =>
        simp! only [i0,i1,spOk,q,q2,Bool.true_and]
        cases decide (fl < i) with
        | false=>simp! only [Bool.false_and]
        | true=>simp! only [Bool.true_and,i1]
       | _=>cases q2
     | _=>cases q
  ·simp! only [hl]
   unfold spOk
   split
   ·rename_i a b he; cases he; exact absurd rfl hl
   ·rfl
 | _=>simp! only [isTy,spOk,show (Ty.tuple == Ty.bool)=false from rfl,show (Ty.tuple == Ty.int)=false from rfl,show (Ty.tuple == Ty.str)=false from rfl,show (Ty.tuple == Ty.list)=false from rfl]
noncomputable def endOf (d:D):Int:=match d with
 | .tup [_,.int j]=>j
 | _=>0
noncomputable def spsF:List D→Int→Bool
 | [],_=>true
 | d::r,fl=>spOk d fl && spsF r (endOf d)
theorem spOk_end {d:D} {fl:Int} (q:spOk d fl=true):∃ i j,d=.tup [.int i,.int j]∧endOf d=j∧fl < i∧i < j∧j≤1000000∧0≤i:=by
 unfold spOk at q
 split at q
 ·split at q
  ·rename_i i j
   simp only [Bool.and_eq_true,decide_eq_true_eq,inR] at q
   exact ⟨i,j,rfl,rfl,by omega,by omega,by omega,by omega⟩
  ·cases q
 ·cases q
theorem spans_loop (B n : Nat) (y : D) (h : AH) : ∀ (xs : List D) (fl : Int) (l : Option D), goodL h xs = true → ∃ fl' l', forRow (turnOf (TG.nm 2) (denS (callN fns B (n + 3)) B b_are_spans_above_2)) xs [some y, some (.int fl), l] h =
    (if spsF xs fl = true then .nx [some y, some (.int fl'), l'] h else .rt (.bl false) h)
  | [], fl, l, _ => ⟨fl, l, rfl⟩
  | d :: r, fl, l, g => by
    unfold goodL at g
    rw [Bool.and_eq_true] at g
    have s1 := m_is_span_above B n d fl h g.1
    rw [forRow]
    simp! only [b_are_spans_above_2, s1, spsF]
    rcases Bool.eq_false_or_eq_true (spOk d fl) with q | q
    rotate_left
    · simp! only [q, Bool.false_and]; first | exact ⟨0, none, rfl⟩ | exact ⟨0, none, trivial⟩
    · obtain ⟨i, j, rfl, e, _⟩ := spOk_end q
      have i1 : (ixN 2 1).bind ([D.int i, D.int j][·]?) = some (.int j) := rfl
      simp! only [q, Bool.true_and, b_are_spans_above_1, i1]
      rw [e]
      exact spans_loop B n y h r j _ g.2
noncomputable def sps (d:D) (fl:Int):Bool:=match d with
 | .tup xs=>decide (xs.length≤8) && spsF xs fl
 | _=>false
theorem m_are_spans_above (B n:Nat) (d:D) (fl:Int) (h:AH) (g:good h d=true):callN fns B (n+4) i_are_spans_above [d,.int fl] h=.ok (.bl (sps d fl)) h:=by
 rw [c_are_spans_above]
 simp! only [b_are_spans_above,isi_good _ g]
 cases d with
 | tup xs =>
  have e:decide ((8:Int) < (xs.length:Int))=decide (8 < xs.length):=int_lt_nat 8 xs.length
  unfold good at g
  simp! only [isTy,show (Ty.tuple == Ty.tuple)=true from rfl,e,sps]
  by_cases hl:8 < xs.length
  ·simp! only [hl,decide_eq_false (show ¬ xs.length≤8 by omega),Bool.false_and]
  ·obtain ⟨fl',l',q⟩:=spans_loop B n (.tup xs) h xs fl none g
   simp! only [hl,b_are_spans_above_4,q,show xs.length≤8 by omega,Bool.true_and]
   cases spsF xs fl with
   | true=>simp! only [b_are_spans_above_3]
   | false=>simp! only [and_self]
 | _=>simp! only [isTy,sps,show (Ty.tuple == Ty.bool)=false from rfl,show (Ty.tuple == Ty.int)=false from rfl,show (Ty.tuple == Ty.str)=false from rfl,show (Ty.tuple == Ty.list)=false from rfl]
noncomputable def anOk (d e f:D):Bool:=match d with
 | .int i=>inR d 0 1000001 && (inR e 0 1000200 && sps f i)
 | _=>false
noncomputable def anM:List D→Bool
 | [a,b,c,d,e,f]=>nsOk a b c && anOk d e f
 | _=>false
theorem m_is_answer (B n:Nat) (k:D) (r:List D) (h:AH) (g:goodL h (k::r)=true):callN fns B (n+5) i_is_answer [.tup (k::r)] h=.ok (.bl (anM r)) h:=by
 rw [c_is_answer]
 have e:(((k::r).length:Int) == 7)=decide ((k::r).length=7):=int_eq_nat (k::r).length 7
 by_cases hl:(k::r).length=7
 ·match r,hl,g,e with
  | [a,b,c,d,e,f],hl,g,e' =>
   have i4:(ixN 7 4).bind ([k,a,b,c,d,e,f][·]?)=some d:=rfl
   have i5:(ixN 7 5).bind ([k,a,b,c,d,e,f][·]?)=some e:=rfl
   have i6:(ixN 7 6).bind ([k,a,b,c,d,e,f][·]?)=some f:=rfl
   have s1:=m_names_stream B (n+1) [k,a,b,c,d,e,f] a b c h g rfl rfl rfl
   have gd:=goodL_get (i:=4) g rfl
   have ge:=goodL_get (i:=5) g rfl
   have gf:=goodL_get (i:=6) g rfl
   have s2:=m_is_number B (n+3) d 0 1000001 h gd
   have s3:=m_is_number B (n+3) e 0 1000200 h ge
   have e6:(((7:Nat):Int) == 7)=true:=rfl
   simp! only [b_is_answer,s1,anM,e6]
   cases nsOk a b c with
   | false=>simp! only [Bool.false_and]
   | true =>
    simp! only [b_is_answer_2,i4,s2,Bool.true_and]
    cases q:inR d 0 1000001 with
    | false =>
     simp! only [and_self]
     unfold anOk
     split
     ·rw [q]; rfl
     ·rfl
    | true =>
     cases d with
     | int i =>
      have s4:=m_are_spans_above B n f i h gf
      simp! only [i5,s3,anOk,q,Bool.true_and]
      cases inR e 0 1000200 with
      | false=>simp! only [Bool.false_and]
      | true=>simp! only [b_is_answer_1,i4,i6,s4,Bool.true_and]
     | _=>cases q
 ·have hm:anM r=false:=by
   unfold anM
   split
   ·exact absurd rfl hl
   ·rfl
  rw [hm]
  simp! only [b_is_answer] at e ⊢
  rw [List.length_cons] at hl
  simp! only [e,hl]
noncomputable def HELLO:Tx:=[104,101,108,108,111]
noncomputable def DATA:Tx:=[100,97,116,97]
noncomputable def ENDW:Tx:=[101,110,100]
noncomputable def ANS:Tx:=[97,110,115,119,101,114]
noncomputable def pieceD (d:D):Bool:=match d with
 | .tup (.str k::r)=>if k=HELLO then hiM r else if k=DATA then daM r else if k=ENDW then enM r else if k=ANS then anM r else false
 | _=>false
theorem m_is_piece (B n:Nat) (d:D) (h:AH) (g:good h d=true):∃ f,callN fns B (n+6) i_is_piece [d] h=.ok (.bl (pieceD d)) (h++f):=by
 rw [c_is_piece]
 simp! only [b_is_piece,isi_good _ g]
 cases d with
 | tup xs =>
  unfold good at g
  cases xs with
  | nil =>
   have e6:(((0:Nat):Int) == 0)=true:=rfl
   simp! only [isTy,show (Ty.tuple == Ty.tuple)=true from rfl,e6,pieceD]
   exact ⟨[],by rw [List.append_nil]⟩
  | cons k r =>
   have e0:(((r.length+1:Nat):Int) == 0)=false:=by rw [show (0:Int)=((0:Nat):Int) from rfl,int_eq_nat]; simp
   have i0:(ixN (k::r).length 0).bind ((k::r)[·]?)=some k:=ixT (k:=0) rfl
   have gk:=goodL_get (i:=0) g rfl
   rw [List.length_cons] at i0
   simp! only [isTy,show (Ty.tuple == Ty.tuple)=true from rfl,e0,b_is_piece_5,i0,isi_good _ gk]
   cases k with
   | str k =>
    simp! only [isTy,show (Ty.str == Ty.str)=true from rfl,b_is_piece_4,pieceD]
    by_cases h1:k=HELLO
    ·have q:(k == [104,101,108,108,111])=true:=by rw [h1]; rfl
     have s:=m_is_hello B (n+2) (.str k) r h g
     rw [if_pos h1]
     simp! only [q,s]
     exact ⟨[],by rw [List.append_nil]⟩
    ·have q:(k == [104,101,108,108,111])=false:=beq_eq_false_iff_ne.mpr h1
     rw [if_neg h1]
     simp! only [q,b_is_piece_3]
     by_cases h2:k=DATA
     ·have q:(k == [100,97,116,97])=true:=by rw [h2]; rfl
      obtain ⟨f,s⟩:=m_is_data B (n+1) (.str k) r h g
      rw [if_pos h2]
      simp! only [q,s]
      exact ⟨f,rfl⟩
     ·have q:(k == [100,97,116,97])=false:=beq_eq_false_iff_ne.mpr h2
      rw [if_neg h2]
      simp! only [q,b_is_piece_2]
      by_cases h3:k=ENDW
      ·have q:(k == [101,110,100])=true:=by rw [h3]; rfl
       have s:=m_is_end B (n+1) (.str k) r h g
       rw [if_pos h3]
       simp! only [q,s]
       exact ⟨[],by rw [List.append_nil]⟩
      ·have q:(k == [101,110,100])=false:=beq_eq_false_iff_ne.mpr h3
       rw [if_neg h3]
       simp! only [q,b_is_piece_1]
       by_cases h4:k=ANS
       ·have q:(k == [97,110,115,119,101,114])=true:=by rw [h4]; rfl
        have s:=m_is_answer B n (.str k) r h g
        rw [if_pos h4]
        simp! only [q,s]
        exact ⟨[],by rw [List.append_nil]⟩
       ·have q:(k == [97,110,115,119,101,114])=false:=beq_eq_false_iff_ne.mpr h4
        rw [if_neg h4]
        simp! only [q]
        exact ⟨[],by rw [List.append_nil]⟩
   | _=>simp! only [isTy,pieceD,show (Ty.str == Ty.bool)=false from rfl,show (Ty.str == Ty.int)=false from rfl,show (Ty.str == Ty.tuple)=false from rfl,show (Ty.str == Ty.list)=false from rfl]; exact ⟨[],by rw [List.append_nil]⟩
 | _=>simp! only [isTy,pieceD,show (Ty.tuple == Ty.bool)=false from rfl,show (Ty.tuple == Ty.int)=false from rfl,show (Ty.tuple == Ty.str)=false from rfl,show (Ty.tuple == Ty.list)=false from rfl]; exact ⟨[],by rw [List.append_nil]⟩
noncomputable def isI (d:D):Bool:=match d with
 | .int _=>true
 | _=>false
theorem m_law_whole (B n:Nat) (d:D) (h:AH) (g:good h d=true):callN fns B (n+1) i_law_whole [d] h=.ok (.bl (isI d)) h:=by
 rw [c_law_whole]
 simp! only [b_law_whole,isi_good _ g]
 cases d with
 | bl b=>simp! only [isTy,isI,isi_good _ g,show (Ty.int == Ty.bool)=false from rfl,show (Ty.int == Ty.int)=true from rfl,show (Ty.bool == Ty.bool)=true from rfl]
 | int b=>simp! only [isTy,isI,isi_good _ g,show (Ty.int == Ty.int)=true from rfl,show (Ty.bool == Ty.int)=false from rfl]
 | _=>simp! only [isTy,isI,show (Ty.int == Ty.str)=false from rfl,show (Ty.int == Ty.tuple)=false from rfl,show (Ty.int == Ty.list)=false from rfl]
theorem m_law_in (B n:Nat) (d:D) (lo hi:Int) (h:AH) (g:good h d=true):callN fns B (n+2) i_law_in [d,.int lo,.int hi] h=.ok (.bl (inR d lo hi)) h:=by
 rw [c_law_in]
 simp! only [b_law_in,m_law_whole B n d h g]
 cases d with
 | int i =>
  simp! only [isI,inR]
  cases decide (lo≤i) <;> simp! only [Bool.true_and,Bool.false_and]
 | _=>simp! only [isI,inR]
theorem okC_all (c:Nat):ALL.contains c=okC c:=by
 rw [Bool.eq_iff_iff,List.contains_iff_mem]
 constructor
 ·intro hm
  have:=ALL_bd c hm
  unfold okC
  simp [this]
 ·intro ho
  have key:∀ c,c < 127→okC c=true→c ∈ ALL:=by decide
  refine key c ?_ ho
  unfold okC at ho
  simp only [Bool.and_eq_true,decide_eq_true_eq] at ho
  omega
theorem good_loop (B n:Nat) (y:D) (h:AH):∀ (x:Tx) (l:Option D),∃ l',forRow (turnOf (TG.nm 1) (denS (callN fns B (n+1)) B b_law_good_signs_1)) (x.map fun c=>.str [c]) [some y,l] h=(if x.all okC=true then .nx [some y,l'] h else .rt (.bl false) h)
 | [],l=>⟨l,rfl⟩
 | c::r,l=>by
  rw [List.map_cons,forRow]
  simp! only [b_law_good_signs_1,m_all,okC_all,List.all_cons]
  rcases Bool.eq_false_or_eq_true (okC c) with q | q
  rotate_left
  ·simp! only [q,Bool.false_and]; first | exact ⟨none,rfl⟩ | exact ⟨none,trivial⟩
  ·simp! only [q,Bool.true_and]
   have:=good_loop B n y h r (some (.str [c]))
   simp only [b_law_good_signs_1,denS,den,denT,denL] at this
   simpa only [Int.reduceLT,Int.reduceLE,Int.reduceNeg,Int.reduceAdd,Int.reduceSub,Int.reduceEq,Int.reduceBEq,Nat.reduceLeDiff,Nat.reduceLT,Nat.reduceBEq,and_self,and_true,true_and,fin_bad,fin_nx,fin_rt,fin_exc,denS,den,denT,denL,denI,denP,intD_int,andThen_bad,andThen_nx,andThen_rt,andThen_bk,andThen_ct,andThen_exc,ofR_ok,ofR_exc,ofR_bad,turn_nx,turn_ct,turn_bk,turn_rt,turn_exc,scalm_nx,scalm_rt,catch_nx,catch_rt,catch_exc,rtO_rt,denH,calm_ok,calm_eq,M.ret_eq,M.bind_eq,M.bad_eq,R.bind_ok,R.bind_exc,R.bind_bad,when_eq,newL,allocO,makeD,mclsD_ref,setFD_ref,setIxD_ref,setIxD_str,getN,putN,tbN,Option.isNone_none,Option.isNone_some,mapIt_row,mapIt_live,tgSet,forIt,turnOf_nm,turnOf_two,b2i,List.getElem?_cons_zero,List.getElem?_cons_succ,List.length_cons,List.length_nil,List.map_cons,List.map_nil,List.cons_append,List.nil_append,List.set_cons_zero,List.set_cons_succ,if_true,reduceIte,Nat.zero_add,Nat.reduceAdd,Bool.false_eq_true,if_false,Bool.not_true,Bool.not_false,Bool.or_true,Bool.or_false,Bool.true_or,Bool.false_or,decide_true,decide_false,reduceCtorEq,beq_self_eq_true,u_neg1,u_len1,u_len2,u_len3,u_str1,u_int1,u_int2,u_int3,u_ord1,u_tuple1,u_tuple2,u_list1,u_list2,u_all1,u_any1,u_upper1,u_sum1,u_rev1,u_clear1,u_isx1,u_fld1,u_isN1,u_notN1,u_isB1,u_isB2,u_isB3,u_isB4,u_nsB1,u_nsB2,u_nsB3,u_nsB4,u_isi1,o_add1,o_add2,o_add3,o_add4,o_sub1,o_mul1,o_split1,o_part1,o_rpart1,o_get1,o_pop1,o_starts1,o_index1,o_fdiv1,o_mod1,o_pow1,o_eq1,o_ne1,o_lt1,o_le1,o_gt1,o_ge1,o_isin1,o_isin2,o_isin3,o_isin4,o_notin1,o_notin2,o_ix1,o_ix2,o_ix3,o_ix4,o_min21,o_max21,o_find1,o_zfill1,o_join1,o_append1,o_remove1,t_non,t_bl,t_int,t_str,t_tup,t_ref,it_str,it_tup,it_ref,s_str_a,s_tup_a,s_ref_a,me_append,me_remove,me_zfill,me_join,me_find,me_get,me_pop,me_starts,me_index,me_split,me_part,me_rpart,splm_str,setdD_ref,isi_non,isi_bl,isi_int,isi_str,isi_tup,isi_ref,e_non_non,e_bl_bl,e_bl_int,e_int_bl,e_int_int,e_str_str,e_tup_tup] using this
theorem m_good_signs (B n:Nat) (d:D) (h:AH) (g:good h d=true):callN fns B (n+2) i_law_good_signs [d] h=.ok (.bl (sgOk d)) h:=by
 rw [c_law_good_signs]
 simp! only [b_law_good_signs,isi_good _ g]
 cases d with
 | str x =>
  obtain ⟨l',q⟩:=good_loop B n (.str x) h x none
  simp! only [isTy,show (Ty.str == Ty.str)=true from rfl,b_law_good_signs_3,q,sgOk]
  cases x.all okC with
  | true=>simp! only [b_law_good_signs_2]
  | false=>simp! only [and_self]
 | _=>simp! only [isTy,sgOk,show (Ty.str == Ty.bool)=false from rfl,show (Ty.str == Ty.int)=false from rfl,show (Ty.str == Ty.tuple)=false from rfl,show (Ty.str == Ty.list)=false from rfl]
theorem fine_loop (B n : Nat) (y : D) (h : AH) : ∀ (xs : List D) (fl : Int) (l : Option D), 0 ≤ fl → goodL h xs = true → ∃ fl' l', forRow (turnOf (TG.nm 2) (denS (callN fns B (n + 2)) B b_law_fine_3)) xs [some y, some (.int fl), l] h =
    (if spsF xs fl = true then .nx [some y, some (.int fl'), l'] h else .rt (.bl false) h)
  | [], fl, l, _, _ => ⟨fl, l, rfl⟩
  | d :: r, fl, l, h0, g => by
    unfold goodL at g
    rw [Bool.and_eq_true] at g
    have no : spOk d fl = false → (if spsF (d :: r) fl = true then SR.nx [some y, some (D.int 0), none] h else .rt (.bl false) h) = .rt (.bl false) h := fun q => by
      rw [spsF, q, Bool.false_and]; rfl
    rw [forRow, turnOf_nm]
    simp only [List.set_cons_succ, List.set_cons_zero]
    have gd := g.1
    have bodyN : isTy .tuple d = false → denS (callN fns B (n + 2)) B b_law_fine_3 [some y, some (.int fl), some d] h = .rt (.bl false) h := fun q => by
      simp! only [b_law_fine_3, isi_good _ gd, q]
    cases d with
    | tup xs =>
      have e : ((xs.length : Int) == 2) = decide (xs.length = 2) := int_eq_nat xs.length 2
      by_cases hl : xs.length = 2
      · match xs, hl, gd with
        | [a, b], _, gd =>
          unfold good at gd
          have i0 : (ixN 2 0).bind ([a, b][·]?) = some a := rfl
          have i1 : (ixN 2 1).bind ([a, b][·]?) = some b := rfl
          have s1 := m_law_in B n a (fl + 1) 1000000 h (goodL_get (i := 0) gd rfl)
          have e6 : (((2 : Nat) : Int) == 2) = true := rfl
          have body : denS (callN fns B (n + 2)) B b_law_fine_3 [some y, some (.int fl), some (.tup [a, b])] h = (if spOk (.tup [a, b]) fl = true then .nx [some y, some (.int (endOf (.tup [a, b]))), some (.tup [a, b])] h else .rt (.bl false) h) := by
            simp! only [b_law_fine_3, isi_tup, show (Ty.tuple == Ty.tuple) = true from rfl, e6, b_law_fine_2, i0, s1]
            cases a with
            | int i =>
              have s2 := m_law_in B n b (i + 1) 1000000 h (goodL_get (i := 1) gd rfl)
              rcases Bool.eq_false_or_eq_true (inR (.int i) (fl + 1) 1000000) with q | q
              rotate_left
              · have hs : spOk (.tup [.int i, b]) fl = false := by
                  unfold spOk
                  simp only [inR] at q ⊢
                  cases b <;> first | rfl | skip
                  rw [Bool.and_eq_false_iff] at q ⊢
                  simp only [Bool.and_eq_false_iff, decide_eq_false_iff_not] at q ⊢
                  omega
                simp! only [q, hs]
              · simp! only [q, i1, i0, s2]
                cases b with
                | int j =>
                  have hs : spOk (.tup [.int i, .int j]) fl = inR (.int j) (i + 1) 1000000 := by
                    unfold spOk
                    simp only [inR, Bool.and_eq_true, decide_eq_true_eq] at q ⊢
                    rw [Bool.eq_iff_iff]
                    simp only [Bool.and_eq_true, decide_eq_true_eq]
                    omega
                  rw [hs]
                  rcases Bool.eq_false_or_eq_true (inR (.int j) (i + 1) 1000000) with q2 | q2
                  · simp! only [q2, b_law_fine_1, i1, endOf]
                  · simp! only [q2]
                | _ => simp! only [inR, spOk]
            | _ => simp! only [inR, spOk]
          rw [body]
          rcases Bool.eq_false_or_eq_true (spOk (.tup [a, b]) fl) with q | q
          rotate_left
          · simp! only [q, spsF, Bool.false_and]; first | exact ⟨0, none, rfl⟩ | exact ⟨0, none, trivial⟩
          · obtain ⟨i, j, hd, e2, hj⟩ := spOk_end q
            have ih := fine_loop B n y h r (endOf (.tup [a, b])) (some (.tup [a, b])) (by rw [e2]; omega) g.2
            simp! only [q, spsF, Bool.true_and]
            exact ih
      · have hs : spOk (.tup xs) fl = false := by
          unfold spOk
          split
          · rename_i a b he; cases he; exact absurd rfl hl
          · rfl
        have body : denS (callN fns B (n + 2)) B b_law_fine_3 [some y, some (.int fl), some (.tup xs)] h = .rt (.bl false) h := by
          simp! only [b_law_fine_3, isi_tup, show (Ty.tuple == Ty.tuple) = true from rfl, e, hl]
        rw [body]
        refine ⟨0, none, ?_⟩
        rw [no hs]; rfl
    | _ =>
      rw [bodyN rfl]
      refine ⟨0, none, ?_⟩
      rw [no rfl]; rfl
theorem m_fine (B n:Nat) (d:D) (fl:Int) (h:AH) (h0:0≤fl) (g:good h d=true):callN fns B (n+3) i_law_fine [d,.int fl] h=.ok (.bl (sps d fl)) h:=by
 rw [c_law_fine]
 simp! only [b_law_fine,isi_good _ g]
 cases d with
 | tup xs =>
  have e:decide ((8:Int) < (xs.length:Int))=decide (8 < xs.length):=int_lt_nat 8 xs.length
  unfold good at g
  simp! only [isTy,show (Ty.tuple == Ty.tuple)=true from rfl,e,sps]
  by_cases hl:8 < xs.length
  ·simp! only [hl,decide_eq_false (show ¬ xs.length≤8 by omega),Bool.false_and]
  ·obtain ⟨fl',l',q⟩:=fine_loop B n (.tup xs) h xs fl none h0 g
   simp! only [hl,b_law_fine_5,q,show xs.length≤8 by omega,Bool.true_and]
   cases spsF xs fl with
   | true=>simp! only [b_law_fine_4]
   | false=>simp! only [and_self]
 | _=>simp! only [isTy,sps,show (Ty.tuple == Ty.bool)=false from rfl,show (Ty.tuple == Ty.int)=false from rfl,show (Ty.tuple == Ty.str)=false from rfl,show (Ty.tuple == Ty.list)=false from rfl]
theorem piece_short {xs:List D} (h:xs.length < 3):pieceD (.tup xs)=false:=by
 match xs,h with
 | [],_=>rfl
 | [k],_ =>
  cases k <;> first | rfl | skip
  unfold pieceD hiM daM enM anM
  simp
 | [k,a],_ =>
  cases k <;> first | rfl | skip
  unfold pieceD hiM daM enM anM
  simp
theorem daOk_ns (d e:D) (h:isTy .str e=false):daOk d e=false:=by
 unfold daOk
 split
 ·cases h
 ·rfl
theorem m_law_is_piece (B n:Nat) (d:D) (h:AH) (g:good h d=true):callN fns B (n+4) i_law_is_piece [d] h=.ok (.bl (pieceD d)) h:=by
 rw [c_law_is_piece]
 have hN:isTy .tuple d=false→fin (denS (callN fns B (n+3)) B b_law_is_piece [some d,none] h)=.ok (.bl false) h:=fun q=>by
  simp! only [b_law_is_piece,isi_good _ g,q]
 cases d with
 | tup xs =>
  clear hN
  unfold good at g
  have e3:decide ((xs.length:Int) < 3)=decide (xs.length < 3):=int_lt_nat xs.length 3
  have e5:decide ((xs.length:Int) < 5)=decide (xs.length < 5):=int_lt_nat xs.length 5
  have q3:((xs.length:Int) == 3)=decide (xs.length=3):=int_eq_nat xs.length 3
  have q5:((xs.length:Int) == 5)=decide (xs.length=5):=int_eq_nat xs.length 5
  have q6:((xs.length:Int) == 6)=decide (xs.length=6):=int_eq_nat xs.length 6
  have q7:((xs.length:Int) == 7)=decide (xs.length=7):=int_eq_nat xs.length 7
  by_cases hl:xs.length < 3
  ·rw [piece_short hl]
   simp! only [b_law_is_piece,show (Ty.tuple == Ty.tuple)=true from rfl,e3,hl]
  ·obtain ⟨k,a,b,r,hxs⟩:∃ k a b r,xs=k::a::b::r:=by
    match xs,hl with
    | k::a::b::r,_=>exact ⟨k,a,b,r,rfl⟩
    | [],hl=>exact absurd (by simp) hl
    | [_],hl=>exact absurd (by simp) hl
    | [_,_],hl=>exact absurd (by simp) hl
   have x0:xs[0]?=some k:=by rw [hxs]; rfl
   have x1:xs[1]?=some a:=by rw [hxs]; rfl
   have x2:xs[2]?=some b:=by rw [hxs]; rfl
   have i0:(ixN xs.length 0).bind (xs[·]?)=some k:=ixT (k:=0) x0
   have i1:(ixN xs.length 1).bind (xs[·]?)=some a:=ixT (k:=1) x1
   have i2:(ixN xs.length 2).bind (xs[·]?)=some b:=ixT (k:=2) x2
   have gk:=goodL_get g x0
   have ga:=goodL_get g x1
   have gb:=goodL_get g x2
   simp! only [b_law_is_piece,show (Ty.tuple == Ty.tuple)=true from rfl,e3,hl,i0,isi_good _ gk]
   cases k with
   | str w =>
    have s1:=m_law_in B (n+1) a 1 1000000000 h ga
    have s2:=fun lo=>m_law_in B (n+1) b lo 1000000000 h gb
    simp! only [isTy,show (Ty.str == Ty.str)=true from rfl,b_law_is_piece_9,i0,i1,i2,s1]
    have hpd:pieceD (.tup xs)=if w=HELLO then hiM (a::b::r) else if w=DATA then daM (a::b::r) else if w=ENDW then enM (a::b::r) else if w=ANS then anM (a::b::r) else false:=by rw [hxs]; rfl
    rw [hpd]
    rcases Bool.eq_false_or_eq_true (inR a 1 1000000000) with qa | qa
    rotate_left
    ·have z1:hiM (a::b::r)=false:=by unfold hiM; split <;> first | rfl | (rename_i he; cases he; unfold hiOk; rw [qa]; rfl)
     have z2:daM (a::b::r)=false:=by unfold daM; split <;> first | rfl | (rename_i he; cases he; unfold nsOk; rw [qa]; rfl)
     have z3:enM (a::b::r)=false:=by unfold enM; split <;> first | rfl | (rename_i he; cases he; unfold nsOk; rw [qa]; rfl)
     have z4:anM (a::b::r)=false:=by unfold anM; split <;> first | rfl | (rename_i he; cases he; unfold nsOk; rw [qa]; rfl)
     simp! only [qa,z1,z2,z3,z4,ite_self]
    ·simp! only [qa]
     by_cases hw:w=HELLO
     ·have q:(w == [104,101,108,108,111])=true:=by rw [hw]; rfl
      rw [if_pos hw]
      simp! only [q,i2,s2]
      rcases Bool.eq_false_or_eq_true (inR b 0 1000000000) with qb | qb
      rotate_left
      ·have z1:hiM (a::b::r)=false:=by unfold hiM; split <;> first | rfl | (rename_i he; cases he; unfold hiOk; rw [qb,Bool.and_false])
       simp! only [qb,z1]
      ·simp! only [qb,b_law_is_piece_8,i0,q,q3]
       have:hiM (a::b::r)=decide (xs.length=3):=by
        rw [hxs]
        cases r with
        | nil=>show (inR a 1 1000000000 && inR b 0 1000000000)=_; rw [qa,qb]; rfl
        | cons _ _=>simp [hiM]
       rw [this]
     ·have q:(w == [104,101,108,108,111])=false:=beq_eq_false_iff_ne.mpr hw
      rw [if_neg hw]
      simp! only [q,i2,s2]
      rcases Bool.eq_false_or_eq_true (inR b 1 1000000000) with qb | qb
      rotate_left
      ·have z2:daM (a::b::r)=false:=by unfold daM; split <;> first | rfl | (rename_i he; cases he; unfold nsOk; rw [qb,Bool.false_and,Bool.and_false,Bool.false_and])
       have z3:enM (a::b::r)=false:=by unfold enM; split <;> first | rfl | (rename_i he; cases he; unfold nsOk; rw [qb,Bool.false_and,Bool.and_false,Bool.false_and])
       have z4:anM (a::b::r)=false:=by unfold anM; split <;> first | rfl | (rename_i he; cases he; unfold nsOk; rw [qb,Bool.false_and,Bool.and_false,Bool.false_and])
       simp! only [qb,z2,z3,z4,ite_self]
      ·simp! only [qb,b_law_is_piece_8,i0,q,b_law_is_piece_7,e5]
       by_cases h5:xs.length < 5
       ·have hr:r.length < 2:=by rw [hxs] at h5; simp only [List.length_cons] at h5; omega
        have z2:daM (a::b::r)=false:=by unfold daM; split <;> first | rfl | (rename_i he; cases he; simp at hr)
        have z3:enM (a::b::r)=false:=by unfold enM; split <;> first | rfl | (rename_i he; cases he; simp at hr)
        have z4:anM (a::b::r)=false:=by unfold anM; split <;> first | rfl | (rename_i he; cases he; simp at hr)
        simp! only [h5,z2,z3,z4,ite_self]
       ·obtain ⟨c,d,r',hr⟩:∃ c d r',r=c::d::r':=by
         rw [hxs] at h5
         match r,h5 with
         | c::d::r',_=>exact ⟨c,d,r',rfl⟩
         | [],hl=>exact absurd (by simp) hl
         | [_],hl=>exact absurd (by simp) hl
        subst hr
        have x3:xs[3]?=some c:=by rw [hxs]; rfl
        have x4:xs[4]?=some d:=by rw [hxs]; rfl
        have i3:(ixN xs.length 3).bind (xs[·]?)=some c:=ixT (k:=3) x3
        have i4:(ixN xs.length 4).bind (xs[·]?)=some d:=ixT (k:=4) x4
        have s3:=m_law_in B (n+1) c 0 999 h (goodL_get g x3)
        have gd:=goodL_get g x4
        simp! only [h5,i3,s3]
        rcases Bool.eq_false_or_eq_true (inR c 0 999) with qc | qc
        rotate_left
        ·have hn:nsOk a b c=false:=by unfold nsOk; rw [qc,Bool.and_false,Bool.and_false]
         have z2:daM (a::b::c::d::r')=false:=by unfold daM; split <;> first | rfl | (rename_i he; cases he; rw [hn]; rfl)
         have z3:enM (a::b::c::d::r')=false:=by unfold enM; split <;> first | rfl | (rename_i he; cases he; rw [hn]; rfl)
         have z4:anM (a::b::c::d::r')=false:=by unfold anM; split <;> first | rfl | (rename_i he; cases he; rw [hn]; rfl)
         simp! only [qc,z2,z3,z4,ite_self]
        ·have hn:nsOk a b c=true:=by unfold nsOk; rw [qa,qb,qc]; rfl
         simp! only [qc,b_law_is_piece_6,i0]
         by_cases hE:w=ENDW
         ·have q':(w == [101,110,100])=true:=by rw [hE]; rfl
          have hif:(if w=DATA then daM (a::b::c::d::r') else if w=ENDW then enM (a::b::c::d::r') else if w=ANS then anM (a::b::c::d::r') else false)=enM (a::b::c::d::r'):=by
           rw [if_neg (by rw [hE]; decide),if_pos hE]
          rw [hif]
          simp! only [q',q5]
          by_cases hl5:xs.length=5
          ·have s4:=m_law_in B (n+1) d 0 1000000 h gd
           have:r'=[]:=by rw [hxs] at hl5; simp only [List.length_cons] at hl5; exact List.eq_nil_of_length_eq_zero (by omega)
           subst this
           simp! only [hl5] at i4 ⊢
           simp! only [i4,s4,enM,hn,Bool.true_and]
          ·have z3:enM (a::b::c::d::r')=false:=by
            unfold enM; split <;> first | rfl | (rename_i he; cases he; rw [hxs] at hl5; exact absurd rfl hl5)
           simp! only [hl5,z3]
         ·have q':(w == [101,110,100])=false:=beq_eq_false_iff_ne.mpr hE
          simp! only [q',b_law_is_piece_5,i0]
          by_cases hD:w=DATA
          ·have q':(w == [100,97,116,97])=true:=by rw [hD]; rfl
           rw [if_pos hD]
           simp! only [q',b_law_is_piece_2,q6]
           by_cases hl6:xs.length=6
           ·obtain ⟨e,he⟩:∃ e,r'=[e]:=by
             rw [hxs] at hl6
             match r',hl6 with
             | [e],_=>exact ⟨e,rfl⟩
            subst he
            have x5:xs[5]?=some e:=by rw [hxs]; rfl
            have i5:(ixN xs.length 5).bind (xs[·]?)=some e:=ixT (k:=5) x5
            have ge:=goodL_get g x5
            have s5:=m_good_signs B (n+1) e h ge
            rw [hl6] at i4 i5
            simp! only [hl6,i5,s5,daM,hn,Bool.true_and]
            cases e with
            | str x =>
             unfold good at ge
             have hx:=of_decide_eq_true ge
             have e40:decide ((40:Int) < (x.length:Int))=decide (40 < x.length):=int_lt_nat 40 x.length
             simp! only [sgOk,i5,if_pos (show x.length≤16777216 by omega),e40]
             have s6:=m_law_in B (n+1) d 0 (1000000 - x.length) h gd
             rcases Bool.eq_false_or_eq_true (x.all okC) with q8 | q8
             rotate_left
             ·have:daOk d (.str x)=false:=by unfold daOk; split <;> first | rfl | (rename_i hh; cases hh; rw [q8,Bool.false_and,Bool.and_false])
              simp! only [q8,this]
             ·simp! only [q8,hl6,i5,if_pos (show x.length≤16777216 by omega),e40]
              by_cases h40:40 < x.length
              ·have:daOk d (.str x)=false:=by unfold daOk; split <;> first | rfl | (rename_i hh; cases hh; rw [decide_eq_false (show ¬ x.length≤40 by omega),Bool.false_and,Bool.and_false,Bool.and_false])
               simp! only [h40,this]
              ·simp! only [h40,hl6,b_law_is_piece_1,i4,i5,if_pos (show x.length≤16777216 by omega),s6]
               have:daOk d (.str x)=inR d 0 (1000000 - x.length):=by
                cases d with
                | int i =>
                 show (inR (.int i) 0 1000000 && (x.all okC && (decide (x.length≤40) && decide (i+x.length≤1000000))))=(decide (0≤i) && decide (i≤1000000 - x.length))
                 simp only [inR]
                 rw [q8,decide_eq_true (show x.length≤40 by omega),Bool.eq_iff_iff]
                 simp only [Bool.and_eq_true,decide_eq_true_eq,Bool.true_and]
                 omega
                | _=>rfl
               rw [this]
            | _ =>
             rw [daOk_ns d _ rfl]
             simp! only [sgOk]
           ·have z2:daM (a::b::c::d::r')=false:=by
             unfold daM; split <;> first | rfl | (rename_i he; cases he; rw [hxs] at hl6; exact absurd rfl hl6)
            simp! only [hl6,z2]
          ·have q':(w == [100,97,116,97])=false:=beq_eq_false_iff_ne.mpr hD
           rw [if_neg hD,if_neg hE]
           simp! only [q',b_law_is_piece_4,i0]
           by_cases hA:w=ANS
           ·have q':(w == [97,110,115,119,101,114])=true:=by rw [hA]; rfl
            rw [if_pos hA]
            simp! only [q',q7]
            by_cases hl7:xs.length=7
            ·obtain ⟨e,f,he⟩:∃ e f,r'=[e,f]:=by
              rw [hxs] at hl7
              match r',hl7 with
              | [e,f],_=>exact ⟨e,f,rfl⟩
             subst he
             have x5:xs[5]?=some e:=by rw [hxs]; rfl
             have x6:xs[6]?=some f:=by rw [hxs]; rfl
             have i5:(ixN xs.length 5).bind (xs[·]?)=some e:=ixT (k:=5) x5
             have i6:(ixN xs.length 6).bind (xs[·]?)=some f:=ixT (k:=6) x6
             have s4:=m_law_in B (n+1) d 0 1000001 h gd
             have s5:=m_law_in B (n+1) e 0 1000200 h (goodL_get g x5)
             have gf:=goodL_get g x6
             rw [hl7] at i4 i5 i6
             simp! only [hl7,i4,s4,anM,hn,Bool.true_and]
             rcases Bool.eq_false_or_eq_true (inR d 0 1000001) with q8 | q8
             rotate_left
             ·have:anOk d e f=false:=by unfold anOk; split <;> first | rfl | (rw [q8]; rfl)
              simp! only [q8,this]
             ·cases d with
              | int i =>
               have hi:0≤i:=by
                simp only [inR,Bool.and_eq_true,decide_eq_true_eq] at q8
                exact q8.1
               have s6:=m_fine B n f i h hi gf
               simp! only [q8,hl7,b_law_is_piece_3,i5,s5,anOk,Bool.true_and]
               cases inR e 0 1000200 with
               | false=>simp! only [Bool.false_and]
               | true=>simp! only [hl7,i6,i4,s6,Bool.true_and]
              | _=>cases q8
            ·have z2:anM (a::b::c::d::r')=false:=by
              unfold anM; split <;> first | rfl | (rename_i he; cases he; rw [hxs] at hl7; exact absurd rfl hl7)
             simp! only [hl7,z2]
           ·have q':(w == [97,110,115,119,101,114])=false:=beq_eq_false_iff_ne.mpr hA
            rw [if_neg hA]
            simp! only [q']
   | _ =>
    rw [hxs]
    simp! only [isTy,pieceD,show (Ty.str == Ty.bool)=false from rfl,show (Ty.str == Ty.int)=false from rfl,show (Ty.str == Ty.tuple)=false from rfl,show (Ty.str == Ty.list)=false from rfl]
 | _=>exact hN rfl
theorem m_cellI (B n:Nat) (ns:List Int) (h:AH) (i:Nat) (j:Int) (h0:0≤j) (hx:getL h i=some ((mixL 1 ns).map .int)):∃ c,0≤c∧callN fns B (n+1) i_law_cell_at [.ref i,.int j] h=.ok (.int c) h:=by
 have:=m_cell B n ns h i j.toNat hx
 rw [show ((j.toNat:Nat):Int)=j by omega] at this
 exact ⟨_,cell_nn ns _,this⟩
theorem m_number_by (B n:Nat) (c m:Int) (h:AH) (hc:0≤c) (hm:1≤m):∃ v,0≤v∧v≤m∧callN fns B (n+1) i_law_number_by [.int c,.int m] h=.ok (.int v) h:=by
 rw [c_law_number_by]
 simp! only [b_law_number_by]
 rcases Bool.eq_false_or_eq_true (c % 4 == 0) with q | q
 ·have hp:(0:Int) < m+1:=by omega
  simp! only [q,if_pos hp]
  have h1:=Int.emod_nonneg (c / 4) (show (m+1:Int) ≠ 0 by omega)
  have h2:=Int.emod_lt_of_pos (c / 4) (show (0:Int) < m+1 by omega)
  exact ⟨_,h1,by omega,rfl⟩
 ·simp! only [q,b_law_number_by_2]
  rcases Bool.eq_false_or_eq_true (c % 4 == 1) with q | q
  ·simp! only [q]
   exact ⟨_,by omega,by omega,rfl⟩
  ·have hp:(0:Int) < (if m+1 < 40 then m+1 else 40):=by split <;> omega
   simp! only [q,b_law_number_by_1,if_pos hp]
   have h1:=Int.emod_nonneg (c / 4) (show (if m+1 < 40 then m+1 else 40:Int) ≠ 0 by omega)
   have h2:=Int.emod_lt_of_pos (c / 4) hp
   have h3:(if m+1 < 40 then m+1 else 40:Int)≤m+1:=by split <;> omega
   exact ⟨_,h1,by omega,rfl⟩
noncomputable def endL:List D→Int→Int
 | [],fl=>fl
 | d::r,_=>endL r (endOf d)
theorem spsF_snoc (d:D):∀ (xs:List D) (fl:Int),spsF (xs++[d]) fl=(spsF xs fl && spOk d (endL xs fl))
 | [],fl=>by simp [spsF,endL]
 | x::r,fl=>by simp only [List.cons_append,spsF,endL,spsF_snoc d r,Bool.and_assoc]
theorem endL_snoc (d:D):∀ (xs:List D) (fl:Int),endL (xs++[d]) fl=endOf d
 | [],fl=>rfl
 | x::r,fl=>by simp only [List.cons_append,endL,endL_snoc d r]
theorem goodL_app {n:AH}:∀ {xs ys:List D},goodL n xs=true→goodL n ys=true→goodL n (xs++ys)=true
 | [],ys,_,h=>h
 | x::r,ys,g,h=>by
  unfold goodL at g
  rw [Bool.and_eq_true] at g
  rw [List.cons_append,goodL,g.1,goodL_app g.2 h]
  rfl
theorem ixN_last (n:Nat):ixN (n+1) (-1)=some n:=by
 unfold ixN
 rw [if_neg (by omega),if_pos (by omega)]
 congr 1
 omega
theorem m_spans_by (B n:Nat) (c m:Int) (h:AH) (hc:0≤c) (hm:0≤m) (hm2:m≤999000):∃ xs f,callN fns B (n+1) i_law_spans_by [.int c,.int m] h=.ok (.tup xs) (h++f)∧goodL [] xs=true∧sps (.tup xs) m=true:=by
 rw [c_law_spans_by]
 obtain ⟨r,hr,hr2⟩:∃ r:Nat,c % 9=(r:Int)∧r≤8:=⟨(c % 9).toNat,by omega,by omega⟩
 have hs:small62 (r:Int):=by unfold small62; omega
 simp! only [b_law_spans_by,hr,if_pos hs,Int.toNat_natCast]
 obtain ⟨σ',h',e',xs,a,l,rfl,rfl,i1,i2,i3,i4,i5,i6⟩:=forRow_ex (fun k σ g=>∃ (xs:List D) (a:Int) (l:Option D),σ=[some (.int c),some (.int m),some (.ref h.length),some (.int a),l]∧g=h++[.lst xs]∧xs.length=k∧goodL [] xs=true∧spsF xs m=true∧endL xs m=a∧m≤a∧a≤m+42 * k)
  (turnOf (TG.nm 4) (denS (callN fns B n) B b_law_spans_by_1)) (rangeD 0 r) 0 [some (.int c),some (.int m),some (.ref h.length),some (.int m),none] (h++[.lst []]) ⟨[],m,none,rfl,rfl,rfl,rfl,rfl,rfl,by omega,by omega⟩
  (fun j x σ g hj ⟨xs,a,l,e1,e2,j1,j2,j3,j4,j5,j6⟩=>by
   obtain ⟨hjl,rfl⟩:=range_get hj
   subst e1
   subst e2
   rw [Nat.zero_add] at *
   have hb:mulOk (0+(j:Int)) (c / 99):=mulOk_l (by omega)
   have a1:=Int.emod_nonneg (c / 9+(0+(j:Int)) * (c / 99)) (show (30:Int) ≠ 0 by omega)
   have a2:=Int.emod_lt_of_pos (c / 9+(0+(j:Int)) * (c / 99)) (show (0:Int) < 30 by omega)
   generalize hA:(c / 9+(0+(j:Int)) * (c / 99)) % 30=A at a1 a2
   have b1:=Int.emod_nonneg (c / 270+(0+(j:Int))) (show (12:Int) ≠ 0 by omega)
   have b2:=Int.emod_lt_of_pos (c / 270+(0+(j:Int))) (show (0:Int) < 12 by omega)
   generalize hC:(c / 270+(0+(j:Int))) % 12=C at b1 b2
   have gg:(h++[O.lst xs])[h.length]?=some (.lst xs):=by simp
   have g2:∀ o,(h++[O.lst xs]).set h.length o=h++[o]:=by intro o; simp
   have il:(ixN (xs++[D.tup [.int (a+1+A),.int (a+1+A+1+C)]]).length (-1)).bind ((xs++[D.tup [.int (a+1+A),.int (a+1+A+1+C)]])[·]?)=some (D.tup [.int (a+1+A),.int (a+1+A+1+C)]):=by
    rw [List.length_append,List.length_cons,List.length_nil,Nat.zero_add,ixN_last,Option.bind_some]; simp
   have k1:(ixN 2 1).bind ([D.int (a+1+A),D.int (a+1+A+1+C)][·]?)=some (.int (a+1+A+1+C)):=rfl
   refine ⟨_,_,?_,xs++[D.tup [.int (a+1+A),.int (a+1+A+1+C)]],a+1+A+1+C,some (.int (0+j)),rfl,rfl,?_,?_,?_,?_,?_,?_⟩
   ·simp! only [b_law_spans_by_1,if_pos hb,hA,hC,getL_new,gg,j1,if_pos (show j < 16777216 by omega),g2,Option.bind_some,il,k1]
   ·rw [List.length_append,j1]; rfl
   ·exact goodL_app j2 rfl
   ·rw [spsF_snoc,j3,j4,Bool.true_and]
    simp only [spOk,inR,Bool.and_eq_true,decide_eq_true_eq]
    omega
   ·rw [endL_snoc]; rfl
   ·omega
   ·omega)
 rw [e']
 simp! only [b_law_spans_by_2,getL_new]
 refine ⟨xs,[.lst xs],rfl,i2,?_⟩
 rw [Nat.zero_add,range_len] at i1
 show (decide (xs.length≤8) && spsF xs m)=true
 rw [i3,decide_eq_true (by omega)]
 rfl
theorem pd_data (r:List D):pieceD (.tup (.str DATA::r))=daM r:=by
 show (if DATA=HELLO then hiM r else if DATA=DATA then daM r else if DATA=ENDW then enM r else if DATA=ANS then anM r else false)=_
 rw [if_neg (by decide),if_pos rfl]
theorem pd_end (r:List D):pieceD (.tup (.str ENDW::r))=enM r:=by
 show (if ENDW=HELLO then hiM r else if ENDW=DATA then daM r else if ENDW=ENDW then enM r else if ENDW=ANS then anM r else false)=_
 rw [if_neg (by decide),if_neg (by decide),if_pos rfl]
theorem pd_ans (r:List D):pieceD (.tup (.str ANS::r))=anM r:=by
 show (if ANS=HELLO then hiM r else if ANS=DATA then daM r else if ANS=ENDW then enM r else if ANS=ANS then anM r else false)=_
 rw [if_neg (by decide),if_neg (by decide),if_neg (by decide),if_pos rfl]
noncomputable def kinds:List Tx:=[HELLO,DATA,ENDW,ANS]
theorem m_piece_by (B n : Nat) (ns : List Int) (h : AH) (i : Nat) (j : Int) (h0 : 0 ≤ j) (hx : getL h i = some ((mixL 1 ns).map .int)) :
    ∃ w xs f, callN fns B (n + 3) i_law_piece_by [.ref i, .int j] h = .ok (.tup (.str w :: xs)) (h ++ f) ∧ w ∈ kinds ∧ goodL [] (.str w :: xs) = true ∧ 2 ≤ xs.length ∧ xs.length ≤ 6 ∧ pieceD (.tup (.str w :: xs)) = true := by
  rw [c_law_piece_by]
  obtain ⟨c0, p0, s0⟩ := m_cellI B (n + 1) ns h i j h0 hx
  obtain ⟨c1, p1, s1⟩ := m_cellI B (n + 1) ns h i (j + 1) (by omega) hx
  obtain ⟨c2, p2, s2⟩ := m_cellI B (n + 1) ns h i (j + 2) (by omega) hx
  obtain ⟨c3, p3, s3⟩ := m_cellI B (n + 1) ns h i (j + 3) (by omega) hx
  obtain ⟨c4, p4, s4⟩ := m_cellI B (n + 1) ns h i (j + 4) (by omega) hx
  obtain ⟨v1, u1, u1', t1⟩ := m_number_by B (n + 1) c1 999999999 h p1 (by omega)
  obtain ⟨v2, u2, u2', t2⟩ := m_number_by B (n + 1) c2 999999999 h p2 (by omega)
  obtain ⟨v3, u3, u3', t3⟩ := m_number_by B (n + 1) c3 999 h p3 (by omega)
  simp! only [b_law_piece_by, s0, s1, s2, s3, s4, t1, t2, t3]
  have hns : nsOk (.int (1 + v1)) (.int (1 + v2)) (.int v3) = true := by
    simp only [nsOk, inR, Bool.and_eq_true, decide_eq_true_eq]; omega
  rcases Bool.eq_false_or_eq_true (c0 % 4 == 0) with q | q
  · simp! only [q]
    refine ⟨HELLO, _, [], by rw [List.append_nil]; rfl, by decide, rfl, by simp, by simp, ?_⟩
    simp only [pieceD, if_true, hiM, hiOk, inR, Bool.and_eq_true, decide_eq_true_eq]
    omega
  · simp! only [q, b_law_piece_by_5]
    rcases Bool.eq_false_or_eq_true (c0 % 4 == 1) with q | q
    · obtain ⟨z, hz, hz2⟩ : ∃ z : Nat, c0 / 4 % 41 = (z : Int) ∧ z ≤ 40 := ⟨(c0 / 4 % 41).toNat, by omega, by omega⟩
      obtain ⟨v4, u4, u4', t4⟩ := m_number_by B (n + 1) c4 (1000000 - z) h p4 (by omega)
      have t5 := m_signs_by B n (c0 / 164) z h (by omega)
      simp! only [q, b_law_piece_by_1, hz, t4, t5]
      have hl : (signsBy (c0 / 164) z).length = z := by unfold signsBy; simp
      have hA : (signsBy (c0 / 164) z).all okC = true := by
        rw [List.all_eq_true]
        intro c hc
        obtain ⟨k, _, hk⟩ := List.mem_map.mp hc
        have := ALL_bd _ (sgn_mem (c0 / 164) k)
        rw [← hk]
        unfold okC
        simp [this]
      generalize signsBy (c0 / 164) z = x at hl hA
      refine ⟨DATA, _, [], by rw [List.append_nil]; rfl, by decide, ?_, by simp, by simp, ?_⟩
      · simp only [goodL, good, hl, Bool.and_true, Bool.true_and, decide_eq_true_eq, Bool.and_eq_true]
        exact ⟨by decide, by omega⟩
      · rw [pd_data]
        simp only [daM, hns, daOk, hA, hl, inR, Bool.true_and, Bool.and_eq_true, decide_eq_true_eq]
        omega
    · simp! only [q, b_law_piece_by_4]
      rcases Bool.eq_false_or_eq_true (c0 % 4 == 2) with q | q
      · obtain ⟨v4, u4, u4', t4⟩ := m_number_by B (n + 1) c4 1000000 h p4 (by omega)
        simp! only [q, t4]
        refine ⟨ENDW, _, [], by rw [List.append_nil]; rfl, by decide, rfl, by simp, by simp, ?_⟩
        rw [pd_end]
        simp only [enM, hns, inR, Bool.true_and, Bool.and_eq_true, decide_eq_true_eq]
        omega
      · obtain ⟨v4, u4, u4', t4⟩ := m_number_by B (n + 1) c4 1000001 h p4 (by omega)
        obtain ⟨v5, u5, u5', t5⟩ := m_number_by B (n + 1) (c0 / 4) 1000200 h (by omega) (by omega)
        simp! only [q, b_law_piece_by_3, t4, t5]
        have fin' : ∀ f, sps f v4 = true → pieceD (.tup [.str ANS, D.int (1 + v1), D.int (1 + v2), D.int v3, D.int v4, .int v5, f]) = true := fun f hf => by
          rw [pd_ans]
          simp only [anM, hns, anOk, hf, inR, Bool.true_and, Bool.and_true, Bool.and_eq_true, decide_eq_true_eq]
          omega
        by_cases h9 : 999000 < v4
        · simp! only [h9]
          exact ⟨ANS, _, [], by rw [List.append_nil]; rfl, by decide, rfl, by simp, by simp, fin' _ rfl⟩
        · obtain ⟨ys, f, t6, g6, k6⟩ := m_spans_by B (n + 1) (c4 / 7) v4 h (by omega) (by omega) (by omega)
          simp! only [h9, b_law_piece_by_2, t6]
          refine ⟨ANS, _, f, rfl, by decide, ?_, by simp, by simp, fin' _ k6⟩
          simp only [goodL, good, g6, Bool.and_true]
          decide
inductive La where
 | no | sg (y:Tx) | sp (l:List (Nat × Nat))
structure Pce where
 k:Tx
 ns:List Nat
 la:La
noncomputable def nsD (ns:List Nat):List D:=ns.map fun n:Nat=>D.int n
noncomputable def spD2 (p:Nat × Nat):D:=.tup [.int p.1,.int p.2]
noncomputable def laD:La→List D
 | .no=>[]
 | .sg y=>[.str y]
 | .sp l=>[.tup (l.map spD2)]
noncomputable def toD (p:Pce):D:=.tup (.str p.k::(nsD p.ns++laD p.la))
inductive Shp:Pce→Prop where
 | hello (a b:Nat):Shp ⟨HELLO,[a,b],.no⟩
 | data (a b c d:Nat) (y:Tx):y.all okC=true→y.length≤40→Shp ⟨DATA,[a,b,c,d],.sg y⟩
 | fin (a b c d:Nat):Shp ⟨ENDW,[a,b,c,d],.no⟩
 | ans (a b c d e:Nat) (l:List (Nat × Nat)):l.length≤8→(∀ q ∈ l,q.1≤1000000∧q.2≤1000000)→Shp ⟨ANS,[a,b,c,d,e],.sp l⟩
noncomputable def okP (p:Pce):Prop:=Shp p∧∀ n ∈ p.ns,n≤1000000000
theorem inR_nat {d:D} {lo hi:Int} (h:inR d lo hi=true) (h0:0≤lo):∃ n:Nat,d=.int n∧(n:Int)≤hi:=by
 cases d with
 | int i =>
  simp only [inR,Bool.and_eq_true,decide_eq_true_eq] at h
  exact ⟨i.toNat,by congr 1; omega,by omega⟩
 | _=>cases h
theorem sps_nat:∀ {xs:List D} {fl:Int},spsF xs fl=true→∃ l:List (Nat × Nat),xs=l.map spD2∧∀ q ∈ l,q.1≤1000000∧q.2≤1000000
 | [],_,_=>⟨[],rfl,fun q hq=>by cases hq⟩
 | d::r,fl,h=>by
  unfold spsF at h
  obtain ⟨h1,h2⟩:=Bool.and_eq_true_iff.mp h
  obtain ⟨i,j,rfl,_,_,h5,h6,h7⟩:=spOk_end h1
  obtain ⟨l,rfl,hl⟩:=sps_nat h2
  refine ⟨(i.toNat,j.toNat)::l,?_,fun q hq=>?_⟩
  ·rw [List.map_cons]
   unfold spD2
   rw [show ((i.toNat:Nat):Int)=i by omega,show ((j.toNat:Nat):Int)=j by omega]
  ·rcases List.mem_cons.mp hq with rfl | hq
   ·exact ⟨by show i.toNat≤_; omega,by show j.toNat≤_; omega⟩
   ·exact hl q hq
theorem ns_nat {a b c:D} (h:nsOk a b c=true):∃ x y z:Nat,a=.int x∧b=.int y∧c=.int z∧x≤1000000000∧y≤1000000000∧z≤1000000000:=by
 unfold nsOk at h
 simp only [Bool.and_eq_true] at h
 obtain ⟨x,rfl,h1⟩:=inR_nat h.1 (by omega)
 obtain ⟨y,rfl,h2⟩:=inR_nat h.2.1 (by omega)
 obtain ⟨z,rfl,h3⟩:=inR_nat h.2.2 (by omega)
 exact ⟨x,y,z,rfl,rfl,rfl,by omega,by omega,by omega⟩
theorem piece_of {d:D} (h:pieceD d=true):∃ p,d=toD p∧okP p:=by
 unfold pieceD at h
 split at h
 ·rename_i k r
  split at h
  ·rename_i e
   subst e
   unfold hiM at h
   split at h
   ·rename_i a b
    simp only [hiOk,Bool.and_eq_true] at h
    obtain ⟨x,rfl,h1⟩:=inR_nat h.1 (by omega)
    obtain ⟨y,rfl,h2⟩:=inR_nat h.2 (by omega)
    refine ⟨⟨HELLO,[x,y],.no⟩,rfl,.hello x y,fun n hn=>?_⟩
    simp only [List.mem_cons,List.not_mem_nil,or_false] at hn
    rcases hn with rfl | rfl <;> omega
   ·cases h
  split at h
  ·rename_i e
   subst e
   unfold daM at h
   split at h
   ·rename_i a b c d e
    obtain ⟨h1,h2⟩:=Bool.and_eq_true_iff.mp h
    obtain ⟨x,y,z,rfl,rfl,rfl,b1,b2,b3⟩:=ns_nat h1
    unfold daOk at h2
    split at h2
    ·rename_i i t
     simp only [inR,Bool.and_eq_true,decide_eq_true_eq] at h2
     obtain ⟨v,rfl⟩:∃ v:Nat,i=(v:Int):=⟨i.toNat,by omega⟩
     refine ⟨⟨DATA,[x,y,z,v],.sg t⟩,rfl,.data x y z v t h2.2.1 h2.2.2.1,fun n hn=>?_⟩
     simp only [List.mem_cons,List.not_mem_nil,or_false] at hn
     rcases hn with rfl | rfl | rfl | rfl <;> omega
    ·cases h2
   ·cases h
  split at h
  ·rename_i e
   subst e
   unfold enM at h
   split at h
   ·rename_i a b c d
    obtain ⟨h1,h2⟩:=Bool.and_eq_true_iff.mp h
    obtain ⟨x,y,z,rfl,rfl,rfl,b1,b2,b3⟩:=ns_nat h1
    obtain ⟨v,rfl,b4⟩:=inR_nat h2 (by omega)
    refine ⟨⟨ENDW,[x,y,z,v],.no⟩,rfl,.fin x y z v,fun n hn=>?_⟩
    simp only [List.mem_cons,List.not_mem_nil,or_false] at hn
    rcases hn with rfl | rfl | rfl | rfl <;> omega
   ·cases h
  split at h
  ·rename_i e
   subst e
   unfold anM at h
   split at h
   ·rename_i a b c d e f
    obtain ⟨h1,h2⟩:=Bool.and_eq_true_iff.mp h
    obtain ⟨x,y,z,rfl,rfl,rfl,b1,b2,b3⟩:=ns_nat h1
    unfold anOk at h2
    split at h2
    ·rename_i i
     simp only [Bool.and_eq_true] at h2
     obtain ⟨v,e1,b4⟩:=inR_nat h2.1 (by omega)
     obtain ⟨u,rfl,b5⟩:=inR_nat h2.2.1 (by omega)
     have h3:=h2.2.2
     unfold sps at h3
     split at h3
     ·rename_i xs
      obtain ⟨h4,h5⟩:=Bool.and_eq_true_iff.mp h3
      obtain ⟨l,rfl,hl⟩:=sps_nat h5
      rw [List.length_map] at h4
      cases e1
      refine ⟨⟨ANS,[x,y,z,v,u],.sp l⟩,rfl,.ans x y z v u l (of_decide_eq_true h4) hl,fun n hn=>?_⟩
      simp only [List.mem_cons,List.not_mem_nil,or_false] at hn
      rcases hn with rfl | rfl | rfl | rfl | rfl <;> omega
     ·cases h3
    ·cases h2
   ·cases h
  ·cases h
 ·cases h
noncomputable def spW1 (p:Nat × Nat):Tx:=joinT [45] [txN p.1,txN p.2]
noncomputable def spW:List (Nat × Nat)→Tx
 | []=>[45]
 | q::r=>joinT [44] ((q::r).map spW1)
noncomputable def laW:La→List Tx
 | .no=>[]
 | .sg y=>[txN y.length++[58]++y]
 | .sp l=>[spW l]
noncomputable def wds (p:Pce):List Tx:=p.k::(p.ns.map txN++laW p.la)
noncomputable def bod (p:Pce):Tx:=joinT [32] (wds p)
noncomputable def four (v:Int):Tx:=List.replicate (4 - (txN v.toNat).length) 48++txN v.toNat
noncomputable def wr (p:Pce):Tx:=bod p++[32]++four (chk 7 (bod p))
theorem chk_rng (x:Tx):∀ v:Int,0≤v→v < 9973→0≤chk v x∧chk v x < 9973:=by
 induction x with
 | nil=>intro v h1 h2; exact ⟨h1,h2⟩
 | cons c x ih =>
  intro v _ _
  exact ih _ (Int.emod_nonneg _ (by omega)) (Int.emod_lt_of_pos _ (by omega))
theorem joinT_len (c:Nat):∀ ws:List Tx,(joinT [c] ws).length≤(ws.map fun w=>w.length+1).sum
 | []=>Nat.le_refl _
 | [x]=>by show x.length≤x.length+1+0; omega
 | x::y::r=>by
  have:=joinT_len c (y::r)
  show (x++[c]++joinT [c] (y::r)).length≤x.length+1+((y::r).map fun w=>w.length+1).sum
  rw [List.length_append,List.length_append]
  simp only [List.length_cons,List.length_nil] at *
  omega
theorem txN_13 {m : Nat} (h : m ≤ 1000000000) : (txN m).length ≤ 10 := txN_len 9 (by have : (10 : Nat) ^ (9 + 1) = 10000000000 := by decide
                                                                                     omega)
theorem sum_le {α:Type} (f:α→Nat) (b:Nat):∀ l:List α,(∀ x ∈ l,f x≤b)→(l.map f).sum≤b * l.length
 | [],_=>by simp
 | x::l,h=>by
  have h1:=h x (List.mem_cons_self ..)
  have h2:=sum_le f b l fun y hy=>h y (List.mem_cons_of_mem _ hy)
  rw [List.map_cons,List.sum_cons,List.length_cons,Nat.mul_succ]
  omega
theorem spW1_len {q:Nat × Nat} (h:q.1≤1000000∧q.2≤1000000):(spW1 q).length≤22:=by
 have a:=txN_13 (m:=q.1) (by omega)
 have b:=txN_13 (m:=q.2) (by omega)
 have:=joinT_len 45 [txN q.1,txN q.2]
 simp only [List.map_cons,List.map_nil,List.sum_cons,List.sum_nil] at this
 unfold spW1
 omega
theorem laW_len {p:Pce} (h:okP p):∀ w ∈ laW p.la,w.length≤200:=by
 intro w hw
 cases h.1 with
 | hello a b=>cases hw
 | fin a b c d=>cases hw
 | data a b c d y h1 h2 =>
  have hw:w ∈ [txN y.length++[58]++y]:=hw
  rw [List.mem_singleton.mp hw,List.length_append,List.length_append]
  have:=txN_13 (m:=y.length) (by omega)
  simp only [List.length_cons,List.length_nil]
  omega
 | ans a b c d e l h1 h2 =>
  have hw:w ∈ [spW l]:=hw
  rw [List.mem_singleton.mp hw]
  cases l with
  | nil=>show 1≤200; omega
  | cons q r =>
   have h3:=joinT_len 44 ((q::r).map spW1)
   rw [List.map_map] at h3
   have h4:=sum_le ((fun w:Tx=>w.length+1) ∘ spW1) 23 (q::r) (fun x hx=>by have:=spW1_len (h2 x hx); show (spW1 x).length+1≤23; omega)
   show (joinT [44] ((q::r).map spW1)).length≤200
   omega
theorem kl {p:Pce} (h:Shp p):p.k.length≤6:=by
 cases h with
 | hello=>exact (by decide:HELLO.length≤6)
 | data=>exact (by decide:DATA.length≤6)
 | fin=>exact (by decide:ENDW.length≤6)
 | ans=>exact (by decide:ANS.length≤6)
theorem gsp:∀ l:List (Nat × Nat),goodL [] (l.map spD2)=true
 | []=>rfl
 | q::l=>by
  rw [List.map_cons]
  unfold goodL
  rw [gsp l,Bool.and_true]
  rfl
theorem bod_len {p:Pce} (h:okP p):(bod p).length≤400:=by
 have h1:=joinT_len 32 (wds p)
 have h2:=laW_len h
 unfold bod
 have h3:((wds p).map fun w=>w.length+1).sum=p.k.length+1+(((p.ns.map txN).map fun w=>w.length+1).sum+((laW p.la).map fun w=>w.length+1).sum):=by
  unfold wds
  rw [List.map_cons,List.sum_cons,List.map_append,List.sum_append]
 have h4:((p.ns.map txN).map fun w=>w.length+1).sum≤11 * p.ns.length:=by
  rw [List.map_map]
  exact sum_le _ 11 p.ns fun x hx=>by have:=txN_13 (h.2 x hx); show (txN x).length+1≤11; omega
 have h5:((laW p.la).map fun w=>w.length+1).sum≤201 * (laW p.la).length:=sum_le _ 201 _ fun x hx=>by have:=h2 x hx; omega
 have h6:p.k.length≤6∧p.ns.length≤5∧(laW p.la).length≤1:=by
  refine ⟨kl h.1,?_⟩
  cases h.1 <;> exact ⟨by simp,by simp [laW]⟩
 omega
theorem good_toD {p:Pce} (h:okP p):good [] (toD p)=true:=by
 have gn:∀ l:List Nat,∀ r:List D,goodL [] r=true→goodL [] (nsD l++r)=true:=fun l r hr=>by
  induction l with
  | nil=>exact hr
  | cons x l ih=>show (true && goodL [] (nsD l++r))=true; rw [ih]; rfl
 have gk:p.k.length≤1000:=Nat.le_trans (kl h.1) (by omega)
 unfold toD good goodL
 rw [Bool.and_eq_true]
 refine ⟨by unfold good; exact decide_eq_true gk,gn _ _ ?_⟩
 cases h.1 with
 | hello a b=>rfl
 | fin a b c d=>rfl
 | data a b c d y h1 h2 =>
  show goodL [] [.str y]=true
  unfold goodL goodL good
  rw [decide_eq_true (show y.length≤1000 by omega)]
  rfl
 | ans a b c d e l h1 h2 =>
  show goodL [] [.tup (l.map spD2)]=true
  unfold goodL goodL good
  rw [Bool.and_true]
  exact gsp l
theorem map_row_g (f:D→M (Option D)) (r:D→D):∀ (xs:List D) (h:AH),(∀ x ∈ xs,∀ h,∃ g,f x h=.ok (some (r x)) (h++g))→∃ g,mapRow f xs h=.ok (xs.map r) (h++g)
 | [],h,_=>⟨[],by rw [List.append_nil]; rfl⟩
 | x::xs,h,H=>by
  obtain ⟨g1,e1⟩:=H x (List.mem_cons_self ..) h
  obtain ⟨g2,e2⟩:=map_row_g f r xs (h++g1) fun y hy=>H y (List.mem_cons_of_mem _ hy)
  refine ⟨g1++g2,?_⟩
  show ((f x).bind fun y=>(mapRow f xs).bind fun ys=>M.ret (match y with | some y=>y::ys | none=>ys)) h=_
  simp only [M.bind_eq,e1,R.bind_ok,e2,M.ret_eq,List.append_assoc]
  rfl
theorem map_live_g (f:D→M (Option D)) (r:D→D) (i:Nat) (xs:List D) (H:∀ x ∈ xs,∀ h,getL h i=some xs→∃ g,f x h=.ok (some (r x)) (h++g)):∀ (n k:Nat) (h:AH),getL h i=some xs→n+k=xs.length+1→k≤xs.length→∃ g,mapLive f i n k h=.ok ((xs.drop k).map r) (h++g)
 | 0,k,h,hg,hn,hk=>by omega
 | n+1,k,h,hg,hn,hkl=>by
  unfold mapLive
  rw [hg]
  simp only
  by_cases hk:k < xs.length
  ·have e:xs[k]?=some xs[k]:=by simp [hk]
   rw [e]
   obtain ⟨g1,e1⟩:=H _ (List.getElem_mem hk) h hg
   obtain ⟨g2,e2⟩:=map_live_g f r i xs H n (k+1) (h++g1) (getL_app g1 hg) (by omega) hk
   refine ⟨g1++g2,?_⟩
   simp only [M.bind_eq,e1,R.bind_ok,e2,M.ret_eq]
   rw [List.drop_eq_getElem_cons hk,List.append_assoc]
   rfl
  ·have e:xs[k]?=none:=by simp; omega
   rw [e,List.drop_eq_nil_of_le (by omega)]
   exact ⟨[],by rw [List.append_nil]; rfl⟩
theorem map_it_g (f:D→M (Option D)) (r:D→D) (i:Nat) (xs:List D) (h:AH) (hg:getL h i=some xs) (hl:xs.length≤1000000) (H:∀ x ∈ xs,∀ h,getL h i=some xs→∃ g,f x h=.ok (some (r x)) (h++g)):∃ g,mapLive f i (liveN h i) 0 h=.ok (xs.map r) (h++g)∧liveN h i < 16777216:=by
 have e:liveN h i=xs.length+1:=by unfold liveN; rw [hg]; rfl
 obtain ⟨g,q⟩:=map_live_g f r i xs H (xs.length+1) 0 h hg rfl (Nat.zero_le _)
 rw [List.drop_zero] at q
 exact ⟨g,by rw [e]; exact q,by omega⟩
theorem strs_map:∀ ws:List Tx,strsOf (ws.map D.str)=some ws
 | []=>rfl
 | w::ws=>by
  show (strsOf (ws.map D.str)).map (w::·)=_
  rw [strs_map ws]
  rfl
theorem joinN_le (c b:Nat) (ws:List Tx) (h:∀ w ∈ ws,w.length≤b):joinN [c] ws≤(b+1) * ws.length:=by
 unfold joinN
 have:=sum_le List.length b ws h
 rw [Nat.add_mul]
 simp only [List.length_cons,List.length_nil]
 omega
theorem fig_nat (B n m:Nat) (hm:m≤1000000000000) (h:AH):callN fns B (n+1) i_figures [.int (m:Int)] h=.ok (.str (txN m)) h:=by
 have:=m_figures B n (m:Int) (by omega) (by omega) h
 rw [txI_nat] at this
 exact this
theorem m_nw (B n:Nat) (ns:List Nat) (hn:∀ x ∈ ns,x≤1000000000) (hl:ns.length≤10) (h:AH):callN fns B (n+2) i_number_words [.tup (nsD ns)] h=.ok (.ref h.length) (h++[.lst ((ns.map txN).map D.str)]):=by
 rw [c_number_words]
 have hm:mapRow (compF (den (callN fns B (n+1)) b_number_words_1) [some (.tup (nsD ns))]) (nsD ns) h=.ok ((ns.map txN).map D.str) h:=by
  have:=mapRow_pure (compF (den (callN fns B (n+1)) b_number_words_1) [some (.tup (nsD ns))]) (fun d=>match d with | .int i=>.str (txN i.toNat) | _=>.non) h (nsD ns) (fun x hx=>by
   obtain ⟨m,hm,rfl⟩:=List.mem_map.mp hx
   have:=fig_nat B n m (by have:=hn m hm; omega) h
   simp! only [compF_eq,b_number_words_1,this]
   rfl)
  rw [this]
  unfold nsD
  rw [List.map_map,List.map_map]
  rfl
 have l1:(nsD ns).length < 16777216:=by unfold nsD; rw [List.length_map]; omega
 have l2:((ns.map txN).map D.str).length≤16777216:=by rw [List.length_map,List.length_map]; omega
 simp! only [b_number_words,if_pos l1,hm,if_pos l2]
theorem m_sw (B n:Nat) (y:Tx) (hy:y.length≤40) (h:AH):callN fns B (n+2) i_signs_word [.str y] h=.ok (.str (txN y.length++[58]++y)) h:=by
 rw [c_signs_word]
 have e:=fig_nat B n y.length (by omega) h
 have a:=txN_13 (m:=y.length) (by omega)
 have e:callN fns B (n+1) 4 [.int (y.length:Int)] h=.ok (.str (txN y.length)) h:=e
 simp! only [b_signs_word,if_pos (show y.length≤16777216 by omega),e,if_pos (show (txN y.length).length+1≤16777216 by omega),List.length_append,if_pos (show (txN y.length).length+1+y.length≤16777216 by omega),show (txN y.length).length≤16777215 by omega]
theorem m_spw (B n:Nat) (l:List (Nat × Nat)) (h1:l.length≤8) (h2:∀ q ∈ l,q.1≤1000000∧q.2≤1000000) (h:AH):∃ g,callN fns B (n+3) i_spans_word [.tup (l.map spD2)] h=.ok (.str (spW l)) (h++g):=by
 rw [c_spans_word]
 cases l with
 | nil=>exact ⟨[],by rw [List.append_nil]; rfl⟩
 | cons q r =>
  obtain ⟨g,hm⟩:=map_row_g (compF (den (callN fns B (n+2)) b_spans_word_1) [some (.tup ((q::r).map spD2))]) (fun d=>match d with | .tup [.int i,.int j]=>.str (spW1 (i.toNat,j.toNat)) | _=>.non) ((q::r).map spD2) h (fun x hx h=>by
   obtain ⟨m,hm,rfl⟩:=List.mem_map.mp hx
   have b:=h2 m hm
   have e:=m_nw B n [m.1,m.2] (fun x hx=>by
    simp only [List.mem_cons,List.not_mem_nil,or_false] at hx
    rcases hx with rfl | rfl <;> omega) (by simp) h
   have e:callN fns B (n+2) 17 [spD2 m] h=.ok (.ref h.length) (h++[.lst (([m.1,m.2].map txN).map D.str)]):=e
   have j1:joinN [45] ([m.1,m.2].map txN)≤16777216:=by
    have:=joinN_le 45 20 ([m.1,m.2].map txN) (fun w hw=>by
     obtain ⟨z,hz,rfl⟩:=List.mem_map.mp hw
     simp only [List.mem_cons,List.not_mem_nil,or_false] at hz
     have:=txN_13 (m:=z) (by rcases hz with rfl | rfl <;> omega)
     omega)
    simp only [List.length_map,List.length_cons,List.length_nil] at this
    omega
   have gl:getL (h++[O.lst (([m.1,m.2].map txN).map D.str)]) h.length=some (([m.1,m.2].map txN).map D.str):=by rw [getL_len]; rfl
   refine ⟨[.lst (([m.1,m.2].map txN).map D.str)],?_⟩
   generalize hws:([m.1,m.2].map txN)=ws at *
   simp! only [compF_eq,b_spans_word_1,e,gl,Option.bind_some,strs_map,if_pos j1]
   rw [← hws]
   rfl)
  have e2:((q::r).map spD2).map (fun d=>match d with | .tup [.int i,.int j]=>D.str (spW1 (i.toNat,j.toNat)) | _=>.non)=((q::r).map spW1).map D.str:=by
   rw [List.map_map,List.map_map]
   rfl
  rw [e2] at hm
  have j2:joinN [44] ((q::r).map spW1)≤16777216:=by
   have:=joinN_le 44 30 ((q::r).map spW1) (fun w hw=>by
    obtain ⟨z,hz,rfl⟩:=List.mem_map.mp hw
    have:=spW1_len (h2 z hz)
    omega)
   rw [List.length_map] at this
   omega
  have l0:((((q::r).map spD2).length:Int) == 0)=false:=by
   rw [List.map_cons,List.length_cons]
   simp
   omega
  have l1:((q::r).map spD2).length < 16777216:=by rw [List.length_map]; omega
  have l2:(((q::r).map spW1).map D.str).length≤16777216:=by rw [List.length_map,List.length_map]; omega
  have sw:spW (q::r)=joinT [44] ((q::r).map spW1):=rfl
  rw [sw]
  generalize hws:(q::r).map spW1=ws at *
  generalize hxs:(q::r).map spD2=xs at *
  have gl:getL (h++g++[O.lst (ws.map D.str)]) (h++g).length=some (ws.map D.str):=by rw [getL_len]; rfl
  refine ⟨g++[.lst (ws.map D.str)],?_⟩
  rw [← List.append_assoc]
  simp! only [b_spans_word,l0,b_spans_word_2,if_pos l1,hm,if_pos l2,gl,Option.bind_some,strs_map,if_pos j2]
theorem body_eval (B n:Nat) (k:Tx) (ws:List Tx) (x0:D) (h:AH) (g:AH) (i:Nat) (hg:(h++g)[i]?=some (.lst (ws.map D.str))) (hk:k.length≤10) (hl:ws.length≤20) (hb:∀ w ∈ ws,w.length≤300):∃ g',denS (callN fns B n) B b_body_of_5 [some x0,some (.str k),some (.ref i)] (h++g)=.rt (.str (joinT [32] (k::ws))) (h++g'):=by
 have hg1:=List.getElem?_append_left (l₂:=[O.lst [D.str k]]) (List.getElem?_eq_some_iff.mp hg).1
 rw [hg] at hg1
 have lb:(h++g++[O.lst [D.str k]])[(h++g).length]?=some (O.lst [D.str k]):=by rw [get_len]; rfl
 have gl:getL (h++g++[O.lst [D.str k]]++[O.lst (D.str k::ws.map D.str)]) (h++g++[O.lst [D.str k]]).length=some (D.str k::ws.map D.str):=by rw [getL_len]; rfl
 have st:strsOf (D.str k::ws.map D.str)=some (k::ws):=strs_map (k::ws)
 have j1:joinN [32] (k::ws)≤16777216:=by
  have:=joinN_le 32 300 (k::ws) (fun w hw=>by
   rcases List.mem_cons.mp hw with rfl | hw
   ·omega
   ·exact hb w hw)
  rw [List.length_cons] at this
  omega
 refine ⟨g++[O.lst [D.str k]]++[O.lst (D.str k::ws.map D.str)],?_⟩
 rw [← List.append_assoc,← List.append_assoc]
 generalize h++g=G at *
 simp! only [b_body_of_5,if_pos (show 1≤16777216 by omega),lb,hg1,List.length_map,if_pos (show ws.length+1≤16777216 by omega),show ws.length≤16777215 by omega,gl,Option.bind_some,st,if_pos j1]
theorem m_body (B n:Nat) {p:Pce} (hp:okP p) (h:AH):∃ g,callN fns B (n+4) i_body_of [toD p] h=.ok (.str (bod p)) (h++g):=by
 rw [c_body_of]
 obtain ⟨sh,bd⟩:=hp
 have hp:okP p:=⟨sh,bd⟩
 have tx:∀ w ∈ p.ns.map txN,w.length≤300:=fun w hw=>by
  obtain ⟨z,hz,rfl⟩:=List.mem_map.mp hw
  have:=txN_13 (bd z hz)
  omega
 have lw:=laW_len hp
 cases sh with
 | hello a b =>
  have e:=m_nw B (n+1) [a,b] bd (by simp) h
  have e:callN fns B (n+3) 17 [.tup [.int a,.int b]] h=.ok (.ref h.length) (h++[.lst (([a,b].map txN).map D.str)]):=e
  have cx:cutX [D.str HELLO,.int a,.int b] (some 1) none=[.int a,.int b]:=rfl
  have ix:((ixN 3 0).bind fun j=>[D.str HELLO,.int a,.int b][j]?)=some (.str HELLO):=rfl
  obtain ⟨g',e2⟩:=body_eval B (n+3) HELLO ([a,b].map txN) (.tup [.str HELLO,.int a,.int b]) h [.lst (([a,b].map txN).map D.str)] h.length (by rw [get_len]; rfl) (by decide) (by simp) tx
  refine ⟨g',?_⟩
  show _=R.ok (D.str (joinT [32] (HELLO::[a,b].map txN))) _
  show Fy.fin (denS (callN fns B (n+3)) B b_body_of [some (.tup [.str HELLO,.int a,.int b]),none,none] h)=_
  generalize [a,b].map txN=ws at *
  simp! only [b_body_of,ix,show (HELLO == [100,97,116,97])=false from rfl,show (HELLO == [97,110,115,119,101,114])=false from rfl,b_body_of_4,b_body_of_3,cx,e,e2]
 | fin a b c d =>
  have e:=m_nw B (n+1) [a,b,c,d] bd (by simp) h
  have e:callN fns B (n+3) 17 [.tup [.int a,.int b,.int c,.int d]] h=.ok (.ref h.length) (h++[.lst (([a,b,c,d].map txN).map D.str)]):=e
  have cx:cutX [D.str ENDW,.int a,.int b,.int c,.int d] (some 1) none=[.int a,.int b,.int c,.int d]:=rfl
  have ix:((ixN 5 0).bind fun j=>[D.str ENDW,.int a,.int b,.int c,.int d][j]?)=some (.str ENDW):=rfl
  obtain ⟨g',e2⟩:=body_eval B (n+3) ENDW ([a,b,c,d].map txN) (.tup [.str ENDW,.int a,.int b,.int c,.int d]) h [.lst (([a,b,c,d].map txN).map D.str)] h.length (by rw [get_len]; rfl) (by decide) (by simp) tx
  refine ⟨g',?_⟩
  show _=R.ok (D.str (joinT [32] (ENDW::[a,b,c,d].map txN))) _
  show Fy.fin (denS (callN fns B (n+3)) B b_body_of [some (.tup [.str ENDW,.int a,.int b,.int c,.int d]),none,none] h)=_
  generalize [a,b,c,d].map txN=ws at *
  simp! only [b_body_of,ix,show (ENDW == [100,97,116,97])=false from rfl,show (ENDW == [97,110,115,119,101,114])=false from rfl,b_body_of_4,b_body_of_3,cx,e,e2]
 | data a b c d y h1 h2 =>
  have e:=m_nw B (n+1) [a,b,c,d] bd (by simp) h
  have e:callN fns B (n+3) 17 [.tup [.int a,.int b,.int c,.int d]] h=.ok (.ref h.length) (h++[.lst (([a,b,c,d].map txN).map D.str)]):=e
  have e3:=m_sw B (n+1) y h2 (h++[.lst (([a,b,c,d].map txN).map D.str)])
  have e3:callN fns B (n+3) 18 [.str y] (h++[.lst (([a,b,c,d].map txN).map D.str)])=.ok (.str (txN y.length++[58]++y)) (h++[.lst (([a,b,c,d].map txN).map D.str)]):=e3
  have cx:cutX [D.str DATA,.int a,.int b,.int c,.int d,.str y] (some 1) (some 5)=[.int a,.int b,.int c,.int d]:=rfl
  have ix:((ixN 6 0).bind fun j=>[D.str DATA,.int a,.int b,.int c,.int d,.str y][j]?)=some (.str DATA):=rfl
  have ix5:((ixN 6 5).bind fun j=>[D.str DATA,.int a,.int b,.int c,.int d,.str y][j]?)=some (.str y):=rfl
  have g1:∀ l:AH,(h++O.lst (([a,b,c,d].map txN).map D.str)::l)[h.length]?=some (O.lst (([a,b,c,d].map txN).map D.str)):=fun l=>by rw [get_len]; rfl
  have g2:(h++[O.lst (([a,b,c,d].map txN).map D.str),O.lst [D.str (txN y.length++[58]++y)]])[h.length+1]?=some (O.lst [D.str (txN y.length++[58]++y)]):=by rw [get_add]; rfl
  have ws:([a,b,c,d].map txN).map D.str++[D.str (txN y.length++[58]++y)]=([a,b,c,d].map txN++[txN y.length++[58]++y]).map D.str:=rfl
  have lw':=lw (txN y.length++[58]++y) (List.mem_singleton.mpr rfl)
  obtain ⟨g',e2⟩:=body_eval B (n+3) DATA ([a,b,c,d].map txN++[txN y.length++[58]++y]) (.tup [.str DATA,.int a,.int b,.int c,.int d,.str y]) h [O.lst (([a,b,c,d].map txN).map D.str),O.lst [D.str (txN y.length++[58]++y)],O.lst (([a,b,c,d].map txN++[txN y.length++[58]++y]).map D.str)] (h.length+2) (by rw [get_add]; rfl) (by decide) (by simp) (fun w hw=>by
   rcases List.mem_append.mp hw with hw | hw
   ·exact tx w hw
   ·rw [List.mem_singleton.mp hw]; omega)
  refine ⟨g',?_⟩
  show Fy.fin (denS (callN fns B (n+3)) B b_body_of [some (.tup [.str DATA,.int a,.int b,.int c,.int d,.str y]),none,none] h)=_
  have l2:(([a,b,c,d].map txN++[txN y.length++[58]++y]).map D.str).length≤16777216:=by
   have:(([a,b,c,d].map txN++[txN y.length++[58]++y]).map D.str).length=5:=rfl
   omega
  show _=R.ok (D.str (joinT [32] (DATA::([a,b,c,d].map txN++[txN y.length++[58]++y])))) _
  generalize [a,b,c,d].map txN++[txN y.length++[58]++y]=vs at *
  generalize ([a,b,c,d].map txN).map D.str=us at *
  generalize txN y.length++[58]++y=w at *
  simp! only [b_body_of,ix,show (DATA == [100,97,116,97])=true from rfl,b_body_of_1,cx,e,ix5,e3,if_pos (show 1≤16777216 by omega),List.append_assoc,List.length_append,g1,g2,ws,if_pos l2,e2]
 | ans a b c d f l h1 h2 =>
  have e:=m_nw B (n+1) [a,b,c,d,f] bd (by simp) h
  have e:callN fns B (n+3) 17 [.tup [.int a,.int b,.int c,.int d,.int f]] h=.ok (.ref h.length) (h++[.lst (([a,b,c,d,f].map txN).map D.str)]):=e
  obtain ⟨g3,e3⟩:=m_spw B n l h1 h2 (h++[.lst (([a,b,c,d,f].map txN).map D.str)])
  have e3:callN fns B (n+3) 19 [.tup (l.map spD2)] (h++[.lst (([a,b,c,d,f].map txN).map D.str)])=.ok (.str (spW l)) (h++[.lst (([a,b,c,d,f].map txN).map D.str)]++g3):=e3
  have cx:cutX [D.str ANS,.int a,.int b,.int c,.int d,.int f,.tup (l.map spD2)] (some 1) (some 6)=[.int a,.int b,.int c,.int d,.int f]:=rfl
  have ix:((ixN 7 0).bind fun j=>[D.str ANS,.int a,.int b,.int c,.int d,.int f,.tup (l.map spD2)][j]?)=some (.str ANS):=rfl
  have ix5:((ixN 7 6).bind fun j=>[D.str ANS,.int a,.int b,.int c,.int d,.int f,.tup (l.map spD2)][j]?)=some (.tup (l.map spD2)):=rfl
  have ws:([a,b,c,d,f].map txN).map D.str++[D.str (spW l)]=([a,b,c,d,f].map txN++[spW l]).map D.str:=rfl
  have lw':=lw (spW l) (List.mem_singleton.mpr rfl)
  have l2:(([a,b,c,d,f].map txN++[spW l]).map D.str).length≤16777216:=by
   have:(([a,b,c,d,f].map txN++[spW l]).map D.str).length=6:=rfl
   omega
  have tx':∀ w ∈ [a,b,c,d,f].map txN++[spW l],w.length≤300:=fun w hw=>by
   rcases List.mem_append.mp hw with hw | hw
   ·exact tx w hw
   ·rw [List.mem_singleton.mp hw]; omega
  have hl5:([a,b,c,d,f].map txN++[spW l]).length≤20:=by simp
  show ∃ g,Fy.fin (denS (callN fns B (n+3)) B b_body_of [some (.tup [.str ANS,.int a,.int b,.int c,.int d,.int f,.tup (l.map spD2)]),none,none] h)=R.ok (D.str (joinT [32] (ANS::([a,b,c,d,f].map txN++[spW l])))) (h++g)
  generalize [a,b,c,d,f].map txN++[spW l]=vs at *
  generalize ([a,b,c,d,f].map txN).map D.str=us at *
  generalize spW l=w at *
  generalize l.map spD2=xs at *
  generalize hG:h++[O.lst us]++g3=G at *
  have g1:∀ m:AH,(G++m)[h.length]?=some (O.lst us):=fun m=>by
   rw [← hG,List.append_assoc,List.append_assoc,get_len]; rfl
  have g2:(G++[O.lst [D.str w]])[G.length]?=some (O.lst [D.str w]):=by rw [get_len]; rfl
  obtain ⟨g',e2⟩:=body_eval B (n+3) ANS vs (.tup [.str ANS,.int a,.int b,.int c,.int d,.int f,.tup xs]) G [O.lst [D.str w],O.lst (vs.map D.str)] (G.length+1) (by rw [get_add]; rfl) (by decide) hl5 tx'
  refine ⟨[O.lst us]++g3++g',?_⟩
  rw [← List.append_assoc,← List.append_assoc,hG]
  simp! only [b_body_of,ix,show (ANS == [100,97,116,97])=false from rfl,show (ANS == [97,110,115,119,101,114])=true from rfl,b_body_of_4,b_body_of_2,cx,e,ix5,e3,if_pos (show 1≤16777216 by omega),List.append_assoc,List.length_append,g1,g2,ws,if_pos l2,e2]
theorem four_len (v : Int) (h0 : 0 ≤ v) (h1 : v < 9973) : (four v).length = 4 := by
  have := txN_len (m := v.toNat) 3 (by have : (10 : Nat) ^ (3 + 1) = 10000 := by decide
                                       omega)
  unfold four
  rw [List.length_append, List.length_replicate]
  omega
theorem m_written (B n:Nat) {p:Pce} (hp:okP p) (hd:pieceD (toD p)=true) (h:AH):∃ g,callN fns B (n+7) i_written [toD p] h=.ok (.str (wr p)) (h++g):=by
 rw [c_written]
 obtain ⟨g1,e1⟩:=m_is_piece B n (toD p) h (good_mono (le_nil h) _ (good_toD hp))
 rw [hd] at e1
 have e1:callN fns B (n+6) 16 [toD p] h=.ok (.bl true) (h++g1):=e1
 obtain ⟨g2,e2⟩:=m_body B (n+2) hp (h++g1)
 have e2:callN fns B (n+6) 20 [toD p] (h++g1)=.ok (.str (bod p)) (h++g1++g2):=e2
 have e3:=m_check_of B (n+5) (bod p) (h++g1++g2)
 have e3:callN fns B (n+6) 3 [.str (bod p)] (h++g1++g2)=.ok (.int (chk 7 (bod p))) (h++g1++g2):=e3
 obtain ⟨c0,c1⟩:=chk_rng (bod p) 7 (by omega) (by omega)
 have e4:=fig_nat B (n+5) (chk 7 (bod p)).toNat (by omega) (h++g1++g2)
 rw [show (((chk 7 (bod p)).toNat:Nat):Int)=chk 7 (bod p) by omega] at e4
 have e4:callN fns B (n+6) 4 [.int (chk 7 (bod p))] (h++g1++g2)=.ok (.str (txN (chk 7 (bod p)).toNat)) (h++g1++g2):=e4
 have tl:(txN (chk 7 (bod p)).toNat).length≤10:=txN_13 (by omega)
 have z:(0:Int)≤4∧(4:Int)≤1000∧isDig (txN (chk 7 (bod p)).toNat)=true∧(txN (chk 7 (bod p)).toNat).length≤1000:=⟨by omega,by omega,txN_dig _,by omega⟩
 have bl:=bod_len hp
 have f4:List.replicate ((4:Int).toNat - (txN (chk 7 (bod p)).toNat).length) 48++txN (chk 7 (bod p)).toNat=four (chk 7 (bod p)):=rfl
 have fl:=four_len (chk 7 (bod p)) c0 c1
 refine ⟨g1++g2,?_⟩
 rw [← List.append_assoc]
 unfold wr
 generalize four (chk 7 (bod p))=q at *
 generalize chk 7 (bod p)=v at *
 generalize txN v.toNat=t at *
 simp! only [b_written,e1,b_written_1,e2,e3,e4,if_pos z.2.2,f4,if_pos (show (bod p).length+1≤16777216 by omega),List.length_append,fl,if_pos (show (bod p).length+1+4≤16777216 by omega),show (bod p).length≤16777215 by omega,show (bod p).length≤16777211 by omega]
noncomputable def spl (c:Nat):Tx→Nat→Tx→List Tx
 | [],_,cur=>[cur]
 | x::r,0,cur=>[cur++x::r]
 | x::r,n+1,cur=>if x=c then cur::spl c r n [] else spl c r (n+1) (cur++[x])
noncomputable def partsG (a : Tx) (s : Nat) (cuts : List Nat) : List Tx := ((s :: cuts.map (· + 1)).zip (cuts ++ [a.length])).map fun p => (a.drop p.1).take (p.2 - p.1)
theorem parts_spl (a:Tx) (c:Nat):∀ (r:Tx) (k s n:Nat),a.drop k=r→s≤k→k≤a.length→partsG a s ((posC c k r).take n)=spl c r n ((a.drop s).take (k - s))
 | [],k,s,n,hr,hs,hk=>by
  have e:k=a.length:=by
   have:=congrArg List.length hr
   rw [List.length_drop] at this
   simp at this
   omega
  subst e
  show partsG a s (List.take n [])=_
  rw [List.take_nil]
  rfl
 | x::r,k,s,0,hr,hs,hk=>by
  show [(a.drop s).take (a.length - s)]=[(a.drop s).take (k - s)++x::r]
  rw [← hr,List.take_of_length_le (show (a.drop s).length≤a.length - s by rw [List.length_drop]; omega)]
  congr 1
  have:=List.take_append_drop (k - s) (a.drop s)
  rw [List.drop_drop,show s+(k - s)=k by omega] at this
  exact this.symm
 | x::r,k,s,n+1,hr,hs,hk=>by
  have hkl:k < a.length:=by
   have:=congrArg List.length hr
   rw [List.length_drop,List.length_cons] at this
   omega
  have hr':a.drop (k+1)=r:=by rw [← List.drop_drop,hr]; rfl
  unfold posC spl
  by_cases e:x=c
  ·rw [if_pos e,if_pos e,List.take_succ_cons]
   have ih:=parts_spl a c r (k+1) (k+1) n hr' (Nat.le_refl _) hkl
   rw [Nat.sub_self,List.take_zero] at ih
   rw [← ih]
   rfl
  ·rw [if_neg e,if_neg e,parts_spl a c r (k+1) s (n+1) hr' (by omega) hkl]
   congr 1
   have hx:a[k]?=some x:=by
    have:=List.getElem?_drop (xs:=a) (i:=k) (j:=0)
    rw [hr] at this
    simpa using this.symm
   rw [show k+1 - s=(k - s)+1 by omega,List.take_succ,List.getElem?_drop,show s+(k - s)=k by omega,hx]
   rfl
theorem parts_max (a:Tx) (c n:Nat):partsT a ((posC c 0 a).take n)=spl c a n []:=by
 have:=parts_spl a c a 0 0 n rfl (Nat.le_refl _) (Nat.zero_le _)
 rw [Nat.sub_zero,List.take_zero] at this
 exact this
theorem posC_le (c:Nat):∀ (k:Nat) (a:Tx),(posC c k a).length≤a.length
 | _,[]=>Nat.le_refl _
 | k,x::r=>by
  have:=posC_le c (k+1) r
  unfold posC
  split
  ·simp only [List.length_cons]; omega
  ·simp only [List.length_cons]; omega
noncomputable def splA (c:Nat) (a:Tx):List Tx:=spl c a a.length []
theorem parts_all (a:Tx) (c:Nat):partsT a (posC c 0 a)=splA c a:=by
 have:=parts_max a c a.length
 rw [List.take_of_length_le (posC_le c 0 a)] at this
 exact this
theorem spl_ne (c:Nat):∀ (r:Tx) (n:Nat) (cur:Tx),spl c r n cur ≠ []
 | [],_,_=>by simp [spl]
 | x::r,0,cur=>by simp [spl]
 | x::r,n+1,cur=>by
  unfold spl
  split
  ·simp
  ·exact spl_ne c r _ _
theorem spl_mem (c:Nat):∀ (r:Tx) (n:Nat) (cur:Tx),∀ w ∈ spl c r n cur,w.length≤cur.length+r.length
 | [],_,cur,w,hw=>by
  have hw:w ∈ [cur]:=hw
  rw [List.mem_singleton.mp hw]
  simp
 | x::r,0,cur,w,hw=>by
  have hw:w ∈ [cur++x::r]:=hw
  rw [List.mem_singleton.mp hw,List.length_append]
  exact Nat.le_refl _
 | x::r,n+1,cur,w,hw=>by
  unfold spl at hw
  rw [List.length_cons]
  split at hw
  ·rcases List.mem_cons.mp hw with rfl | hw
   ·omega
   ·have:=spl_mem c r n [] w hw
    simp only [List.length_nil] at this
    omega
  ·have:=spl_mem c r (n+1) (cur++[x]) w hw
   rw [List.length_append] at this
   simp only [List.length_cons,List.length_nil] at this
   omega
theorem spl_len (c:Nat):∀ (r:Tx) (n:Nat) (cur:Tx),(spl c r n cur).length≤r.length+1
 | [],_,_=>by simp [spl]
 | x::r,0,cur=>by simp [spl]
 | x::r,n+1,cur=>by
  unfold spl
  split
  ·have:=spl_len c r n []
   simp only [List.length_cons]
   omega
  ·have:=spl_len c r (n+1) (cur++[x])
   simp only [List.length_cons]
   omega
theorem m_numbers (B n:Nat) (ws:List Tx) (i:Nat) (h:AH) (hg:getL h i=some (ws.map D.str)) (hw:∀ w ∈ ws,w.length≤1000) (hl:ws.length≤2000):∃ g,callN fns B (n+3) i_numbers_of [.ref i] h=.ok (.tup (ws.map numOf)) (h++g):=by
 rw [c_numbers_of]
 obtain ⟨g,e1,e2⟩:=map_it_g (compF (den (callN fns B (n+2)) b_numbers_of_1) [some (.ref i)]) (fun d=>match d with | .str w=>numOf w | _=>.non) i (ws.map D.str) h hg (by rw [List.length_map]; omega) (fun x hx h hg=>by
  obtain ⟨w,hw',rfl⟩:=List.mem_map.mp hx
  obtain ⟨g,e⟩:=m_number_of B n w h (hw w hw')
  have e:callN fns B (n+2) 6 [.str w] h=.ok (numOf w) (h++g):=e
  exact ⟨g,by simp! only [compF_eq,b_numbers_of_1,e]⟩)
 have e3:(ws.map D.str).map (fun d=>match d with | .str w=>numOf w | _=>.non)=ws.map numOf:=by rw [List.map_map]; rfl
 rw [e3] at e1
 have l2:(ws.map numOf).length≤16777216:=by rw [List.length_map]; omega
 have gl:getL (h++g++[O.lst (ws.map numOf)]) (h++g).length=some (ws.map numOf):=by rw [getL_len]; rfl
 refine ⟨g++[.lst (ws.map numOf)],?_⟩
 rw [← List.append_assoc]
 simp! only [b_numbers_of,hg,if_pos e2,e1,if_pos l2,gl]
noncomputable def spanD (s:Tx):D:=.tup ((splA 45 s).map numOf)
noncomputable def spansD (w:Tx):D:=if w=[45] then .tup [] else .tup ((splA 44 w).map spanD)
theorem m_spans_of (B n:Nat) (w:Tx) (hw:w.length≤900) (h:AH):∃ g,callN fns B (n+4) i_spans_of [.str w] h=.ok (spansD w) (h++g):=by
 rw [c_spans_of]
 unfold spansD
 by_cases e:w=[45]
 ·rw [if_pos e,e]
  exact ⟨[],by rw [List.append_nil]; rfl⟩
 ·rw [if_neg e]
  have eb:(w == ([45]:Tx))=false:=beq_eq_false_iff_ne.mpr e
  have hl:=spl_len 44 w w.length []
  have hm:=spl_mem 44 w w.length []
  have pa:=parts_all w 44
  have l0:((splA 44 w).map D.str).length≤16777216:=by unfold splA; rw [List.length_map]; omega
  have gl0:getL (h++[O.lst ((splA 44 w).map D.str)]) h.length=some ((splA 44 w).map D.str):=by rw [getL_len]; rfl
  obtain ⟨g,e1,e2⟩:=map_it_g (compF (den (callN fns B (n+3)) b_spans_of_1) [some (.str w)]) (fun d=>match d with | .str w=>spanD w | _=>.non) h.length ((splA 44 w).map D.str) (h++[O.lst ((splA 44 w).map D.str)]) gl0 (by unfold splA; rw [List.length_map]; omega) (fun x hx h hg=>by
   obtain ⟨s,hs,rfl⟩:=List.mem_map.mp hx
   have sl:s.length≤900:=by
    have:=hm s hs
    simp only [List.length_nil] at this
    omega
   have pb:=parts_all s 45
   have kl:=spl_len 45 s s.length []
   have km:=spl_mem 45 s s.length []
   have l1:((splA 45 s).map D.str).length≤16777216:=by unfold splA; rw [List.length_map]; omega
   obtain ⟨g,e⟩:=m_numbers B n (splA 45 s) h.length (h++[O.lst ((splA 45 s).map D.str)]) (by rw [getL_len]; rfl) (fun w hw=>by have:=km w hw; simp only [List.length_nil] at this; omega) (by unfold splA; omega)
   have e:callN fns B (n+3) 22 [.ref h.length] (h++[O.lst ((splA 45 s).map D.str)])=.ok (spanD s) (h++[O.lst ((splA 45 s).map D.str)]++g):=e
   refine ⟨[O.lst ((splA 45 s).map D.str)]++g,?_⟩
   rw [← List.append_assoc]
   simp! only [compF_eq,b_spans_of_1,if_pos (show 45 < 256∧s.length≤1000000 by omega),pb,if_pos l1,e,show s.length≤1000000 by omega])
  have e3:((splA 44 w).map D.str).map (fun d=>match d with | .str w=>spanD w | _=>.non)=(splA 44 w).map spanD:=by rw [List.map_map]; rfl
  rw [e3] at e1
  have l2:((splA 44 w).map spanD).length≤16777216:=by unfold splA; rw [List.length_map]; omega
  generalize hG:h++[O.lst ((splA 44 w).map D.str)]++g=G at *
  have gl:getL (G++[O.lst ((splA 44 w).map spanD)]) G.length=some ((splA 44 w).map spanD):=by rw [getL_len]; rfl
  refine ⟨[O.lst ((splA 44 w).map D.str)]++g++[.lst ((splA 44 w).map spanD)],?_⟩
  rw [← List.append_assoc,← List.append_assoc,hG]
  simp! only [b_spans_of,eb,b_spans_of_2,if_pos (show 44 < 256∧w.length≤1000000 by omega),pa,if_pos l0,gl0,if_pos e2,e1,if_pos l2,gl,show w.length≤1000000 by omega]
noncomputable def lastW (ws:List Tx):Tx:=ws.getLastD []
noncomputable def aft (w:Tx):Tx:=match posC 58 0 w with
 | i::_=>w.drop (i+1)
 | []=>[]
theorem cut_mid1 {α:Type} (k:α) (r:List α):cutX (k::r) (some 1) (some (-1))=r.dropLast:=by
 unfold cutX cutN
 simp only [show ¬ (1:Int) < 0 by omega,if_false,show (-1:Int) < 0 by omega,if_true,List.length_cons]
 rw [List.dropLast_eq_take]
 have h1:min (1:Int).toNat (r.length+1)=1:=by show min 1 (r.length+1)=1; omega
 have h2:(-1+((r.length+1:Nat):Int)).toNat=r.length:=by omega
 rw [h1,h2]
 rfl
theorem cut_tail1 {α:Type} (k:α) (r:List α):cutX (k::r) (some 1) none=r:=by
 have:=cutD_from (k::r) 1
 exact this
theorem ix_last (k:Tx) (r:List Tx):((ixN ((k::r).map D.str).length (-1)).bind fun j=>((k::r).map D.str)[j]?)=some (.str (lastW (k::r))):=by
 have e:ixN ((k::r).map D.str).length (-1)=some r.length:=by
  rw [List.length_map,List.length_cons]
  unfold ixN
  rw [if_neg (by omega),if_pos (by omega)]
  congr 1
  omega
 rw [e,Option.bind_some,List.getElem?_map]
 have:(k::r)[r.length]?=some (lastW (k::r)):=by
  unfold lastW
  rw [List.getLastD_eq_getLast?,List.getLast?_eq_getElem?,List.length_cons,Nat.add_sub_cancel,List.getElem?_eq_getElem (by simp),Option.getD_some]
 rw [this]
 rfl
theorem ix_aft (w:Tx):((ixN ((partT w 58).map D.str).length 2).bind fun j=>((partT w 58).map D.str)[j]?)=some (.str (aft w)):=by
 unfold partT aft
 cases posC 58 0 w <;> rfl
theorem last_mem (k:Tx) (r:List Tx):lastW (k::r) ∈ k::r:=by
 unfold lastW
 rw [List.getLastD_eq_getLast?,List.getLast?_eq_some_getLast (by simp),Option.getD_some]
 exact List.getLast_mem _
noncomputable def partsD (b : Tx) : D := match splA 32 b with
  | [] => .non
  | k :: r => if k = DATA then (match spl 32 b 5 [] with
      | [] => .non
      | k5 :: r5 => .tup (.str k :: (r5.dropLast.map numOf ++ [.str (aft (lastW (k5 :: r5)))])))
    else if k = ANS then .tup (.str k :: (r.dropLast.map numOf ++ [spansD (lastW (k :: r))])) else .tup (.str k :: r.map numOf)
theorem m_parts (B n:Nat) (b:Tx) (hb:b.length≤900) (h:AH):∃ g,callN fns B (n+5) i_parts_of [.str b] h=.ok (partsD b) (h++g):=by
 rw [c_parts_of]
 have pa:=parts_all b 32
 have hl:=spl_len 32 b b.length []
 have hm:=spl_mem 32 b b.length []
 unfold partsD
 cases q:splA 32 b with
 | nil=>exact absurd q (spl_ne 32 b b.length [])
 | cons k r =>
  have hl:(k::r).length≤901:=by rw [← q]; unfold splA; omega
  have hm:∀ w ∈ k::r,w.length≤900:=fun w hw=>by
   have:=hm w (by unfold splA at q; rw [q]; exact hw)
   simp only [List.length_nil] at this
   omega
  rw [q] at pa
  have pa:(partsT b (posC 32 0 b)).map D.str=(k::r).map D.str:=by rw [pa]
  have l0:((k::r).map D.str).length≤16777216:=by rw [List.length_map]; omega
  have gl0:∀ m:AH,getL (h++O.lst ((k::r).map D.str)::m) h.length=some ((k::r).map D.str):=fun m=>by rw [getL_len]; rfl
  have ix0:((ixN ((k::r).map D.str).length 0).bind fun j=>((k::r).map D.str)[j]?)=some (.str k):=by
   have:=ixT (xs:=(k::r).map D.str) (k:=0) (d:=.str k) rfl
   exact this
  have ixl:=ix_last k r
  have s256:32 < 256∧b.length≤1000000:=by omega
  have cm:cutX ((k::r).map D.str) (some 1) (some (-1))=r.dropLast.map D.str:=by
   rw [List.map_cons,cut_mid1,List.map_dropLast]
  have ct:cutX ((k::r).map D.str) (some 1) none=r.map D.str:=by rw [List.map_cons,cut_tail1]
  have dl:r.dropLast.length≤900:=by rw [List.length_dropLast]; simp only [List.length_cons] at hl; omega
  have rl:r.length≤900:=by simp only [List.length_cons] at hl; omega
  by_cases e1:k=DATA
  ·simp only [if_pos e1]
   have eb:(k == ([100,97,116,97]:Tx))=true:=by rw [e1]; rfl
   have p5:=parts_max b 32 5
   cases q5:spl 32 b 5 [] with
   | nil=>exact absurd q5 (spl_ne 32 b 5 [])
   | cons k5 r5 =>
    have hl5:=spl_len 32 b 5 []
    have hm5:=spl_mem 32 b 5 []
    rw [q5] at p5 hl5 hm5
    have p5:(partsT b ((posC 32 0 b).take 5)).map D.str=(k5::r5).map D.str:=by rw [p5]
    have l5:((k5::r5).map D.str).length≤16777216:=by rw [List.length_map]; omega
    have cm5:cutX ((k5::r5).map D.str) (some 1) (some (-1))=r5.dropLast.map D.str:=by
     rw [List.map_cons,cut_mid1,List.map_dropLast]
    have ixl5:=ix_last k5 r5
    have dl5:r5.dropLast.length≤900:=by rw [List.length_dropLast]; simp only [List.length_cons] at hl5; omega
    have l6:(r5.dropLast.map D.str).length≤16777216:=by rw [List.length_map]; omega
    have ia:=ix_aft (lastW (k5::r5))
    have la:(lastW (k5::r5)).length≤1000000:=by
     have:=hm5 _ (last_mem k5 r5)
     simp only [List.length_nil] at this
     omega
    generalize hG:h++[O.lst ((k::r).map D.str),O.lst ((k5::r5).map D.str),O.lst (r5.dropLast.map D.str)]=G
    have gG:getL G (h.length+2)=some (r5.dropLast.map D.str):=by rw [← hG,getL_add]; rfl
    obtain ⟨g,e⟩:=m_numbers B (n+1) r5.dropLast (h.length+2) G gG (fun w hw=>by
     have:=hm5 w (List.mem_cons_of_mem _ (List.dropLast_subset _ hw))
     simp only [List.length_nil] at this
     omega) (by omega)
    have e:callN fns B (n+4) 22 [.ref (h.length+2)] G=.ok (.tup (r5.dropLast.map numOf)) (G++g):=e
    have g5:getL (G++g) (h.length+1)=some ((k5::r5).map D.str):=getL_app g (by rw [← hG,getL_add]; rfl)
    have gl5:∀ m:AH,getL (h++O.lst ((k::r).map D.str)::O.lst ((k5::r5).map D.str)::m) (h.length+1)=some ((k5::r5).map D.str):=fun m=>by rw [getL_add]; rfl
    refine ⟨[O.lst ((k::r).map D.str),O.lst ((k5::r5).map D.str),O.lst (r5.dropLast.map D.str)]++g,?_⟩
    rw [← List.append_assoc,hG]
    show _=R.ok (D.tup (D.str k::(r5.dropLast.map numOf++[D.str (aft (lastW (k5::r5)))]))) _
    have n1:(r5.dropLast.map numOf).length≤900:=by rw [List.length_map]; exact dl5
    generalize r5.dropLast.map numOf=ds at *
    generalize lastW (k5::r5)=lw at *
    generalize (k::r).map D.str=W at *
    generalize (k5::r5).map D.str=W5 at *
    generalize r5.dropLast.map D.str=W6 at *
    simp! only [b_parts_of,if_pos s256,s256.2,pa,if_pos l0,gl0,Option.bind_some,ix0,eb,b_parts_of_1,if_pos (show ((32 < 256∧b.length≤1000000)∧(0:Int)≤5∧(5:Int)≤1000000) by omega),show (5:Int).toNat=5 from rfl,p5,if_pos l5,List.append_assoc,List.length_append,if_pos (show 1≤16777216 by omega),gl5,cm5,if_pos l6,hG,e,g5,ixl5,la,ia,if_pos (show 1+ds.length≤16777216 by omega),if_pos (show ds.length+1+1≤16777216 by omega),show ds.length≤16777214 by omega]
  ·simp only [if_neg e1]
   have eb:(k == ([100,97,116,97]:Tx))=false:=beq_eq_false_iff_ne.mpr e1
   by_cases e2:k=ANS
   ·simp only [if_pos e2]
    have eb2:(k == ([97,110,115,119,101,114]:Tx))=true:=by rw [e2]; rfl
    have l6:(r.dropLast.map D.str).length≤16777216:=by rw [List.length_map]; omega
    have la:=hm _ (last_mem k r)
    generalize hG:h++[O.lst ((k::r).map D.str),O.lst (r.dropLast.map D.str)]=G
    have gG:getL G (h.length+1)=some (r.dropLast.map D.str):=by rw [← hG,getL_add]; rfl
    obtain ⟨g,e⟩:=m_numbers B (n+1) r.dropLast (h.length+1) G gG (fun w hw=>by
     have:=hm w (List.mem_cons_of_mem _ (List.dropLast_subset _ hw))
     omega) (by omega)
    have e:callN fns B (n+4) 22 [.ref (h.length+1)] G=.ok (.tup (r.dropLast.map numOf)) (G++g):=e
    obtain ⟨g3,e3⟩:=m_spans_of B n (lastW (k::r)) la (G++g)
    have e3:callN fns B (n+4) 23 [.str (lastW (k::r))] (G++g)=.ok (spansD (lastW (k::r))) (G++g++g3):=e3
    have g5:getL (G++g) h.length=some ((k::r).map D.str):=getL_app g (by rw [← hG,getL_len]; rfl)
    refine ⟨[O.lst ((k::r).map D.str),O.lst (r.dropLast.map D.str)]++g++g3,?_⟩
    rw [← List.append_assoc,← List.append_assoc,hG]
    have n1:(r.dropLast.map numOf).length≤900:=by rw [List.length_map]; exact dl
    generalize r.dropLast.map numOf=ds at *
    generalize lastW (k::r)=lw at *
    generalize (k::r).map D.str=W at *
    generalize r.dropLast.map D.str=W6 at *
    generalize spansD lw=sd at *
    simp! only [b_parts_of,if_pos s256,s256.2,pa,if_pos l0,gl0,Option.bind_some,ix0,eb,b_parts_of_3,eb2,List.append_assoc,List.length_append,if_pos (show 1≤16777216 by omega),cm,if_pos l6,hG,e,g5,ixl,e3,if_pos (show 1+ds.length≤16777216 by omega),if_pos (show ds.length+1+1≤16777216 by omega),show ds.length≤16777214 by omega]
   ·simp only [if_neg e2]
    have eb2:(k == ([97,110,115,119,101,114]:Tx))=false:=beq_eq_false_iff_ne.mpr e2
    have l6:(r.map D.str).length≤16777216:=by rw [List.length_map]; omega
    generalize hG:h++[O.lst ((k::r).map D.str),O.lst (r.map D.str)]=G
    have gG:getL G (h.length+1)=some (r.map D.str):=by rw [← hG,getL_add]; rfl
    obtain ⟨g,e⟩:=m_numbers B (n+1) r (h.length+1) G gG (fun w hw=>by
     have:=hm w (List.mem_cons_of_mem _ hw)
     omega) (by omega)
    have e:callN fns B (n+4) 22 [.ref (h.length+1)] G=.ok (.tup (r.map numOf)) (G++g):=e
    refine ⟨[O.lst ((k::r).map D.str),O.lst (r.map D.str)]++g,?_⟩
    rw [← List.append_assoc,hG]
    have n1:(r.map numOf).length≤900:=by rw [List.length_map]; exact rl
    generalize r.map numOf=ds at *
    generalize (k::r).map D.str=W at *
    generalize r.map D.str=W6 at *
    simp! only [b_parts_of,if_pos s256,s256.2,pa,if_pos l0,gl0,Option.bind_some,ix0,eb,b_parts_of_3,eb2,b_parts_of_2,List.append_assoc,List.length_append,if_pos (show 1≤16777216 by omega),ct,if_pos l6,hG,e,if_pos (show 1+ds.length≤16777216 by omega),show ds.length≤16777215 by omega]
theorem good_map {α:Type} (f:α→D) (hf:∀ x,good [] (f x)=true):∀ l:List α,goodL [] (l.map f)=true
 | []=>rfl
 | x::l=>by
  rw [List.map_cons]
  unfold goodL
  rw [hf x,good_map f hf l]
  rfl
theorem good_num (x:Tx):good [] (numOf x)=true:=by
 unfold numOf
 split
 ·split <;> (unfold good; rfl)
 ·unfold good; rfl
theorem good_span (s:Tx):good [] (spanD s)=true:=by
 unfold spanD good
 exact good_map numOf good_num _
theorem good_spans (w:Tx):good [] (spansD w)=true:=by
 unfold spansD
 split
 ·rfl
 ·unfold good
  exact good_map spanD good_span _
theorem goodL_two {xs ys:List D} (h1:goodL [] xs=true) (h2:goodL [] ys=true):goodL [] (xs++ys)=true:=goodL_app h1 h2
theorem good_parts (b:Tx) (hb:b.length≤900):good [] (partsD b)=true:=by
 unfold partsD
 have hm:=spl_mem 32 b b.length []
 cases q:splA 32 b with
 | nil=>rfl
 | cons k r =>
  have hk:k.length≤1000:=by
   have:=hm k (by unfold splA at q; rw [q]; exact List.mem_cons_self ..)
   simp only [List.length_nil] at this
   omega
  have gk:good [] (.str k)=true:=by unfold good; exact decide_eq_true hk
  have c1:∀ ds:List D,goodL [] ds=true→good [] (.tup (.str k::ds))=true:=fun ds hd=>by
   unfold good goodL
   rw [gk,hd]
   rfl
  simp only
  split
  ·have hm5:=spl_mem 32 b 5 []
   cases q5:spl 32 b 5 [] with
   | nil=>rfl
   | cons k5 r5 =>
    refine c1 _ (goodL_two (good_map numOf good_num _) ?_)
    have:(aft (lastW (k5::r5))).length≤1000:=by
     rw [q5] at hm5
     have:=hm5 _ (last_mem k5 r5)
     simp only [List.length_nil] at this
     unfold aft
     split
     ·rw [List.length_drop]; omega
     ·simp
    unfold goodL goodL good
    rw [decide_eq_true this]
    rfl
  ·split
   ·refine c1 _ (goodL_two (good_map numOf good_num _) ?_)
    unfold goodL goodL
    rw [good_spans]
    rfl
   ·exact c1 _ (good_map numOf good_num _)
noncomputable def rb (x:Tx):Tx:=match lastC 32 0 x with
 | some i=>x.take i
 | none=>[]
theorem ix_rb (x:Tx):((ixN ((rpartT x 32).map D.str).length 0).bind fun j=>((rpartT x 32).map D.str)[j]?)=some (.str (rb x)):=by
 unfold rpartT rb
 cases lastC 32 0 x <;> rfl
theorem rb_len (x:Tx):(rb x).length≤x.length:=by
 unfold rb
 split
 ·rw [List.length_take]; omega
 ·simp
noncomputable abbrev xSp:Nat:=91742370622580
theorem m_read_no (B n:Nat) (x:Tx) (hx:x.all okC=true) (hl:x.length≤900) (hno:∀ p,okP p→wr p ≠ x) (h:AH):∃ g,callN fns B (n+8) i_read [.str x] h=.exc xSp (h++g):=by
 rw [c_read]
 have e1:=m_is_signs B (n+5) x h (by omega)
 rw [hx] at e1
 generalize hH:h++[.lst (x.map fun c=>.bl (okC c))]=H at e1
 have e1:callN fns B (n+7) 1 [.str x] h=.ok (.bl true) H:=e1
 have ir:=ix_rb x
 have rl:=rb_len x
 obtain ⟨g2,e2⟩:=m_parts B (n+2) (rb x) (by omega) H
 have e2:callN fns B (n+7) 24 [.str (rb x)] H=.ok (partsD (rb x)) (H++g2):=e2
 obtain ⟨g3,e3⟩:=m_is_piece B (n+1) (partsD (rb x)) (H++g2) (good_mono (le_nil _) _ (good_parts (rb x) (by omega)))
 have e3:callN fns B (n+7) 16 [partsD (rb x)] (H++g2)=.ok (.bl (pieceD (partsD (rb x)))) (H++g2++g3):=e3
 cases q:pieceD (partsD (rb x)) with
 | false =>
  rw [q] at e3
  refine ⟨[.lst (x.map fun c=>.bl (okC c))]++g2++g3,?_⟩
  rw [← List.append_assoc,← List.append_assoc,hH]
  generalize partsD (rb x)=d at *
  generalize rb x=r at *
  simp! only [b_read,e1,b_read_2,if_pos (show x.length≤1000000 by omega),ir,e2,e3]
 | true =>
  rw [q] at e3
  obtain ⟨p,ep,hp⟩:=piece_of q
  obtain ⟨g4,e4⟩:=m_written B n hp (by rw [← ep]; exact q) (H++g2++g3)
  rw [← ep] at e4
  have e4:callN fns B (n+7) 21 [partsD (rb x)] (H++g2++g3)=.ok (.str (wr p)) (H++g2++g3++g4):=e4
  have ne:(wr p == x)=false:=beq_eq_false_iff_ne.mpr (hno p hp)
  refine ⟨[.lst (x.map fun c=>.bl (okC c))]++g2++g3++g4,?_⟩
  rw [← List.append_assoc,← List.append_assoc,← List.append_assoc,hH]
  generalize wr p=wp at *
  generalize partsD (rb x)=d at *
  generalize rb x=r at *
  simp! only [b_read,e1,b_read_2,if_pos (show x.length≤1000000 by omega),ir,e2,e3,e4,ne]
theorem m_read_ok (B n:Nat) {p:Pce} (hp:okP p) (hd:pieceD (toD p)=true) (hx:(wr p).all okC=true) (hl:(wr p).length≤900) (hparse:partsD (rb (wr p))=toD p) (h:AH):∃ g,callN fns B (n+8) i_read [.str (wr p)] h=.ok (toD p) (h++g):=by
 rw [c_read]
 have e1:=m_is_signs B (n+5) (wr p) h (by omega)
 rw [hx] at e1
 generalize hH:h++[.lst ((wr p).map fun c=>.bl (okC c))]=H at e1
 have e1:callN fns B (n+7) 1 [.str (wr p)] h=.ok (.bl true) H:=e1
 have ir:=ix_rb (wr p)
 have rl:=rb_len (wr p)
 obtain ⟨g2,e2⟩:=m_parts B (n+2) (rb (wr p)) (by omega) H
 rw [hparse] at e2
 have e2:callN fns B (n+7) 24 [.str (rb (wr p))] H=.ok (toD p) (H++g2):=e2
 obtain ⟨g3,e3⟩:=m_is_piece B (n+1) (toD p) (H++g2) (good_mono (le_nil _) _ (good_toD hp))
 rw [hd] at e3
 have e3:callN fns B (n+7) 16 [toD p] (H++g2)=.ok (.bl true) (H++g2++g3):=e3
 obtain ⟨g4,e4⟩:=m_written B n hp hd (H++g2++g3)
 have e4:callN fns B (n+7) 21 [toD p] (H++g2++g3)=.ok (.str (wr p)) (H++g2++g3++g4):=e4
 refine ⟨[.lst ((wr p).map fun c=>.bl (okC c))]++g2++g3++g4,?_⟩
 rw [← List.append_assoc,← List.append_assoc,← List.append_assoc,hH]
 generalize wr p=wp at *
 generalize toD p=d at *
 generalize rb wp=r at *
 simp! only [b_read,e1,b_read_2,if_pos (show wp.length≤1000000 by omega),ir,e2,e3,e4,b_read_1]
theorem spl_word {c:Nat} {r:Tx} {n:Nat}:∀ (w cur:Tx),c ∉ w→spl c (w++c::r) (n+1) cur=(cur++w)::spl c r n []
 | [],cur,_=>by
  show spl c (c::r) (n+1) cur=_
  rw [spl,if_pos rfl,List.append_nil]
 | x::w,cur,h=>by
  have h1:x ≠ c:=fun e=>h (by rw [e]; exact List.mem_cons_self ..)
  have ih:=spl_word (r:=r) (n:=n) w (cur++[x]) (fun z=>h (List.mem_cons_of_mem _ z))
  show spl c (x::(w++c::r)) (n+1) cur=_
  rw [spl,if_neg h1,ih]
  simp
theorem spl_end {c:Nat}:∀ (w:Tx) (n:Nat) (cur:Tx),c ∉ w→spl c w n cur=[cur++w]
 | [],n,cur,_=>by show [cur]=_; rw [List.append_nil]
 | x::w,0,cur,_=>rfl
 | x::w,n+1,cur,h=>by
  have h1:x ≠ c:=fun e=>h (by rw [e]; exact List.mem_cons_self ..)
  rw [spl,if_neg h1,spl_end w (n+1) (cur++[x]) (fun z=>h (List.mem_cons_of_mem _ z))]
  simp
theorem joinT_cons (c:Nat) (w:Tx):∀ ws:List Tx,ws ≠ []→joinT [c] (w::ws)=w++c::joinT [c] ws
 | [],h=>absurd rfl h
 | v::r,_=>by
  show w++[c]++joinT [c] (v::r)=_
  rw [List.append_assoc]
  rfl
theorem spl_join {c:Nat}:∀ (ws:List Tx) (w:Tx) (n:Nat),(∀ v ∈ w::ws,c ∉ v)→ws.length≤n→spl c (joinT [c] (w::ws)) n []=w::ws
 | [],w,n,h,_=>by
  show spl c w n []=_
  rw [spl_end w n [] (h w (List.mem_cons_self ..))]
  rfl
 | v::r,w,0,h,hn=>by simp at hn
 | v::r,w,n+1,h,hn=>by
  rw [joinT_cons c w (v::r) (by simp),spl_word w [] (h w (List.mem_cons_self ..)),spl_join r v n (fun u hu=>h u (List.mem_cons_of_mem _ hu)) (by simpa using hn)]
  rfl
theorem spl_last {c:Nat} (l:Tx):∀ ws:List Tx,(∀ v ∈ ws,c ∉ v)→spl c (joinT [c] (ws++[l])) ws.length []=ws++[l]
 | [],_=>by
  show spl c l 0 []=[l]
  cases l <;> rfl
 | w::ws,h=>by
  rw [List.cons_append,joinT_cons c w (ws++[l]) (by simp),List.length_cons,spl_word w [] (h w (List.mem_cons_self ..)),spl_last l ws fun v hv=>h v (List.mem_cons_of_mem _ hv)]
  rfl
theorem joinT_sep (c:Nat):∀ (ws:List Tx) (w:Tx),ws.length+w.length≤(joinT [c] (w::ws)).length
 | [],w=>by show 0+w.length≤w.length; omega
 | v::r,w=>by
  have:=joinT_sep c r v
  rw [joinT_cons c w (v::r) (by simp),List.length_append,List.length_cons,List.length_cons]
  omega
theorem splA_join {c:Nat} (w:Tx) (ws:List Tx) (h:∀ v ∈ w::ws,c ∉ v):splA c (joinT [c] (w::ws))=w::ws:=spl_join ws w _ h (by have:=joinT_sep c ws w; omega)
theorem mem_joinT {c x:Nat}:∀ ws:List Tx,x ∈ joinT [c] ws→x=c ∨ ∃ w ∈ ws,x ∈ w
 | [],h=>by cases h
 | [w],h=>.inr ⟨w,List.mem_cons_self ..,h⟩
 | w::v::r,h=>by
  rw [joinT_cons c w (v::r) (by simp),List.mem_append,List.mem_cons] at h
  rcases h with h | h | h
  ·exact .inr ⟨w,List.mem_cons_self ..,h⟩
  ·exact .inl h
  ·rcases mem_joinT (v::r) h with h | ⟨u,hu,h⟩
   ·exact .inl h
   ·exact .inr ⟨u,List.mem_cons_of_mem _ hu,h⟩
theorem txN_mem {m x:Nat} (h:x ∈ txN m):48≤x∧x≤57:=by
 have:=txN_dig m
 unfold isDig at this
 rw [List.all_eq_true] at this
 exact of_decide_eq_true (this x h)
theorem spW1_mem {q:Nat × Nat} {x:Nat} (h:x ∈ spW1 q):x=45 ∨ (48≤x∧x≤57):=by
 rcases mem_joinT _ h with h | ⟨w,hw,h⟩
 ·exact .inl h
 ·simp only [List.mem_cons,List.not_mem_nil,or_false] at hw
  rcases hw with rfl | rfl
  ·exact .inr (txN_mem h)
  ·exact .inr (txN_mem h)
theorem spW_mem {l:List (Nat × Nat)} {x:Nat} (h:x ∈ spW l):x=44 ∨ x=45 ∨ (48≤x∧x≤57):=by
 cases l with
 | nil=>have h:x ∈ [45]:=h; rw [List.mem_singleton.mp h]; omega
 | cons q r =>
  rcases mem_joinT _ h with h | ⟨w,hw,h⟩
  ·exact .inl h
  ·obtain ⟨z,_,rfl⟩:=List.mem_map.mp hw
   exact .inr (spW1_mem h)
theorem spanD_ok {q:Nat × Nat} (h:q.1≤1000000∧q.2≤1000000):spanD (spW1 q)=spD2 q:=by
 have e:splA 45 (spW1 q)=[txN q.1,txN q.2]:=splA_join (txN q.1) [txN q.2] fun v hv=>by
  simp only [List.mem_cons,List.not_mem_nil,or_false] at hv
  rcases hv with rfl | rfl
  ·exact fun z=>by have:=txN_mem z; omega
  ·exact fun z=>by have:=txN_mem z; omega
 unfold spanD spD2
 rw [e,List.map_cons,List.map_cons,List.map_nil,num_fig q.1 (by omega),num_fig q.2 (by omega)]
theorem spansD_ok (l:List (Nat × Nat)) (h:∀ q ∈ l,q.1≤1000000∧q.2≤1000000):spansD (spW l)=.tup (l.map spD2):=by
 cases l with
 | nil=>rfl
 | cons q r =>
  have e:splA 44 (spW (q::r))=(q::r).map spW1:=splA_join (spW1 q) (r.map spW1) fun v hv=>by
   have hv:v ∈ (q::r).map spW1:=hv
   obtain ⟨z,_,rfl⟩:=List.mem_map.mp hv
   exact fun z=>by have:=spW1_mem z; omega
  have ne:spW (q::r) ≠ [45]:=fun z=>by
   have h1:=joinT_sep 44 (r.map spW1) (spW1 q)
   have h2:=joinT_sep 45 [txN q.2] (txN q.1)
   have h3:=List.length_pos_iff.mpr (txN_ne q.1)
   have h4:(spW (q::r)).length=1:=by rw [z]; rfl
   have h5:(spW (q::r)).length=(joinT [44] (spW1 q::r.map spW1)).length:=rfl
   have h6:(spW1 q).length=(joinT [45] [txN q.1,txN q.2]).length:=rfl
   simp only [List.length_cons,List.length_nil] at h2
   omega
  unfold spansD
  rw [if_neg ne,e,List.map_map]
  congr 1
  apply List.map_congr_left
  intro z hz
  exact spanD_ok (h z hz)
theorem posC_word {c:Nat} {r:Tx}:∀ (w:Tx) (k:Nat),c ∉ w→∃ t,posC c k (w++c::r)=(k+w.length)::t
 | [],k,_=>⟨posC c (k+1) r,by show posC c k (c::r)=_; rw [posC,if_pos rfl]; rfl⟩
 | x::w,k,h=>by
  have h1:x ≠ c:=fun e=>h (by rw [e]; exact List.mem_cons_self ..)
  obtain ⟨t,ht⟩:=posC_word (r:=r) w (k+1) (fun z=>h (List.mem_cons_of_mem _ z))
  refine ⟨t,?_⟩
  show posC c k (x::(w++c::r))=_
  rw [posC,if_neg h1,ht,List.length_cons]
  congr 1
  omega
theorem aft_ok (m:Nat) (y:Tx):aft (txN m++[58]++y)=y:=by
 obtain ⟨t,ht⟩:=posC_word (c:=58) (r:=y) (txN m) 0 (fun z=>by have:=txN_mem z; omega)
 unfold aft
 rw [List.append_assoc]
 show (match posC 58 0 (txN m++58::y) with | i::_=>(txN m++58::y).drop (i+1) | []=>[])=y
 rw [ht]
 simp only
 rw [Nat.zero_add,← List.drop_drop,List.drop_left]
 rfl
theorem lastC_no {c:Nat}:∀ (r:Tx) (k:Nat),c ∉ r→lastC c k r=none
 | [],_,_=>rfl
 | x::r,k,h=>by
  have h1:x ≠ c:=fun e=>h (by rw [e]; exact List.mem_cons_self ..)
  rw [lastC,lastC_no r (k+1) (fun z=>h (List.mem_cons_of_mem _ z))]
  simp only
  rw [if_neg h1]
theorem lastC_at {c:Nat} {r:Tx} (hr:c ∉ r):∀ (w:Tx) (k:Nat),lastC c k (w++c::r)=some (k+w.length)
 | [],k=>by
  show lastC c k (c::r)=_
  rw [lastC,lastC_no r (k+1) hr]
  simp
 | x::w,k=>by
  show lastC c k (x::(w++c::r))=_
  rw [lastC,lastC_at hr w (k+1)]
  simp only [List.length_cons]
  congr 1
  omega
theorem four_mem {v:Int} {x:Nat} (h:x ∈ four v):48≤x∧x≤57:=by
 unfold four at h
 rcases List.mem_append.mp h with h | h
 ·rw [(List.mem_replicate.mp h).2]; omega
 ·exact txN_mem h
theorem rb_wr (p:Pce):rb (wr p)=bod p:=by
 unfold rb wr
 rw [List.append_assoc]
 show (match lastC 32 0 (bod p++32::four (chk 7 (bod p))) with | some i=>(bod p++32::four (chk 7 (bod p))).take i | none=>[])=bod p
 rw [lastC_at (fun z=>by have:=four_mem z; omega)]
 simp only
 rw [Nat.zero_add,List.take_left]
theorem ns32 (ns:List Nat):∀ w ∈ ns.map txN,(32:Nat) ∉ w:=fun w hw=>by
 obtain ⟨z,_,rfl⟩:=List.mem_map.mp hw
 exact fun z=>by have:=txN_mem z; omega
theorem parse {p:Pce} (hp:okP p):partsD (bod p)=toD p:=by
 obtain ⟨sh,bd⟩:=hp
 have nf:∀ n ∈ p.ns,numOf (txN n)=.int n:=fun n hn=>num_fig n (by have:=bd n hn; omega)
 have nsm:(p.ns.map txN).map numOf=nsD p.ns:=by
  unfold nsD
  rw [List.map_map]
  apply List.map_congr_left
  intro n hn
  exact nf n hn
 cases sh with
 | hello a b =>
  have e:splA 32 (bod ⟨HELLO,[a,b],.no⟩)=HELLO::[a,b].map txN:=splA_join HELLO ([a,b].map txN) fun v hv=>by
   rcases List.mem_cons.mp hv with rfl | hv
   ·decide
   ·exact ns32 _ v hv
  unfold partsD toD
  rw [e]
  simp only
  rw [if_neg (by decide),if_neg (by decide),nsm]
  rfl
 | fin a b c d =>
  have e:splA 32 (bod ⟨ENDW,[a,b,c,d],.no⟩)=ENDW::[a,b,c,d].map txN:=splA_join ENDW ([a,b,c,d].map txN) fun v hv=>by
   rcases List.mem_cons.mp hv with rfl | hv
   ·decide
   ·exact ns32 _ v hv
  unfold partsD toD
  rw [e]
  simp only
  rw [if_neg (by decide),if_neg (by decide),nsm]
  rfl
 | data a b c d y h1 h2 =>
  have e5:spl 32 (bod ⟨DATA,[a,b,c,d],.sg y⟩) 5 []=DATA::([a,b,c,d].map txN++[txN y.length++[58]++y]):=spl_last (txN y.length++[58]++y) (DATA::[a,b,c,d].map txN) fun v hv=>by
   rcases List.mem_cons.mp hv with rfl | hv
   ·decide
   ·exact ns32 _ v hv
  obtain ⟨r,e⟩:∃ r,splA 32 (bod ⟨DATA,[a,b,c,d],.sg y⟩)=DATA::r:=by
   have e0:bod ⟨DATA,[a,b,c,d],.sg y⟩=DATA++32::joinT [32] ([a,b,c,d].map txN++[txN y.length++[58]++y]):=joinT_cons 32 DATA _ (by simp)
   unfold splA
   rw [e0,List.length_append,List.length_cons]
   exact ⟨_,spl_word DATA [] (by decide)⟩
  unfold partsD toD
  rw [e]
  simp only
  rw [if_pos trivial,e5]
  simp only
  have d1:([a,b,c,d].map txN++[txN y.length++[58]++y]).dropLast=[a,b,c,d].map txN:=List.dropLast_concat
  have d2:lastW (DATA::([a,b,c,d].map txN++[txN y.length++[58]++y]))=txN y.length++[58]++y:=rfl
  rw [d1,d2,aft_ok,nsm]
  rfl
 | ans a b c d f l h1 h2 =>
  have e:splA 32 (bod ⟨ANS,[a,b,c,d,f],.sp l⟩)=ANS::([a,b,c,d,f].map txN++[spW l]):=splA_join ANS ([a,b,c,d,f].map txN++[spW l]) fun v hv=>by
   rcases List.mem_cons.mp hv with rfl | hv
   ·decide
   ·rcases List.mem_append.mp hv with hv | hv
    ·exact ns32 _ v hv
    ·rw [List.mem_singleton.mp hv]
     exact fun z=>by have:=spW_mem z; omega
  unfold partsD toD
  rw [e]
  simp only
  rw [if_neg (by decide),if_pos trivial]
  have d1:([a,b,c,d,f].map txN++[spW l]).dropLast=[a,b,c,d,f].map txN:=List.dropLast_concat
  have d2:lastW (ANS::([a,b,c,d,f].map txN++[spW l]))=spW l:=rfl
  rw [d1,d2,spansD_ok l h2,nsm]
  rfl
theorem ok_dig {x:Nat} (h:48≤x∧x≤57):okC x=true:=by
 unfold okC
 simp only [Bool.and_eq_true,decide_eq_true_eq,Bool.not_eq_true',decide_eq_false_iff_not]
 omega
theorem bod_ok {p:Pce} (hp:okP p):∀ x ∈ bod p,okC x=true:=by
 intro x hx
 rcases mem_joinT _ hx with rfl | ⟨w,hw,hx2⟩
 ·decide
 ·clear hx
  have hx:=hx2
  clear hx2
  unfold wds at hw
  rcases List.mem_cons.mp hw with rfl | hw
  ·have:∀ k,(k=HELLO ∨ k=DATA ∨ k=ENDW ∨ k=ANS)→∀ z ∈ k,okC z=true:=by
    rintro k (rfl | rfl | rfl | rfl) <;> decide
   refine this p.k ?_ x hx
   cases hp.1 with
   | hello=>exact .inl rfl
   | data=>exact .inr (.inl rfl)
   | fin=>exact .inr (.inr (.inl rfl))
   | ans=>exact .inr (.inr (.inr rfl))
  ·rcases List.mem_append.mp hw with hw | hw
   ·obtain ⟨z,_,rfl⟩:=List.mem_map.mp hw
    exact ok_dig (txN_mem hx)
   ·cases hp.1 with
    | hello a b=>cases hw
    | fin a b c d=>cases hw
    | data a b c d y h1 h2 =>
     have hw:w ∈ [txN y.length++[58]++y]:=hw
     rw [List.mem_singleton.mp hw,List.mem_append,List.mem_append] at hx
     rcases hx with (hx | hx) | hx
     ·exact ok_dig (txN_mem hx)
     ·rw [List.mem_singleton.mp hx]; decide
     ·exact List.all_eq_true.mp h1 x hx
    | ans a b c d f l h1 h2 =>
     have hw:w ∈ [spW l]:=hw
     rw [List.mem_singleton.mp hw] at hx
     rcases spW_mem hx with rfl | rfl | h
     ·decide
     ·decide
     ·exact ok_dig h
theorem wr_ok {p:Pce} (hp:okP p):(wr p).all okC=true:=by
 rw [List.all_eq_true]
 intro x hx
 unfold wr at hx
 rw [List.mem_append,List.mem_append] at hx
 rcases hx with (hx | hx) | hx
 ·exact bod_ok hp x hx
 ·rw [List.mem_singleton.mp hx]; decide
 ·exact ok_dig (four_mem hx)
theorem wr_len {p:Pce} (hp:okP p):(wr p).length=(bod p).length+5∧(wr p).length≤405:=by
 obtain ⟨c0,c1⟩:=chk_rng (bod p) 7 (by omega) (by omega)
 have:=four_len _ c0 c1
 have:=bod_len hp
 unfold wr
 rw [List.length_append,List.length_append]
 simp only [List.length_cons,List.length_nil]
 omega
noncomputable def flat:Nat→D→Bool
 | _,.int _=>true
 | _,.str x=>decide (x.length≤1000)
 | n+1,.tup xs=>decide (xs.length≤1000) && xs.all (flat n)
 | _,_=>false
theorem flat_tup {n:Nat} {xs:List D} (h:flat n (.tup xs)=true):∃ m,n=m+1∧xs.length≤1000∧∀ x ∈ xs,flat m x=true:=by
 cases n with
 | zero=>cases h
 | succ m =>
  have h:(decide (xs.length≤1000) && xs.all (flat m))=true:=h
  rw [Bool.and_eq_true,List.all_eq_true] at h
  exact ⟨m,rfl,of_decide_eq_true h.1,h.2⟩
theorem flat_cases {n:Nat} {d:D} (h:flat n d=true):(∃ i,d=.int i) ∨ (∃ x,d=.str x∧x.length≤1000) ∨ ∃ xs,d=.tup xs:=by
 cases d with
 | int i=>exact .inl ⟨i,rfl⟩
 | str x =>
  have h:decide (x.length≤1000)=true:=by cases n <;> exact h
  exact .inr (.inl ⟨x,rfl,of_decide_eq_true h⟩)
 | tup xs=>exact .inr (.inr ⟨xs,rfl⟩)
 | non=>cases n <;> cases h
 | bl _=>cases n <;> cases h
 | ref _=>cases n <;> cases h
theorem eqW_self (f:D→D→Option Bool):∀ xs:List D,(∀ x ∈ xs,f x x=some true)→eqW f xs xs=some true
 | [],_=>rfl
 | x::xs,h=>by
  unfold eqW
  rw [h x (List.mem_cons_self ..),eqW_self f xs fun y hy=>h y (List.mem_cons_of_mem _ hy)]
  rfl
theorem eqD_self (h:AH):∀ (n m:Nat) (d:D),flat n d=true→n≤m→eqD h m d d=some true:=by
 intro n
 induction n with
 | zero =>
  intro m d hf hm
  rcases flat_cases hf with ⟨i,rfl⟩ | ⟨x,rfl,_⟩ | ⟨xs,rfl⟩
  ·have:eqD h m (.int i) (.int i)=some (i == i):=by cases m <;> rfl
   rw [this]; simp
  ·have:eqD h m (.str x) (.str x)=some (x == x):=by cases m <;> rfl
   rw [this]; simp
  ·obtain ⟨k,e,_⟩:=flat_tup hf
   omega
 | succ n ih =>
  intro m d hf hm
  rcases flat_cases hf with ⟨i,rfl⟩ | ⟨x,rfl,_⟩ | ⟨xs,rfl⟩
  ·have:eqD h m (.int i) (.int i)=some (i == i):=by cases m <;> rfl
   rw [this]; simp
  ·have:eqD h m (.str x) (.str x)=some (x == x):=by cases m <;> rfl
   rw [this]; simp
  ·obtain ⟨k,e,_,hx⟩:=flat_tup hf
   cases e
   cases m with
   | zero=>omega
   | succ m =>
    show eqW (eqD h m) xs xs=some true
    exact eqW_self _ xs fun x hm'=>ih m x (hx x hm') (by omega)
theorem good_flat (h:AH):∀ (n:Nat) (d:D),flat n d=true→good h d=true:=by
 intro n
 induction n with
 | zero =>
  intro d hf
  rcases flat_cases hf with ⟨i,rfl⟩ | ⟨x,rfl,hx⟩ | ⟨xs,rfl⟩
  ·unfold good; rfl
  ·unfold good; exact decide_eq_true hx
  ·obtain ⟨k,e,_⟩:=flat_tup hf
   omega
 | succ n ih =>
  intro d hf
  rcases flat_cases hf with ⟨i,rfl⟩ | ⟨x,rfl,hx⟩ | ⟨xs,rfl⟩
  ·unfold good; rfl
  ·unfold good; exact decide_eq_true hx
  ·obtain ⟨k,e,hl1,hx⟩:=flat_tup hf
   cases e
   unfold good
   clear hf hl1
   induction xs with
   | nil=>unfold goodL; rfl
   | cons y ys iy =>
    unfold goodL
    rw [ih y (hx y (List.mem_cons_self ..)),iy fun z hz=>hx z (List.mem_cons_of_mem _ hz)]
    rfl
theorem same_step (B:Nat) (h:AH) (n m:Nat) (xs:List D) (hf:flat (m+1) (.tup xs)=true) (hm:m≤30) (H:∀ ys,D.tup ys ∈ xs→callN fns B (n+1) i_law_same [.tup ys,.tup ys] h=.ok (.bl true) h):callN fns B (n+2) i_law_same [.tup xs,.tup xs] h=.ok (.bl true) h:=by
 rw [c_law_same]
 obtain ⟨k,e,hl,hx⟩:=flat_tup hf
 cases e
 have hs:small62 (xs.length:Int):=by unfold small62; omega
 have isi:∀ t,isiD h t (.tup xs)=some (isTy t (.tup xs)):=fun t=>rfl
 obtain ⟨σ',h',L,e1,l,e2⟩:=forRow_ex (fun _ σ g=>g=h∧∃ l,σ=[some (.tup xs),some (.tup xs),l])
  (turnOf (TG.nm 2) (denS (callN fns B (n+1)) B b_law_same_3)) (rangeD 0 xs.length) 0 [some (.tup xs),some (.tup xs),none] h ⟨rfl,none,rfl⟩
  (fun j x σ g hj ⟨e1,l,e2⟩=>by
   obtain ⟨hj2,rfl⟩:=range_get hj
   subst e1 e2
   have gx:xs[j]?=some xs[j]:=List.getElem?_eq_getElem hj2
   have fx:=hx _ (List.getElem_mem hj2)
   have mx:xs[j] ∈ xs:=List.getElem_mem hj2
   have ix:=ixT gx
   rw [show ((j:Nat):Int)=0+(j:Int) by omega] at ix
   have g1:=good_flat g _ _ fx
   have ww:=m_law_whole B n xs[j] g g1
   have is1:=isi_good (h:=g) .str g1
   have is2:=isi_good (h:=g) .tuple g1
   generalize xs[j]=d at *
   refine ⟨_,_,?_,rfl,some (.int (0+j)),rfl⟩
   rw [turnOf_nm]
   rcases flat_cases fx with ⟨i,rfl⟩ | ⟨y,rfl,_⟩ | ⟨ys,rfl⟩
   ·simp! only [b_law_same_3,ix,is1,isTy,show (Ty.str == Ty.int)=false from rfl,b_law_same_2,ww,isI,b_law_same_1,is2,show (Ty.tuple == Ty.int)=false from rfl]
   ·simp! only [b_law_same_3,ix,is1,isTy,show (Ty.str == Ty.str)=true from rfl,b_law_same_2,ww,isI,b_law_same_1,is2,show (Ty.tuple == Ty.str)=false from rfl]
   ·have r:=H ys mx
    simp! only [b_law_same_3,ix,is1,isTy,show (Ty.str == Ty.tuple)=false from rfl,b_law_same_2,ww,isI,b_law_same_1,is2,show (Ty.tuple == Ty.tuple)=true from rfl,r])
 subst e1 e2
 have eq:eqW (eqD h' 39) xs xs=some true:=eqD_self h' (m+1) 40 (.tup xs) hf (by omega)
 simp! only [b_law_same,isi,isTy,show (Ty.tuple == Ty.tuple)=true from rfl,b_law_same_5,if_pos hs,Int.toNat_natCast,L,b_law_same_4,eq]
theorem m_same (B:Nat) (h:AH):∀ (m n:Nat) (xs:List D),flat (m+1) (.tup xs)=true→m≤30→callN fns B (n+m+2) i_law_same [.tup xs,.tup xs] h=.ok (.bl true) h
 | 0,n,xs,hf,hm=>same_step B h n 0 xs hf hm fun ys hy=>by
  obtain ⟨k,e,_,hx⟩:=flat_tup hf
  cases e
  obtain ⟨k,e,_⟩:=flat_tup (hx _ hy)
  omega
 | m+1,n,xs,hf,hm=>same_step B h (n+(m+1)) (m+1) xs hf hm fun ys hy=>by
  obtain ⟨k,e,_,hx⟩:=flat_tup hf
  cases e
  exact m_same B h m n ys (hx _ hy) (by omega)
theorem flat_toD {p:Pce} (hp:okP p):flat 3 (toD p)=true:=by
 have fn:∀ (m:Nat) (l:List Nat),(nsD l).all (flat m)=true:=fun m l=>by
  unfold nsD
  rw [List.all_map,List.all_eq_true]
  intro x _
  cases m <;> rfl
 have fk:∀ m,flat m (.str p.k)=true:=fun m=>by
  have:=kl hp.1
  have h:flat m (.str p.k)=decide (p.k.length≤1000):=by cases m <;> rfl
  rw [h]
  exact decide_eq_true (by omega)
 unfold toD
 show (decide _ && List.all _ (flat 2))=true
 rw [Bool.and_eq_true]
 have nl:(nsD p.ns).length=p.ns.length:=by unfold nsD; rw [List.length_map]
 refine ⟨decide_eq_true ?_,?_⟩
 ·rw [List.length_cons,List.length_append,nl]
  cases hp.1 <;> simp [laD]
 ·rw [List.all_cons,List.all_append,fk,fn]
  cases hp.1 with
  | hello a b=>rfl
  | fin a b c d=>rfl
  | data a b c d y h1 h2 =>
   show (decide (y.length≤1000) && true)=true
   rw [decide_eq_true (by omega)]
   rfl
  | ans a b c d e l h1 h2 =>
   show ((decide ((l.map spD2).length≤1000) && (l.map spD2).all (flat 1)) && true)=true
   rw [List.length_map,decide_eq_true (by omega),Bool.true_and,Bool.and_true,List.all_map,List.all_eq_true]
   intro x _
   rfl
theorem join_fold (c:Nat):∀ (ws:List Tx) (w:Tx),joinT [c] (w::ws)=ws.foldl (fun a v=>a++c::v) w
 | [],w=>rfl
 | v::r,w=>by
  rw [joinT_cons c w (v::r) (by simp),List.foldl_cons]
  rw [join_fold c r v]
  have:=join_fold_app c r v (w++[c])
  rw [List.append_assoc,List.append_assoc] at this
  exact this.symm
where
 join_fold_app (c:Nat):∀ (ws:List Tx) (v u:Tx),ws.foldl (fun a v=>a++c::v) (u++v)=u++ws.foldl (fun a v=>a++c::v) v
  | [],v,u=>rfl
  | x::r,v,u=>by
   rw [List.foldl_cons,List.foldl_cons,List.append_assoc]
   exact join_fold_app c r (v++c::x) u
theorem cut_back4 (t:Tx) (h:1≤t.length∧t.length≤4):cutX ([48,48,48]++t) (some (-4)) none=List.replicate (4 - t.length) 48++t:=by
 unfold cutX cutN
 simp only [show (-4:Int) < 0 by omega,if_true]
 have e:(-4+((([48,48,48]:Tx)++t).length:Int)).toNat=t.length - 1:=by
  rw [List.length_append]
  simp only [List.length_cons,List.length_nil]
  omega
 rw [e,List.take_of_length_le (by rw [List.length_drop]; exact Nat.le_refl _),List.drop_append_of_le_length (by simp; omega)]
 congr 1
 have:t.length=1 ∨ t.length=2 ∨ t.length=3 ∨ t.length=4:=by omega
 rcases this with q | q | q | q <;> rw [q] <;> rfl
theorem m_four (B n : Nat) (v : Int) (h0 : 0 ≤ v) (h1 : v < 9973) (h : AH) : callN fns B (n + 1) i_law_four [.int v] h = .ok (.str (four v)) h := by
  rw [c_law_four]
  obtain ⟨m, rfl⟩ : ∃ m : Nat, v = (m : Int) := ⟨v.toNat, by omega⟩
  have lg := log2_lt (i := (m : Int)) (by omega) (by omega)
  have tl := txN_len (m := m) 3 (by have : (10 : Nat) ^ (3 + 1) = 10000 := by decide
                                    omega)
  have tp := List.length_pos_iff.mpr (txN_ne m)
  have cb := cut_back4 (txN m) ⟨tp, by omega⟩
  have f : four (m : Int) = List.replicate (4 - (txN m).length) 48 ++ txN m := rfl
  rw [f, ← cb]
  simp! only [b_law_four, if_pos lg, txI_nat]
  generalize hq : ([48, 48, 48] : Tx) ++ txN m = q at *
  have hq2 : 48 :: 48 :: 48 :: txN m = q := hq
  have ql : q.length ≤ 16777216 := by rw [← hq, List.length_append]; simp only [List.length_cons, List.length_nil]; omega
  simp! only [hq2, if_pos (show 3 + (txN m).length ≤ 16777216 by omega), if_pos ql, show (txN m).length + 3 ≤ 16777216 by omega]
section
variable {F:Nat→List D→M D} {B:Nat} {h:AH}
theorem line_loop (x0:Option D):∀ (ns:List Nat) (acc:Tx) (x2 x3:Option D),(∀ m ∈ ns,m≤1000000000)→acc.length+20 * ns.length≤900→∃ x2',forRow (turnOf (TG.nm 2) (denS F B b_law_line_1)) (nsD ns) [x0,some (.str acc),x2,x3] h=.nx [x0,some (.str ((ns.map txN).foldl (fun a v=>a++32::v) acc)),x2',x3] h
 | [],acc,x2,x3,_,_=>⟨x2,rfl⟩
 | m::ns,acc,x2,x3,hm,hl=>by
  have b:=hm m (List.mem_cons_self ..)
  have lg:=log2_lt (i:=(m:Int)) (by omega) (by omega)
  have tl:=txN_13 b
  rw [List.length_cons] at hl
  have e:turnOf (TG.nm 2) (denS F B b_law_line_1) (.int (m:Int)) [x0,some (.str acc),x2,x3] h=.nx [x0,some (.str (acc++32::txN m)),some (.int m),x3] h:=by
   have e1:acc++[32]++txN m=acc++32::txN m:=by rw [List.append_assoc]; rfl
   rw [turnOf_nm,← e1]
   simp! only [b_law_line_1,if_pos (show acc.length+1≤16777216 by omega),if_pos lg,txI_nat,List.length_append,if_pos (show acc.length+1+(txN m).length≤16777216 by omega),show acc.length≤16777215 by omega]
  obtain ⟨x2',r⟩:=line_loop x0 ns (acc++32::txN m) (some (.int m)) x3 (fun z hz=>hm z (List.mem_cons_of_mem _ hz)) (by rw [List.length_append,List.length_cons]; omega)
  refine ⟨x2',?_⟩
  show forRow _ (D.int m::nsD ns) _ _=_
  rw [forRow,e,turn_nx,r,List.map_cons,List.foldl_cons]
end
theorem line_end (B n:Nat) (acc:Tx) (hl:acc.length≤900) (x0 x2 x3:Option D) (h:AH):denS (callN fns B (n+1)) B b_law_line_7 [x0,some (.str acc),x2,x3] h=.rt (.str (acc++[32]++four (chk 7 acc))) h:=by
 have e1:=m_law_check B n acc h
 have e1:callN fns B (n+1) 31 [.str acc] h=.ok (.int (chk 7 acc)) h:=e1
 obtain ⟨c0,c1⟩:=chk_rng acc 7 (by omega) (by omega)
 have e2:=m_four B n (chk 7 acc) c0 c1 h
 have e2:callN fns B (n+1) 35 [.int (chk 7 acc)] h=.ok (.str (four (chk 7 acc))) h:=e2
 have fl:=four_len _ c0 c1
 generalize four (chk 7 acc)=q at *
 simp! only [b_law_line_7,if_pos (show acc.length+1≤16777216 by omega),e1,e2,List.length_append,fl,if_pos (show acc.length+1+4≤16777216 by omega),show acc.length≤16777215 by omega,show acc.length≤16777211 by omega]
theorem joinT_snoc (c:Nat) (w:Tx):∀ ws:List Tx,ws ≠ []→joinT [c] (ws++[w])=joinT [c] ws++c::w
 | [],h=>absurd rfl h
 | v::r,_=>by
  rw [List.cons_append,join_fold,join_fold,List.foldl_append]
  rfl
section
variable {F:Nat→List D→M D} {B:Nat} {h:AH}
theorem span_loop (a b c d e : Nat) (l : List (Nat × Nat)) (h1 : l.length ≤ 8) (h2 : ∀ q ∈ l, q.1 ≤ 1000000 ∧ q.2 ≤ 1000000) (T : Tx) (hT : T.length ≤ 300) (x2 : Option D) :
    ∃ x3' g, forRow (turnOf (TG.nm 3) (denS F B b_law_line_3)) (rangeD 0 l.length) [some (.tup [.str ANS, .int a, .int b, .int c, .int d, .int e, .tup (l.map spD2)]), some (.str T), x2, none] h = .nx [some (.tup [.str ANS, .int a, .int b, .int c, .int d, .int e, .tup (l.map spD2)]), some (.str (T ++ joinT [44] (l.map spW1))), x2, x3'] (h ++ g) := by
  obtain ⟨σ', h', L, x3', g, e1, e2⟩ := forRow_ex (fun k σ H => ∃ x3 g, σ = [some (.tup [.str ANS, .int a, .int b, .int c, .int d, .int e, .tup (l.map spD2)]), some (.str (T ++ joinT [44] ((l.take k).map spW1))), x2, x3] ∧ H = h ++ g)
    (turnOf (TG.nm 3) (denS F B b_law_line_3)) (rangeD 0 l.length) 0 [some (.tup [.str ANS, .int a, .int b, .int c, .int d, .int e, .tup (l.map spD2)]), some (.str T), x2, none] h
    ⟨none, [], by show _ = [_, some (D.str (T ++ [])), _, _]; rw [List.append_nil], by rw [List.append_nil]⟩
    (fun j x σ H hj ⟨x3, g, e1, e2⟩ => by
      obtain ⟨hj2, rfl⟩ := range_get hj
      subst e1
      rw [Nat.zero_add]
      have gq : l[j]? = some l[j] := List.getElem?_eq_getElem hj2
      have mq := h2 _ (List.getElem_mem hj2)
      have tk : l.take (j + 1) = l.take j ++ [l[j]] := by simp
      generalize l[j] = q at gq mq tk
      have i6 : ((ixN 7 6).bind fun i => [D.str ANS, .int a, .int b, .int c, .int d, .int e, .tup (l.map spD2)][i]?) = some (.tup (l.map spD2)) := rfl
      have gx : (l.map spD2)[j]? = some (.tup [.int q.1, .int q.2]) := by rw [List.getElem?_map, gq]; rfl
      have ix := ixT gx
      rw [show ((j : Nat) : Int) = 0 + (j : Int) by omega] at ix
      have j0 : ((ixN 2 0).bind fun i => [D.int q.1, .int q.2][i]?) = some (.int q.1) := rfl
      have j1 : ((ixN 2 1).bind fun i => [D.int q.1, .int q.2][i]?) = some (.int q.2) := rfl
      have lg1 := log2_lt (i := (q.1 : Int)) (by omega) (by omega)
      have lg2 := log2_lt (i := (q.2 : Int)) (by omega) (by omega)
      have t1 := txN_13 (m := q.1) (by omega)
      have t2 := txN_13 (m := q.2) (by omega)
      have jl := joinT_len 44 ((l.take j).map spW1)
      have js : (((l.take j).map spW1).map fun w => w.length + 1).sum ≤ 23 * (l.take j).length := by
        rw [List.map_map]
        exact sum_le _ 23 _ fun z hz => by
          have := spW1_len (h2 z (List.mem_of_mem_take hz))
          show (spW1 z).length + 1 ≤ 23
          omega
      have tl : (l.take j).length = j := by rw [List.length_take]; omega
      obtain ⟨sep, hsep, hfin, hsl⟩ : ∃ sep : Tx, ((ixN 2 (if decide ((0 : Int) < 0 + (j : Int)) = true then 1 else 0)).bind fun i => [D.str [], .str [44]][i]?) = some (.str sep) ∧ T ++ joinT [44] ((l.take j).map spW1) ++ sep ++ txN q.1 ++ [45] ++ txN q.2 = T ++ joinT [44] ((l.take (j + 1)).map spW1) ∧ sep.length ≤ 1 := by
        have w1 : spW1 q = txN q.1 ++ [45] ++ txN q.2 := rfl
        rw [tk, List.map_append, List.map_cons, List.map_nil]
        by_cases z : j = 0
        · subst z
          refine ⟨[], rfl, ?_, by simp⟩
          rw [List.take_zero, List.map_nil, List.nil_append]
          show T ++ [] ++ [] ++ txN q.1 ++ [45] ++ txN q.2 = T ++ spW1 q
          rw [w1]
          simp
        · have dz : decide ((0 : Int) < 0 + (j : Int)) = true := decide_eq_true (by omega)
          refine ⟨[44], by rw [dz]; rfl, ?_, by simp⟩
          rw [joinT_snoc 44 (spW1 q) _ (fun y => by
            have := congrArg List.length y
            rw [List.length_map, tl] at this
            exact z this), w1]
          simp
      refine ⟨_, _, ?_, some (.int (0 + j)), g ++ [O.lst [D.str [], .str [44]]], rfl, rfl⟩
      rw [turnOf_nm, ← hfin, ← List.append_assoc, ← e2]
      have gl : getL (H ++ [O.lst [D.str [], .str [44]]]) H.length = some [D.str [], .str [44]] := by rw [getL_len]; rfl
      generalize hA : T ++ joinT [44] ((l.take j).map spW1) = A
      have hAl : A.length ≤ 600 := by rw [← hA, List.length_append]; omega
      simp! only [b_law_line_3, if_pos (show 2 ≤ 16777216 by omega), gl, Option.bind_some, hsep, i6, ix, j0, j1, if_pos lg1, if_pos lg2, txI_nat, List.length_append, if_pos (show A.length + sep.length ≤ 16777216 by omega), if_pos (show A.length + sep.length + (txN q.1).length ≤ 16777216 by omega), if_pos (show A.length + sep.length + (txN q.1).length + 1 ≤ 16777216 by omega), if_pos (show A.length + sep.length + (txN q.1).length + 1 + (txN q.2).length ≤ 16777216 by omega), show A.length + sep.length + (txN q.1).length ≤ 16777215 by omega])
  rw [range_len, Nat.zero_add] at e1
  subst e1 e2
  rw [List.take_length] at L
  exact ⟨x3', g, L⟩
end
theorem m_line (B n:Nat) {p:Pce} (hp:okP p) (h:AH):∃ g,callN fns B (n+2) i_law_line [toD p] h=.ok (.str (wr p)) (h++g):=by
 rw [c_law_line]
 obtain ⟨sh,bd⟩:=hp
 have hp:okP p:=⟨sh,bd⟩
 have bl:=bod_len hp
 have le:=fun (x0 x2 x3:Option D) (H:AH)=>line_end B n (bod p) (by omega) x0 x2 x3 H
 unfold wr
 cases sh with
 | hello a b =>
  obtain ⟨x2',L⟩:=line_loop (F:=callN fns B (n+1)) (B:=B) (h:=h) (some (.tup [.str HELLO,.int a,.int b])) [a,b] HELLO none none bd (by show 5+20 * 2≤900; omega)
  have bd':([a,b].map txN).foldl (fun x v=>x++32::v) HELLO=bod ⟨HELLO,[a,b],.no⟩:=(join_fold 32 ([a,b].map txN) HELLO).symm
  rw [bd'] at L
  have L:forRow (turnOf (TG.nm 2) (denS (callN fns B (n+1)) B b_law_line_1)) [D.int a,.int b] [some (.tup [.str HELLO,.int a,.int b]),some (.str HELLO),none,none] h=_:=L
  have cx:cutX [D.str HELLO,.int a,.int b] (some 1) (some 5)=[.int a,.int b]:=rfl
  have ix:((ixN 3 0).bind fun j=>[D.str HELLO,.int a,.int b][j]?)=some (.str HELLO):=rfl
  refine ⟨[],?_⟩
  show Fy.fin (denS (callN fns B (n+1)) B b_law_line [some (.tup [.str HELLO,.int a,.int b]),none,none,none] h)=_
  rw [List.append_nil]
  generalize bod ⟨HELLO,[a,b],.no⟩=W at *
  simp! only [b_law_line,ix,cx,L,b_law_line_9,show (HELLO == [100,97,116,97])=false from rfl,b_law_line_8,show (HELLO == [97,110,115,119,101,114])=false from rfl,le]
 | fin a b c d =>
  obtain ⟨x2',L⟩:=line_loop (F:=callN fns B (n+1)) (B:=B) (h:=h) (some (.tup [.str ENDW,.int a,.int b,.int c,.int d])) [a,b,c,d] ENDW none none bd (by show 3+20 * 4≤900; omega)
  have bd':([a,b,c,d].map txN).foldl (fun x v=>x++32::v) ENDW=bod ⟨ENDW,[a,b,c,d],.no⟩:=(join_fold 32 ([a,b,c,d].map txN) ENDW).symm
  rw [bd'] at L
  have L:forRow (turnOf (TG.nm 2) (denS (callN fns B (n+1)) B b_law_line_1)) [D.int a,.int b,.int c,.int d] [some (.tup [.str ENDW,.int a,.int b,.int c,.int d]),some (.str ENDW),none,none] h=_:=L
  have cx:cutX [D.str ENDW,.int a,.int b,.int c,.int d] (some 1) (some 5)=[.int a,.int b,.int c,.int d]:=rfl
  have ix:((ixN 5 0).bind fun j=>[D.str ENDW,.int a,.int b,.int c,.int d][j]?)=some (.str ENDW):=rfl
  refine ⟨[],?_⟩
  show Fy.fin (denS (callN fns B (n+1)) B b_law_line [some (.tup [.str ENDW,.int a,.int b,.int c,.int d]),none,none,none] h)=_
  rw [List.append_nil]
  generalize bod ⟨ENDW,[a,b,c,d],.no⟩=W at *
  simp! only [b_law_line,ix,cx,L,b_law_line_9,show (ENDW == [100,97,116,97])=false from rfl,b_law_line_8,show (ENDW == [97,110,115,119,101,114])=false from rfl,le]
 | data a b c d y h1 h2 =>
  obtain ⟨x2',L⟩:=line_loop (F:=callN fns B (n+1)) (B:=B) (h:=h) (some (.tup [.str DATA,.int a,.int b,.int c,.int d,.str y])) [a,b,c,d] DATA none none bd (by show 4+20 * 4≤900; omega)
  have bd':([a,b,c,d].map txN).foldl (fun x v=>x++32::v) DATA++[32]++txN y.length++[58]++y=bod ⟨DATA,[a,b,c,d],.sg y⟩:=by
   have e1:=join_fold 32 ([a,b,c,d].map txN++[txN y.length++[58]++y]) DATA
   rw [List.foldl_append] at e1
   refine Eq.trans ?_ e1.symm
   show _=List.foldl (fun x v=>x++32::v) DATA ([a,b,c,d].map txN)++32::(txN y.length++[58]++y)
   generalize List.foldl (fun x v=>x++32::v) DATA ([a,b,c,d].map txN)=z
   simp
  have bl':=bl
  rw [← bd'] at bl'
  generalize hz:([a,b,c,d].map txN).foldl (fun x v=>x++32::v) DATA=z at *
  rw [List.length_append,List.length_append,List.length_append,List.length_append] at bl'
  simp only [List.length_cons,List.length_nil] at bl'
  have L:forRow (turnOf (TG.nm 2) (denS (callN fns B (n+1)) B b_law_line_1)) [D.int a,.int b,.int c,.int d] [some (.tup [.str DATA,.int a,.int b,.int c,.int d,.str y]),some (.str DATA),none,none] h=_:=L
  have cx:cutX [D.str DATA,.int a,.int b,.int c,.int d,.str y] (some 1) (some 5)=[.int a,.int b,.int c,.int d]:=rfl
  have ix:((ixN 6 0).bind fun j=>[D.str DATA,.int a,.int b,.int c,.int d,.str y][j]?)=some (.str DATA):=rfl
  have ix5:((ixN 6 5).bind fun j=>[D.str DATA,.int a,.int b,.int c,.int d,.str y][j]?)=some (.str y):=rfl
  have lg:=log2_lt (i:=(y.length:Int)) (by omega) (by omega)
  refine ⟨[],?_⟩
  show Fy.fin (denS (callN fns B (n+1)) B b_law_line [some (.tup [.str DATA,.int a,.int b,.int c,.int d,.str y]),none,none,none] h)=_
  rw [List.append_nil]
  generalize bod ⟨DATA,[a,b,c,d],.sg y⟩=W at *
  simp! only [b_law_line,ix,cx,L,b_law_line_9,show (DATA == [100,97,116,97])=true from rfl,b_law_line_2,ix5,if_pos (show y.length≤16777216 by omega),if_pos lg,txI_nat,List.length_append,if_pos (show z.length+1≤16777216 by omega),if_pos (show z.length+1+(txN y.length).length≤16777216 by omega),if_pos (show z.length+1+(txN y.length).length+1≤16777216 by omega),if_pos (show z.length+1+(txN y.length).length+1+y.length≤16777216 by omega),show z.length≤16777215 by omega,show z.length+1+(txN y.length).length≤16777215 by omega,bd',b_law_line_8,show (DATA == [97,110,115,119,101,114])=false from rfl,le]
 | ans a b c d f l h1 h2 =>
  obtain ⟨x2',L⟩:=line_loop (F:=callN fns B (n+1)) (B:=B) (h:=h) (some (.tup [.str ANS,.int a,.int b,.int c,.int d,.int f,.tup (l.map spD2)])) [a,b,c,d] ANS none none (fun m hm=>bd m (by
   simp only [List.mem_cons,List.not_mem_nil,or_false] at hm ⊢
   rcases hm with rfl | rfl | rfl | rfl <;> simp)) (by show 6+20 * 4≤900; omega)
  generalize hz:([a,b,c,d].map txN).foldl (fun x v=>x++32::v) ANS=z at *
  have hf:f≤1000000000:=bd f (by simp)
  have tf:=txN_13 hf
  have bd':z++[32]++txN f++[32]++spW l=bod ⟨ANS,[a,b,c,d,f],.sp l⟩:=by
   have e1:=join_fold 32 ([a,b,c,d].map txN++[txN f,spW l]) ANS
   rw [List.foldl_append] at e1
   refine Eq.trans ?_ e1.symm
   show _=List.foldl (fun x v=>x++32::v) ANS ([a,b,c,d].map txN)++32::txN f++32::spW l
   rw [hz]
   simp
  have bl':=bl
  rw [← bd'] at bl'
  rw [List.length_append,List.length_append,List.length_append,List.length_append] at bl'
  simp only [List.length_cons,List.length_nil] at bl'
  have L:forRow (turnOf (TG.nm 2) (denS (callN fns B (n+1)) B b_law_line_1)) [D.int a,.int b,.int c,.int d] [some (.tup [.str ANS,.int a,.int b,.int c,.int d,.int f,.tup (l.map spD2)]),some (.str ANS),none,none] h=_:=L
  have hzl:z.length≤100:=by
   rw [← hz,← join_fold]
   have h3:=joinT_len 32 (ANS::[a,b,c,d].map txN)
   have h4:(([a,b,c,d].map txN).map fun w=>w.length+1).sum≤11 * [a,b,c,d].length:=by
    rw [List.map_map]
    exact sum_le _ 11 _ fun x hx=>by
     have:=txN_13 (m:=x) (bd x (by
      simp only [List.mem_cons,List.not_mem_nil,or_false] at hx ⊢
      rcases hx with rfl | rfl | rfl | rfl <;> simp))
     show (txN x).length+1≤11
     omega
   have h3:(joinT [32] (ANS::[a,b,c,d].map txN)).length≤ANS.length+1+(([a,b,c,d].map txN).map fun w=>w.length+1).sum:=h3
   have h5:ANS.length=6:=rfl
   simp only [List.length_cons,List.length_nil] at h4
   omega
  obtain ⟨x3',g,S⟩:=span_loop (F:=callN fns B (n+1)) (B:=B) (h:=h) a b c d f l h1 h2 (z++[32]++txN f++[32]) (by
   rw [List.length_append,List.length_append,List.length_append]
   simp only [List.length_cons,List.length_nil]
   omega) x2'
  have cx:cutX [D.str ANS,.int a,.int b,.int c,.int d,.int f,.tup (l.map spD2)] (some 1) (some 5)=[.int a,.int b,.int c,.int d]:=rfl
  have ix:((ixN 7 0).bind fun j=>[D.str ANS,.int a,.int b,.int c,.int d,.int f,.tup (l.map spD2)][j]?)=some (.str ANS):=rfl
  have ix5:((ixN 7 5).bind fun j=>[D.str ANS,.int a,.int b,.int c,.int d,.int f,.tup (l.map spD2)][j]?)=some (.int f):=rfl
  have ix6:((ixN 7 6).bind fun j=>[D.str ANS,.int a,.int b,.int c,.int d,.int f,.tup (l.map spD2)][j]?)=some (.tup (l.map spD2)):=rfl
  have lg:=log2_lt (i:=(f:Int)) (by omega) (by omega)
  have hs:small62 (((l.map spD2).length:Nat):Int):=by unfold small62; rw [List.length_map]; omega
  have nl:(((l.map spD2).length:Nat):Int).toNat=l.length:=by rw [List.length_map]; omega
  refine ⟨g,?_⟩
  show Fy.fin (denS (callN fns B (n+1)) B b_law_line [some (.tup [.str ANS,.int a,.int b,.int c,.int d,.int f,.tup (l.map spD2)]),none,none,none] h)=_
  have b5:∀ x3:Option D,denS (callN fns B (n+1)) B b_law_line_5 [some (.tup [.str ANS,.int a,.int b,.int c,.int d,.int f,.tup (l.map spD2)]),some (.str (z++[32]++txN f++[32]++joinT [44] (l.map spW1))),x2',x3] (h++g)=.nx [some (.tup [.str ANS,.int a,.int b,.int c,.int d,.int f,.tup (l.map spD2)]),some (.str (bod ⟨ANS,[a,b,c,d,f],.sp l⟩)),x2',x3] (h++g):=fun x3=>by
   rw [← bd']
   cases l with
   | nil =>
    have e0:eqW (eqD (h++g) 39) (([]:List (Nat × Nat)).map spD2) []=some true:=rfl
    have e9:z++[32]++txN f++[32]++joinT [44] (([]:List (Nat × Nat)).map spW1)++[45]=z++[32]++txN f++[32]++spW []:=by
     show z++[32]++txN f++[32]++[]++[45]=z++[32]++txN f++[32]++[45]
     rw [List.append_nil]
    have e8:(z++[32]++txN f++[32]++joinT [44] (([]:List (Nat × Nat)).map spW1)).length+1≤16777216:=by
     show (z++[32]++txN f++[32]++[]).length+1≤16777216
     rw [List.append_nil,List.length_append,List.length_append,List.length_append]
     simp only [List.length_cons,List.length_nil]
     omega
    rw [← e9]
    generalize z++[32]++txN f++[32]++joinT [44] (([]:List (Nat × Nat)).map spW1)=Y at *
    generalize ([]:List (Nat × Nat)).map spD2=xs at *
    simp! only [b_law_line_5,ix6,e0,b_law_line_4,if_pos e8,show Y.length≤16777215 by omega]
   | cons q r =>
    have e0:eqW (eqD (h++g) 39) ((q::r).map spD2) []=some false:=rfl
    have sw:spW (q::r)=joinT [44] ((q::r).map spW1):=rfl
    rw [sw]
    generalize z++[32]++txN f++[32]++joinT [44] ((q::r).map spW1)=Y at *
    generalize (q::r).map spD2=xs at *
    simp! only [b_law_line_5,ix6,e0]
  generalize bod ⟨ANS,[a,b,c,d,f],.sp l⟩=W at *
  generalize joinT [44] (l.map spW1)=sj at *
  generalize l.map spD2=xs at *
  simp! only [b_law_line,ix,cx,L,b_law_line_9,show (ANS == [100,97,116,97])=false from rfl,b_law_line_8,show (ANS == [97,110,115,119,101,114])=true from rfl,b_law_line_6,ix5,if_pos lg,txI_nat,List.length_append,if_pos (show z.length+1≤16777216 by omega),if_pos (show z.length+1+(txN f).length≤16777216 by omega),if_pos (show z.length+1+(txN f).length+1≤16777216 by omega),show z.length≤16777215 by omega,show z.length+1+(txN f).length≤16777215 by omega,ix6,if_pos hs,nl,S,b5,le]
noncomputable def num2 (x:Tx):D:=if figOk x=true then .int (digV x) else .non
theorem figs_loop (F:Nat→List D→M D) (B:Nat) (y:D) (h:AH):∀ (x:Tx) (l:Option D),∃ l',forRow (turnOf (TG.nm 1) (denS F B b_law_number_of_1)) (x.map fun c=>.str [c]) [some y,l] h=(if x.all dgC=true then .nx [some y,l'] h else .rt .non h)
 | [],l=>⟨l,rfl⟩
 | c::x,l=>by
  obtain ⟨l',e⟩:=figs_loop F B y h x (some (.str [c]))
  refine ⟨l',?_⟩
  have fh:=fig_has c
  have hF:([48,49,50,51,52,53,54,55,56,57]:Tx)=FIG:=rfl
  rw [List.map_cons,forRow,turnOf_nm]
  cases q:dgC c with
  | true =>
   rw [q] at fh
   have st:denS F B b_law_number_of_1 ([some y,l].set 1 (some (.str [c]))) h=.nx [some y,some (.str [c])] h:=by
    simp! only [b_law_number_of_1,hF,fh]
   rw [st,turn_nx,e,List.all_cons,q,Bool.true_and]
  | false =>
   rw [q] at fh
   have st:denS F B b_law_number_of_1 ([some y,l].set 1 (some (.str [c]))) h=.rt .non h:=by
    simp! only [b_law_number_of_1,hF,fh]
   rw [st,turn_rt,List.all_cons,q,Bool.false_and]
   rfl
theorem m_num2 (B n:Nat) (x:Tx) (hz:x.length≤1000) (h:AH):callN fns B (n+1) i_law_number_of [.str x] h=.ok (num2 x) h:=by
 rw [c_law_number_of]
 unfold num2 figOk
 obtain ⟨l',L⟩:=figs_loop (callN fns B n) B (.str x) h x none
 cases x with
 | nil=>rfl
 | cons c r =>
  have e0:((c::r:Tx) == [])=false:=rfl
  have ix:((ixN (c::r).length 0).bind fun j=>(c::r)[j]?)=some c:=by
   have:=ixN_nat (n:=(c::r).length) (k:=0) (by simp)
   have h0:ixN (c::r).length 0=some 0:=this
   rw [h0]
   rfl
  have lz:(c::r).length≤16777216:=by omega
  have c48:(([c]:Tx) == [48])=decide (c=48):=by rw [Bool.eq_iff_iff]; simp
  have x48:((c::r:Tx) == [48])=decide (c=48∧r=[]):=by rw [Bool.eq_iff_iff]; simp
  have g13:decide ((13:Int) < ((c::r).length:Int))=decide (13 < (c::r).length):=int_lt_nat 13 _
  have l1:1≤(c::r).length:=by simp
  have h0:(c::r)[0]?=some c:=rfl
  have il:isDig (c::r)=(c::r).all dgC:=rfl
  by_cases a:13 < (c::r).length
  ·have a1:decide (1≤(c::r).length∧(c::r).length≤13)=false:=decide_eq_false (by omega)
   have a2:decide (13 < (c::r).length)=true:=decide_eq_true a
   rw [a1]
   generalize (c::r)=X at *
   simp! only [b_law_number_of,e0,if_pos lz,g13,a2,Bool.false_and]
  ·have a1:decide (1≤(c::r).length∧(c::r).length≤13)=true:=decide_eq_true (by omega)
   have a2:decide (13 < (c::r).length)=false:=decide_eq_false a
   rw [a1,h0,Bool.true_and]
   have o:(decide (some c=some 48) && decide (1 < (c::r).length))=(decide (c=48) && !decide (c=48∧r=[])):=by
    rw [Bool.eq_iff_iff]
    simp only [Bool.and_eq_true,decide_eq_true_eq,Bool.not_eq_true',decide_eq_false_iff_not,Option.some.injEq,List.length_cons]
    constructor
    ·rintro ⟨h1,h2⟩
     refine ⟨h1,fun z=>?_⟩
     rw [z.2] at h2
     simp at h2
    ·rintro ⟨h1,h2⟩
     refine ⟨h1,?_⟩
     cases r with
     | nil=>exact absurd ⟨h1,rfl⟩ h2
     | cons _ _=>simp
   rw [o]
   cases q:(decide (c=48) && !decide (c=48∧r=[])) with
   | true =>
    obtain ⟨q1,q2⟩:=Bool.and_eq_true_iff.mp q
    have q2:decide (c=48∧r=[])=false:=by rw [Bool.not_eq_true'] at q2; exact q2
    rw [q1] at c48
    rw [q2] at x48
    generalize (c::r)=X at *
    simp! only [b_law_number_of,e0,if_pos lz,g13,a2,ix,c48,x48,Bool.false_and]
   | false =>
    have go:∀ (s:Option D),Fy.fin (denS (callN fns B n) B b_law_number_of_3 [some (.str (c::r)),none] h)=.ok (if (c::r).all dgC=true then .int (digV (c::r)) else .non) h:=fun _=>by
     cases k:(c::r).all dgC with
     | true =>
      rw [k] at L
      have dg:(c::r) ≠ []∧(c::r).length≤640∧isDig (c::r)=true:=⟨by simp,by omega,by rw [il]; exact k⟩
      generalize (c::r)=X at *
      simp! only [b_law_number_of_3,L,b_law_number_of_2,if_pos dg]
     | false =>
      rw [k] at L
      generalize (c::r)=X at *
      simp! only [b_law_number_of_3,L]
    rw [Bool.not_false,Bool.true_and]
    refine Eq.trans ?_ (go none)
    cases q1:decide (c=48) with
    | false =>
     rw [q1] at c48
     generalize (c::r)=X at *
     simp! only [b_law_number_of,e0,if_pos lz,g13,a2,ix,c48]
    | true =>
     rw [q1] at q c48
     have q2:decide (c=48∧r=[])=true:=by simpa using q
     rw [q2] at x48
     generalize (c::r)=X at *
     simp! only [b_law_number_of,e0,if_pos lz,g13,a2,ix,c48,x48]
theorem good_num2 (x:Tx):good [] (num2 x)=true:=by
 unfold num2
 split <;> (unfold good; rfl)
theorem num2_fig (m:Nat) (h:m≤1000000000000):num2 (txN m)=.int m:=by
 have:=num_fig m h
 unfold numOf at this
 unfold num2
 split at this
 ·rename_i e
  rw [if_pos e,txN_val]
 ·cases this
noncomputable def sp1 (s:Tx):Option D:=match splA 45 s with
 | [a,b]=>if figOk a=true∧figOk b=true then some (.tup [.int (digV a),.int (digV b)]) else none
 | _=>none
noncomputable def sp2:List Tx→Option (List D)
 | []=>some []
 | s::r=>match sp1 s with
  | some d=>(sp2 r).map (d::·)
  | none=>none
noncomputable def spans2 (w:Tx):D:=if w=[45] then .tup [] else match sp2 (splA 44 w) with
 | some l=>.tup l
 | none=>.non
section
variable {B n:Nat}
theorem sp_turn (h G : AH) (acc : List D) (s : Tx) (hs : s.length ≤ 900) (g0 : G[0]? = some (.lst acc)) (ha : acc.length ≤ 2000) (x0 x2 x3 : Option D) :
    ∃ G' x3', denS (callN fns B (n + 1)) B b_law_spans_of_2 [x0, some (.ref h.length), some (.str s), x3] (h ++ G) = (match sp1 s with
      | some _ => .nx [x0, some (.ref h.length), some (.str s), x3'] (h ++ G')
      | none => .rt .non (h ++ G')) ∧ (∀ d, sp1 s = some d → G'[0]? = some (.lst (acc ++ [d]))) ∧ ∀ j o, 1 ≤ j → G[j]? = some o → G'[j]? = some o := by
  have pb := parts_all s 45
  have kl := spl_len 45 s s.length []
  have km := spl_mem 45 s s.length []
  have l1 : ((splA 45 s).map D.str).length ≤ 16777216 := by unfold splA; rw [List.length_map]; omega
  have s45 : 45 < 256 ∧ s.length ≤ 1000000 := by omega
  have pb : (partsT s (posC 45 0 s)).map D.str = (splA 45 s).map D.str := by rw [pb]
  have g1 : getL (h ++ G ++ [O.lst ((splA 45 s).map D.str)]) (h ++ G).length = some ((splA 45 s).map D.str) := by rw [getL_len]; rfl
  have kp : ∀ j o, 1 ≤ j → G[j]? = some o → (G ++ [O.lst ((splA 45 s).map D.str)])[j]? = some o := fun j o _ e => by
    rw [List.getElem?_append_left (List.getElem?_eq_some_iff.mp e).1, e]
  by_cases q : (splA 45 s).length = 2
  · obtain ⟨a, b, hab⟩ : ∃ a b, splA 45 s = [a, b] := by
      match hq : splA 45 s, q with
      | [a, b], _ => exact ⟨a, b, rfl⟩
    have al : a.length ≤ 1000 := by
      have := km a (by unfold splA at hab; rw [hab]; simp)
      simp only [List.length_nil] at this
      omega
    have bl : b.length ≤ 1000 := by
      have := km b (by unfold splA at hab; rw [hab]; simp)
      simp only [List.length_nil] at this
      omega
    rw [hab] at pb g1 l1 kp
    have ea := fun H => m_num2 B n a al H
    have eb := fun H => m_num2 B n b bl H
    have ea : ∀ H, callN fns B (n + 1) 42 [.str a] H = .ok (num2 a) H := ea
    have eb : ∀ H, callN fns B (n + 1) 42 [.str b] H = .ok (num2 b) H := eb
    have i0 : ((ixN 2 0).bind fun j => [D.str a, .str b][j]?) = some (.str a) := rfl
    have i1 : ((ixN 2 1).bind fun j => [D.str a, .str b][j]?) = some (.str b) := rfl
    have g1 : getL (h ++ G ++ [O.lst [D.str a, .str b]]) (h ++ G).length = some [D.str a, .str b] := g1
    have pb : (partsT s (posC 45 0 s)).map D.str = [D.str a, .str b] := pb
    have hs1 : sp1 s = if figOk a = true ∧ figOk b = true then some (.tup [.int (digV a), .int (digV b)]) else none := by unfold sp1; rw [hab]
    have t2 : (((2 : Nat) : Int) == 2) = true := rfl
    cases fa : figOk a with
    | false =>
      have va : num2 a = .non := by unfold num2; rw [fa]; rfl
      have hn : sp1 s = none := by rw [hs1, fa]; simp
      rw [va] at ea
      refine ⟨G ++ [O.lst [D.str a, .str b]], some (.ref (h ++ G).length), ?_, ?_, kp⟩
      · rw [hn, ← List.append_assoc]
        simp! only [b_law_spans_of_2, if_pos s45, s45.2, pb, if_pos (show 2 ≤ 16777216 by omega), g1, t2, Option.bind_some, i0, ea]
      · intro d hd
        rw [hn] at hd
        cases hd
    | true =>
      have va : num2 a = .int (digV a) := by unfold num2; rw [fa]; rfl
      rw [va] at ea
      cases fb : figOk b with
      | false =>
        have vb : num2 b = .non := by unfold num2; rw [fb]; rfl
        have hn : sp1 s = none := by rw [hs1, fb]; simp
        rw [vb] at eb
        refine ⟨G ++ [O.lst [D.str a, .str b]], some (.ref (h ++ G).length), ?_, ?_, kp⟩
        · rw [hn, ← List.append_assoc]
          simp! only [b_law_spans_of_2, if_pos s45, s45.2, pb, if_pos (show 2 ≤ 16777216 by omega), g1, t2, Option.bind_some, i0, ea, i1, eb]
        · intro d hd
          rw [hn] at hd
          cases hd
      | true =>
        have vb : num2 b = .int (digV b) := by unfold num2; rw [fb]; rfl
        have hn : sp1 s = some (.tup [.int (digV a), .int (digV b)]) := by rw [hs1, fa, fb]; rfl
        rw [vb] at eb
        have gz : (G ++ [O.lst [D.str a, .str b]])[0]? = some (.lst acc) := by
          rw [List.getElem?_append_left (List.getElem?_eq_some_iff.mp g0).1, g0]
        have gl0 : getL (h ++ (G ++ [O.lst [D.str a, .str b]])) h.length = some acc := by rw [getL_len]; unfold getL; rw [gz]
        have gt0 : (h ++ (G ++ [O.lst [D.str a, .str b]]))[h.length]? = some (.lst acc) := by rw [get_len, gz]
        have st0 : ∀ o, (h ++ (G ++ [O.lst [D.str a, .str b]])).set h.length o = h ++ (G ++ [O.lst [D.str a, .str b]]).set 0 o := fun o => set_len _ _ o
        rw [List.append_assoc] at g1
        refine ⟨(G ++ [O.lst [D.str a, .str b]]).set 0 (.lst (acc ++ [.tup [.int (digV a), .int (digV b)]])), some (.ref (h ++ G).length), ?_, ?_, ?_⟩
        · rw [hn]
          simp! only [b_law_spans_of_2, if_pos s45, s45.2, pb, if_pos (show 2 ≤ 16777216 by omega), List.append_assoc, g1, t2, Option.bind_some, i0, ea, i1, eb, b_law_spans_of_1, gl0, gt0, if_pos (show acc.length < 16777216 by omega), st0]
        · intro d hd
          rw [hn] at hd
          cases hd
          rw [List.getElem?_set_self (List.getElem?_eq_some_iff.mp gz).1]
        · intro j o hj e
          rw [List.getElem?_set_ne (by omega)]
          exact kp j o hj e
  · have hs1 : sp1 s = none := by
      unfold sp1
      split
      · rename_i a b hab
        rw [hab] at q
        simp at q
      · rfl
    have q2 : ((((splA 45 s).map D.str).length : Int) == 2) = false := by
      rw [List.length_map, Bool.eq_false_iff]
      intro z
      have z : ((splA 45 s).length : Int) = 2 := by simpa using z
      omega
    refine ⟨G ++ [O.lst ((splA 45 s).map D.str)], some (.ref (h ++ G).length), ?_, ?_, kp⟩
    · rw [hs1, ← List.append_assoc]
      generalize (splA 45 s).map D.str = E at *
      simp! only [b_law_spans_of_2, if_pos s45, s45.2, pb, if_pos l1, g1, q2]
    · intro d hd
      rw [hs1] at hd
      cases hd
theorem sp_loop (h : AH) (ws : List Tx) (hw : ∀ w ∈ ws, w.length ≤ 900) (x0 : Option D) : ∀ (m k : Nat) (G : AH) (acc : List D) (x2 x3 : Option D), m + k = ws.length + 1 → k ≤ ws.length → G[0]? = some (.lst acc) → G[1]? = some (.lst (ws.map D.str)) → acc.length + ws.length ≤ 2000 + k →
    ∃ G' x2' x3', forLive (turnOf (TG.nm 2) (denS (callN fns B (n + 1)) B b_law_spans_of_2)) (h.length + 1) m k [x0, some (.ref h.length), x2, x3] (h ++ G) = (match sp2 (ws.drop k) with
      | some _ => .nx [x0, some (.ref h.length), x2', x3'] (h ++ G')
      | none => .rt .non (h ++ G')) ∧ ∀ l, sp2 (ws.drop k) = some l → G'[0]? = some (.lst (acc ++ l))
  | 0, k, G, acc, x2, x3, hm, hk, _, _, _ => by omega
  | m + 1, k, G, acc, x2, x3, hm, hk, g0, g1, ha => by
    unfold forLive
    have gl : getL (h ++ G) (h.length + 1) = some (ws.map D.str) := by rw [getL_add]; unfold getL; rw [g1]
    rw [gl]
    simp only
    by_cases hlt : k < ws.length
    · have e : (ws.map D.str)[k]? = some (.str ws[k]) := by rw [List.getElem?_map, List.getElem?_eq_getElem hlt]; rfl
      rw [e]
      simp only
      rw [turnOf_nm, List.drop_eq_getElem_cons hlt]
      have hwk := hw ws[k] (List.getElem_mem hlt)
      generalize ws[k] = s at hwk
      obtain ⟨G', x3', t1, t2, t3⟩ := sp_turn (B := B) (n := n) h G acc s hwk g0 (by omega) x0 x2 x3
      have t1 : denS (callN fns B (n + 1)) B b_law_spans_of_2 ([x0, some (.ref h.length), x2, x3].set 2 (some (.str s))) (h ++ G) = _ := t1
      rw [t1]
      cases q : sp1 s with
      | none =>
        refine ⟨G', none, none, ?_, fun l hl => ?_⟩
        · show SR.turn (.rt .non (h ++ G')) _ = _
          rw [turn_rt]
          unfold sp2
          rw [q]
        · unfold sp2 at hl
          rw [q] at hl
          cases hl
      | some d =>
        obtain ⟨G2, y2, y3, r1, r2⟩ := sp_loop h ws hw x0 m (k + 1) G' (acc ++ [d]) (some (.str s)) x3' (by omega) hlt (t2 d q) (t3 1 _ (Nat.le_refl _) g1) (by rw [List.length_append]; simp only [List.length_cons, List.length_nil]; omega)
        refine ⟨G2, y2, y3, ?_, fun l hl => ?_⟩
        · show SR.turn (.nx _ (h ++ G')) _ = _
          rw [turn_nx, r1, sp2, q]
          cases sp2 (ws.drop (k + 1)) <;> rfl
        · rw [sp2, q] at hl
          cases z : sp2 (ws.drop (k + 1)) with
          | none => rw [z] at hl; cases hl
          | some l' =>
            rw [z] at hl
            have hl : some (d :: l') = some l := hl
            cases hl
            rw [r2 l' z, List.append_assoc]
            rfl
    · have e : (ws.map D.str)[k]? = none := by rw [List.getElem?_eq_none]; rw [List.length_map]; omega
      rw [e, List.drop_eq_nil_of_le (by omega)]
      refine ⟨G, x2, x3, rfl, fun l hl => ?_⟩
      have hl : some [] = some l := hl
      cases hl
      rw [List.append_nil, g0]
theorem m_spans2 (w:Tx) (hw:w.length≤900) (h:AH):∃ g,callN fns B (n+2) i_law_spans_of [.str w] h=.ok (spans2 w) (h++g):=by
 rw [c_law_spans_of]
 unfold spans2
 by_cases e:w=[45]
 ·rw [if_pos e,e]
  refine ⟨[.lst []],?_⟩
  simp! only [b_law_spans_of,if_pos (show 0≤16777216 by omega)]
 ·rw [if_neg e]
  have eb:(w == ([45]:Tx))=false:=beq_eq_false_iff_ne.mpr e
  have hl:=spl_len 44 w w.length []
  have hm:=spl_mem 44 w w.length []
  have pa:=parts_all w 44
  have pa:(partsT w (posC 44 0 w)).map D.str=(splA 44 w).map D.str:=by rw [pa]
  have l0:((splA 44 w).map D.str).length≤16777216:=by unfold splA; rw [List.length_map]; omega
  obtain ⟨G',x2',x3',L,hL⟩:=sp_loop (B:=B) (n:=n) h (splA 44 w) (fun z hz=>by have:=hm z hz; simp only [List.length_nil] at this; omega) (some (.str w)) ((splA 44 w).length+1) 0 [O.lst [],O.lst ((splA 44 w).map D.str)] [] none none rfl (Nat.zero_le _) rfl rfl (by unfold splA; simp only [List.length_nil]; omega)
  rw [List.drop_zero] at L hL
  have gl0:getL (h++[O.lst [],O.lst ((splA 44 w).map D.str)]) (h.length+1)=some ((splA 44 w).map D.str):=by rw [getL_add]; rfl
  have lv:liveN (h++[O.lst [],O.lst ((splA 44 w).map D.str)]) (h.length+1)=(splA 44 w).length+1:=by unfold liveN; rw [gl0,Option.getD_some,List.length_map]
  refine ⟨G',?_⟩
  cases q:sp2 (splA 44 w) with
  | none =>
   rw [q] at L
   generalize (splA 44 w).map D.str=E at *
   generalize (splA 44 w).length=k at *
   simp! only [b_law_spans_of,if_pos (show 0≤16777216 by omega),eb,b_law_spans_of_4,if_pos (show 44 < 256∧w.length≤1000000 by omega),show w.length≤1000000 by omega,pa,if_pos l0,List.append_assoc,List.length_append,gl0,lv,L]
  | some l =>
   rw [q] at L
   have g0:=hL l q
   rw [List.nil_append] at g0
   have gf:getL (h++G') h.length=some l:=by rw [getL_len]; unfold getL; rw [g0]
   generalize (splA 44 w).map D.str=E at *
   generalize (splA 44 w).length=k at *
   simp! only [b_law_spans_of,if_pos (show 0≤16777216 by omega),eb,b_law_spans_of_4,if_pos (show 44 < 256∧w.length≤1000000 by omega),show w.length≤1000000 by omega,pa,if_pos l0,List.append_assoc,List.length_append,gl0,lv,L,b_law_spans_of_3,gf]
end
theorem join_spl (c:Nat):∀ (r:Tx) (n:Nat) (cur:Tx),joinT [c] (spl c r n cur)=cur++r
 | [],_,cur=>by show cur=cur++[]; rw [List.append_nil]
 | x::r,0,cur=>rfl
 | x::r,n+1,cur=>by
  rw [spl]
  by_cases e:x=c
  ·rw [if_pos e,joinT_cons c cur _ (spl_ne c r n []),join_spl c r n []]
   rw [e]
   rfl
  ·rw [if_neg e,join_spl c r (n+1) (cur++[x])]
   simp
theorem joinT_drop (c:Nat):∀ (j:Nat) (ws:List Tx),(joinT [c] (ws.drop j)).length≤(joinT [c] ws).length
 | 0,ws=>Nat.le_refl _
 | j+1,[]=>Nat.le_refl _
 | j+1,[w]=>by
  rw [List.drop_succ_cons,List.drop_nil]
  exact Nat.zero_le _
 | j+1,w::v::r=>by
  have:=joinT_drop c j (v::r)
  rw [List.drop_succ_cons,joinT_cons c w (v::r) (by simp),List.length_append,List.length_cons]
  omega
noncomputable def extra (k:Tx) (r:List Tx):List D:=if k=DATA then [.str ((joinT [32] (r.drop 4)).drop ((findC (joinT [32] (r.drop 4)) 58)+1).toNat)] else if k=ANS∧r.length=6 then [num2 (r.getD 4 []),spans2 (r.getD 5 [])] else []
noncomputable def told0 (b:Tx):D:=match splA 32 b with
 | []=>.non
 | k::r=>.tup (.str k::((r.take 4).map num2++extra k r))
theorem spans2_good (w:Tx):good [] (spans2 w)=true:=by
 have h1:∀ s d,sp1 s=some d→good [] d=true:=fun s d e=>by
  unfold sp1 at e
  split at e
  ·split at e
   ·cases e; rfl
   ·cases e
  ·cases e
 have h2:∀ ws l,sp2 ws=some l→goodL [] l=true:=fun ws=>by
  induction ws with
  | nil=>intro l e; cases e; rfl
  | cons s r ih =>
   intro l e
   unfold sp2 at e
   cases q:sp1 s with
   | none=>rw [q] at e; cases e
   | some d =>
    rw [q] at e
    cases z:sp2 r with
    | none=>rw [z] at e; cases e
    | some l' =>
     rw [z] at e
     cases e
     unfold goodL
     rw [h1 s d q,ih l' z]
     rfl
 unfold spans2
 split
 ·rfl
 ·split
  ·rename_i l e
   unfold good
   exact h2 _ _ e
  ·rfl
theorem good_told (b:Tx) (hb:b.length≤900):good [] (told0 b)=true:=by
 unfold told0
 have hm:=spl_mem 32 b b.length []
 cases q:splA 32 b with
 | nil=>rfl
 | cons k r =>
  have hk:k.length≤1000:=by
   have:=hm k (by unfold splA at q; rw [q]; exact List.mem_cons_self ..)
   simp only [List.length_nil] at this
   omega
  have gk:good [] (.str k)=true:=by unfold good; exact decide_eq_true hk
  simp only
  unfold good goodL
  rw [gk,Bool.true_and]
  refine goodL_two (good_map num2 good_num2 _) ?_
  unfold extra
  split
  ·have h1:=joinT_drop 32 5 (k::r)
   have h2:(joinT [32] (k::r)).length=b.length:=by
    rw [← q]
    unfold splA
    rw [join_spl]
    rfl
   rw [List.drop_succ_cons] at h1
   unfold goodL goodL good
   rw [Bool.and_true]
   exact decide_eq_true (by rw [List.length_drop]; omega)
  ·split
   ·unfold goodL goodL goodL
    rw [good_num2,spans2_good]
    rfl
   ·rfl
theorem find_ge (a:Tx) (c:Nat):0≤findC a c+1:=by
 unfold findC
 split <;> omega
section
variable {B n:Nat}
theorem m_told0 (x:Tx) (hx:x.length≤900) (h:AH):∃ g y1 y2 y3 y4,∃ ds:List D,told0 (x.take (x.length - 5))=.tup ds∧denS (callN fns B (n+4)) B b_law_told [some (.str x),none,none,none,none,none] h=denS (callN fns B (n+4)) B b_law_told_5 [some (.str x),y1,y2,y3,y4,none] (h++g)∧∃ i,y2=some (.ref i)∧getL (h++g) i=some ds:=by
 have cx:cutX x none (some (-5))=x.take (x.length - 5):=by
  unfold cutX cutN
  simp only [show (-5:Int) < 0 by omega,if_true,List.drop_zero,Nat.sub_zero]
  congr 1
  omega
 have bl:(x.take (x.length - 5)).length≤900:=by rw [List.length_take]; omega
 generalize x.take (x.length - 5)=b at *
 have pa:=parts_all b 32
 have hl:=spl_len 32 b b.length []
 have hm:=spl_mem 32 b b.length []
 unfold told0
 cases q:splA 32 b with
 | nil=>exact absurd q (spl_ne 32 b b.length [])
 | cons k r =>
  have hl:(k::r).length≤901:=by rw [← q]; unfold splA; omega
  have hm:∀ w ∈ k::r,w.length≤900:=fun w hw=>by
   have:=hm w (by unfold splA at q; rw [q]; exact hw)
   simp only [List.length_nil] at this
   omega
  rw [q] at pa
  have pa:(partsT b (posC 32 0 b)).map D.str=(k::r).map D.str:=by rw [pa]
  have l0:((k::r).map D.str).length≤16777216:=by rw [List.length_map]; omega
  have ix0:((ixN ((k::r).map D.str).length 0).bind fun j=>((k::r).map D.str)[j]?)=some (.str k):=ixT (xs:=(k::r).map D.str) (k:=0) (d:=.str k) rfl
  have c15:cutX ((k::r).map D.str) (some 1) (some 5)=(r.take 4).map D.str:=by
   have e1:cutX (k::r) (some 1) (some 5)=r.take 4:=by
    unfold cutX cutN
    simp only [show ¬ (1:Int) < 0 by omega,if_false,show ¬ (5:Int) < 0 by omega,List.length_cons]
    have h1:min (1:Int).toNat (r.length+1)=1:=by show min 1 (r.length+1)=1; omega
    have h2:min (5:Int).toNat (r.length+1) - 1=min 4 r.length:=by show min 5 (r.length+1) - 1=min 4 r.length; omega
    rw [h1,h2]
    show r.take (min 4 r.length)=r.take 4
    rw [← List.take_take,List.take_of_length_le (Nat.le_refl _)]
   unfold cutX at e1 ⊢
   rw [List.length_map,← List.map_drop,← List.map_take,e1]
  have c5:cutX ((k::r).map D.str) (some 5) none=(r.drop 4).map D.str:=by
   have:=cutD_from ((k::r).map D.str) 5
   rw [← List.map_drop,List.drop_succ_cons] at this
   exact this
  have l6:((r.take 4).map D.str).length≤16777216:=by rw [List.length_map,List.length_take]; omega
  have tk4:(r.take 4).length≤4:=by rw [List.length_take]; omega
  -- the loop over the numbers
  have loop:∃ l3,forLive (turnOf (TG.nm 3) (denS (callN fns B (n+4)) B b_law_told_1)) (h.length+2) (liveN (h++[O.lst ((k::r).map D.str),O.lst [D.str k],O.lst ((r.take 4).map D.str)]) (h.length+2)) 0 [some (.str x),some (.ref h.length),some (.ref (h.length+1)),none,none,none] (h++[O.lst ((k::r).map D.str),O.lst [D.str k],O.lst ((r.take 4).map D.str)])=.nx [some (.str x),some (.ref h.length),some (.ref (h.length+1)),l3,none,none] (h++[O.lst ((k::r).map D.str),O.lst (.str k::(r.take 4).map num2),O.lst ((r.take 4).map D.str)]):=by
   obtain ⟨σ',H',e,l3,e1,e2⟩:=forIt_live (fun j σ H=>∃ l3,σ=[some (.str x),some (.ref h.length),some (.ref (h.length+1)),l3,none,none]∧H=h++[O.lst ((k::r).map D.str),O.lst (.str k::((r.take 4).take j).map num2),O.lst ((r.take 4).map D.str)])
    (turnOf (TG.nm 3) (denS (callN fns B (n+4)) B b_law_told_1)) (h.length+2) ((r.take 4).map D.str) [some (.str x),some (.ref h.length),some (.ref (h.length+1)),none,none,none] (h++[O.lst ((k::r).map D.str),O.lst [D.str k],O.lst ((r.take 4).map D.str)]) ⟨none,rfl,rfl⟩
    (fun j σ H ⟨l3,_,e2⟩=>by rw [e2,getL_add]; rfl)
    (fun j y σ H hj ⟨l3,e1,e2⟩=>by
     rw [List.getElem?_map] at hj
     cases q4:(r.take 4)[j]? with
     | none=>rw [q4] at hj; cases hj
     | some w =>
      rw [q4] at hj
      have hj:D.str w=y:=Option.some.inj hj
      subst hj
      subst e1
      subst e2
      have jl:=(List.getElem?_eq_some_iff.mp q4).1
      have wm:w ∈ r.take 4:=List.mem_of_getElem? q4
      have wl:=hm w (List.mem_cons_of_mem _ (List.mem_of_mem_take wm))
      have ew:=m_num2 B (n+3) w (by omega) (h++[O.lst ((k::r).map D.str),O.lst (.str k::((r.take 4).take j).map num2),O.lst ((r.take 4).map D.str)])
      have ew:callN fns B (n+4) 42 [.str w] (h++[O.lst ((k::r).map D.str),O.lst (.str k::((r.take 4).take j).map num2),O.lst ((r.take 4).map D.str)])=.ok (num2 w) (h++[O.lst ((k::r).map D.str),O.lst (.str k::((r.take 4).take j).map num2),O.lst ((r.take 4).map D.str)]):=ew
      have tk:((r.take 4).take (j+1)).map num2=((r.take 4).take j).map num2++[num2 w]:=by
       rw [List.take_succ,q4,List.map_append]; rfl
      have gl:getL (h++[O.lst ((k::r).map D.str),O.lst (.str k::((r.take 4).take j).map num2),O.lst ((r.take 4).map D.str)]) (h.length+1)=some (.str k::((r.take 4).take j).map num2):=by rw [getL_add]; rfl
      have gt:(h++[O.lst ((k::r).map D.str),O.lst (.str k::((r.take 4).take j).map num2),O.lst ((r.take 4).map D.str)])[h.length+1]?=some (O.lst (.str k::((r.take 4).take j).map num2)):=by rw [get_add]; rfl
      have sl:(((r.take 4).take j).map num2).length≤4:=by rw [List.length_map,List.length_take]; omega
      refine ⟨_,_,?_,some (.str w),rfl,by rw [tk]⟩
      rw [turnOf_nm]
      generalize (k::r).map D.str=W at *
      generalize ((r.take 4).take j).map num2=A at *
      generalize (r.take 4).map D.str=S at *
      simp! only [b_law_told_1,gl,ew,gt,if_pos (show A.length+1 < 16777216 by omega),set_add,show A.length < 16777215 by omega])
   subst e1
   rw [List.length_map,List.take_length] at e2
   subst e2
   exact ⟨l3,e⟩
  obtain ⟨l3,loop⟩:=loop
  have pre:∀ RR:SR,denS (callN fns B (n+4)) B b_law_told_7 [some (.str x),some (.ref h.length),some (.ref (h.length+1)),l3,none,none] (h++[O.lst ((k::r).map D.str),O.lst (.str k::(r.take 4).map num2),O.lst ((r.take 4).map D.str)])=RR→denS (callN fns B (n+4)) B b_law_told [some (.str x),none,none,none,none,none] h=RR:=fun RR hR=>by
   rw [← hR]
   have g0:∀ m:AH,getL (h++O.lst ((k::r).map D.str)::m) h.length=some ((k::r).map D.str):=fun m=>by rw [getL_len]; rfl
   have gS:getL (h++[O.lst ((k::r).map D.str),O.lst [D.str k],O.lst ((r.take 4).map D.str)]) (h.length+2)=some ((r.take 4).map D.str):=by rw [getL_add]; rfl
   generalize (k::r).map D.str=W at *
   generalize (r.take 4).map num2=A at *
   generalize (r.take 4).map D.str=S at *
   simp! only [b_law_told,if_pos (show x.length≤16777216 by omega),cx,if_pos (show 32 < 256∧b.length≤1000000 by omega),show b.length≤1000000 by omega,pa,if_pos l0,List.append_assoc,List.length_append,g0,Option.bind_some,ix0,if_pos (show 1≤16777216 by omega),c15,if_pos l6,gS,loop]
  have g0:∀ m:AH,getL (h++O.lst ((k::r).map D.str)::m) h.length=some ((k::r).map D.str):=fun m=>by rw [getL_len]; rfl
  have g1:∀ m:AH,getL (h++O.lst ((k::r).map D.str)::O.lst (.str k::(r.take 4).map num2)::m) (h.length+1)=some (.str k::(r.take 4).map num2):=fun m=>by rw [getL_add]; rfl
  have t1:∀ m:AH,(h++O.lst ((k::r).map D.str)::O.lst (.str k::(r.take 4).map num2)::m)[h.length+1]?=some (O.lst (.str k::(r.take 4).map num2)):=fun m=>by rw [get_add]; rfl
  have sl:((r.take 4).map num2).length≤4:=by rw [List.length_map]; exact tk4
  by_cases e1:k=DATA
  ·have eb:(k == ([100,97,116,97]:Tx))=true:=by rw [e1]; rfl
   have eb2:(k == ([97,110,115,119,101,114]:Tx))=false:=by rw [e1]; rfl
   have ex:extra k r=[.str ((joinT [32] (r.drop 4)).drop ((findC (joinT [32] (r.drop 4)) 58)+1).toNat)]:=if_pos e1
   have d4:∀ w ∈ r.drop 4,w.length≤900:=fun w hw=>hm w (List.mem_cons_of_mem _ (List.mem_of_mem_drop hw))
   have dl:(r.drop 4).length≤901:=by rw [List.length_drop]; simp only [List.length_cons] at hl; omega
   have l7:((r.drop 4).map D.str).length≤16777216:=by rw [List.length_map]; omega
   have jn:joinN [32] (r.drop 4)≤16777216:=by
    have:=joinN_le 32 900 (r.drop 4) d4
    omega
   have jl:(joinT [32] (r.drop 4)).length≤16777216:=by
    have h1:=joinT_drop 32 5 (k::r)
    have h2:(joinT [32] (k::r)).length=b.length:=by
     rw [← q]
     unfold splA
     rw [join_spl]
     rfl
    rw [List.drop_succ_cons] at h1
    omega
   have fg:=find_ge (joinT [32] (r.drop 4)) 58
   have cf:cutX (joinT [32] (r.drop 4)) (some (findC (joinT [32] (r.drop 4)) 58+1)) none=(joinT [32] (r.drop 4)).drop ((findC (joinT [32] (r.drop 4)) 58)+1).toNat:=by
    have:=cutD_from (joinT [32] (r.drop 4)) ((findC (joinT [32] (r.drop 4)) 58)+1).toNat
    rw [show ((((findC (joinT [32] (r.drop 4)) 58)+1).toNat:Nat):Int)=findC (joinT [32] (r.drop 4)) 58+1 by omega] at this
    exact this
   have gj:getL (h++[O.lst ((k::r).map D.str),O.lst (.str k::(r.take 4).map num2),O.lst ((r.take 4).map D.str),O.lst ((r.drop 4).map D.str)]) (h.length+3)=some ((r.drop 4).map D.str):=by rw [getL_add]; rfl
   refine ⟨[O.lst ((k::r).map D.str),O.lst (.str k::((r.take 4).map num2++extra k r)),O.lst ((r.take 4).map D.str),O.lst ((r.drop 4).map D.str)],some (.ref h.length),some (.ref (h.length+1)),l3,some (.str (joinT [32] (r.drop 4))),_,rfl,pre _ ?_,h.length+1,rfl,by rw [getL_add]; rfl⟩
   rw [ex]
   generalize (k::r).map D.str=W at *
   generalize (r.take 4).map num2=A at *
   generalize (r.take 4).map D.str=S at *
   generalize hJ:joinT [32] (r.drop 4)=J at *
   generalize hD:(r.drop 4).map D.str=Dr at *
   have sD:strsOf Dr=some (r.drop 4):=by rw [← hD]; exact strs_map _
   generalize J.drop (findC J 58+1).toNat=jd at *
   have st:denS (callN fns B (n+4)) B b_law_told_2 [some (.str x),some (.ref h.length),some (.ref (h.length+1)),l3,none,none] (h++[O.lst W,O.lst (.str k::A),O.lst S])=.nx [some (.str x),some (.ref h.length),some (.ref (h.length+1)),l3,some (.str J),none] (h++[O.lst W,O.lst (.str k::(A++[.str jd])),O.lst S,O.lst Dr]):=by
    simp! only [b_law_told_2,g0,c5,if_pos l7,List.append_assoc,List.length_append,gj,Option.bind_some,sD,if_pos jn,hJ,g1,if_pos jl,cf,t1,if_pos (show A.length+1 < 16777216 by omega),set_add,show A.length < 16777215 by omega]
   simp only [b_law_told_7,denS,denT,den,M.bind_eq,M.ret_eq,R.bind_ok,ofR_ok,List.getElem?_cons_zero,List.getElem?_cons_succ,o_ix3,g0,Option.bind_some,ix0,o_eq1,e_str_str,eb,t_bl,if_true,st,andThen_nx]
   simp! only [b_law_told_6,g0,Option.bind_some,ix0,eb2]
  ·have eb:(k == ([100,97,116,97]:Tx))=false:=beq_eq_false_iff_ne.mpr e1
   by_cases e2:k=ANS∧r.length=6
   ·have eb2:(k == ([97,110,115,119,101,114]:Tx))=true:=by rw [e2.1]; rfl
    have ex:extra k r=[num2 (r.getD 4 []),spans2 (r.getD 5 [])]:=by unfold extra; rw [if_neg e1,if_pos e2]
    have l7:((((k::r).map D.str).length:Int) == 7)=true:=by rw [List.length_map,List.length_cons,e2.2]; rfl
    have r4:r[4]?=some (r.getD 4 []):=by rw [List.getD_eq_getElem?_getD,List.getElem?_eq_getElem (by omega),Option.getD_some]
    have r5:r[5]?=some (r.getD 5 []):=by rw [List.getD_eq_getElem?_getD,List.getElem?_eq_getElem (by omega),Option.getD_some]
    have m4:=hm _ (List.mem_cons_of_mem _ (List.mem_of_getElem? r4))
    have m5:=hm _ (List.mem_cons_of_mem _ (List.mem_of_getElem? r5))
    have i5:((ixN ((k::r).map D.str).length 5).bind fun j=>((k::r).map D.str)[j]?)=some (.str (r.getD 4 [])):=ixT (xs:=(k::r).map D.str) (k:=5) (by rw [List.getElem?_map,List.getElem?_cons_succ,r4]; rfl)
    have i6:((ixN ((k::r).map D.str).length 6).bind fun j=>((k::r).map D.str)[j]?)=some (.str (r.getD 5 [])):=ixT (xs:=(k::r).map D.str) (k:=6) (by rw [List.getElem?_map,List.getElem?_cons_succ,r5]; rfl)
    generalize r.getD 4 []=w4 at *
    generalize r.getD 5 []=w5 at *
    obtain ⟨g,es⟩:=m_spans2 (B:=B) (n:=n+2) w5 m5 (h++[O.lst ((k::r).map D.str),O.lst (.str k::((r.take 4).map num2++[num2 w4])),O.lst ((r.take 4).map D.str)])
    have es:callN fns B (n+4) 43 [.str w5] (h++[O.lst ((k::r).map D.str),O.lst (.str k::((r.take 4).map num2++[num2 w4])),O.lst ((r.take 4).map D.str)])=_:=es
    have en:=fun H=>m_num2 B (n+3) w4 (by omega) H
    have en:∀ H,callN fns B (n+4) 42 [.str w4] H=.ok (num2 w4) H:=en
    refine ⟨[O.lst ((k::r).map D.str),O.lst (.str k::((r.take 4).map num2++extra k r)),O.lst ((r.take 4).map D.str)]++g,some (.ref h.length),some (.ref (h.length+1)),l3,none,_,rfl,pre _ ?_,h.length+1,rfl,by rw [← List.append_assoc]; exact getL_app g (by rw [getL_add]; rfl)⟩
    rw [ex]
    generalize (k::r).map D.str=W at *
    generalize (r.take 4).map num2=A at *
    generalize (r.take 4).map D.str=S at *
    generalize num2 w4=v4 at *
    generalize spans2 w5=v5 at *
    have g2:∀ m:AH,getL (h++O.lst W::O.lst (.str k::(A++[v4]))::m) (h.length+1)=some (.str k::(A++[v4])):=fun m=>by rw [getL_add]; rfl
    have t2:∀ m:AH,(h++O.lst W::O.lst (.str k::(A++[v4]))::m)[h.length+1]?=some (O.lst (.str k::(A++[v4]))):=fun m=>by rw [get_add]; rfl
    have fin:A++[v4]++[v5]=A++[v4,v5]:=by rw [List.append_assoc]; rfl
    simp! only [b_law_told_7,g0,Option.bind_some,ix0,eb,b_law_told_6,eb2,l7,b_law_told_3,g1,i5,en,t1,if_pos (show A.length+1 < 16777216 by omega),show A.length < 16777215 by omega,set_add,i6,g2,es,List.append_assoc,t2,List.length_append,if_pos (show A.length+1+1 < 16777216 by omega),show A.length+1 < 16777215 by omega]
   ·have ex:extra k r=[]:=by unfold extra; rw [if_neg e1,if_neg e2]
    refine ⟨[O.lst ((k::r).map D.str),O.lst (.str k::(r.take 4).map num2),O.lst ((r.take 4).map D.str)],some (.ref h.length),some (.ref (h.length+1)),l3,none,_,rfl,pre _ ?_,h.length+1,rfl,by rw [ex,List.append_nil,getL_add]; rfl⟩
    have wl:(((k::r).map D.str).length:Int)=((r.length+1:Nat):Int):=by rw [List.length_map,List.length_cons]
    generalize (k::r).map D.str=W at *
    generalize (r.take 4).map num2=A at *
    generalize (r.take 4).map D.str=S at *
    by_cases e3:k=ANS
    ·have eb2:(k == ([97,110,115,119,101,114]:Tx))=true:=by rw [e3]; rfl
     have l7:((W.length:Int) == 7)=false:=by
      rw [wl,Bool.eq_false_iff]
      intro z
      have z:((r.length+1:Nat):Int)=7:=by simpa using z
      exact e2 ⟨e3,by omega⟩
     simp! only [b_law_told_7,g0,Option.bind_some,ix0,eb,b_law_told_6,eb2,l7]
    ·have eb2:(k == ([97,110,115,119,101,114]:Tx))=false:=beq_eq_false_iff_ne.mpr e3
     simp! only [b_law_told_7,g0,Option.bind_some,ix0,eb,b_law_told_6,eb2]
end
theorem figOk_tx {m:Nat} (h:m≤1000000000000):figOk (txN m)=true:=by
 have:=num_fig m h
 unfold numOf at this
 split at this
 ·assumption
 ·cases this
theorem sp1_ok {q:Nat × Nat} (h:q.1≤1000000∧q.2≤1000000):sp1 (spW1 q)=some (spD2 q):=by
 have e:splA 45 (spW1 q)=[txN q.1,txN q.2]:=splA_join (txN q.1) [txN q.2] fun v hv=>by
  simp only [List.mem_cons,List.not_mem_nil,or_false] at hv
  rcases hv with rfl | rfl
  ·exact fun z=>by have:=txN_mem z; omega
  ·exact fun z=>by have:=txN_mem z; omega
 unfold sp1 spD2
 rw [e]
 simp only
 rw [if_pos ⟨figOk_tx (by omega),figOk_tx (by omega)⟩,txN_val,txN_val]
theorem sp2_ok:∀ l:List (Nat × Nat),(∀ q ∈ l,q.1≤1000000∧q.2≤1000000)→sp2 (l.map spW1)=some (l.map spD2)
 | [],_=>rfl
 | q::r,h=>by
  rw [List.map_cons,sp2,sp1_ok (h q (List.mem_cons_self ..)),sp2_ok r fun z hz=>h z (List.mem_cons_of_mem _ hz)]
  rfl
theorem spans2_ok (l:List (Nat × Nat)) (h:∀ q ∈ l,q.1≤1000000∧q.2≤1000000):spans2 (spW l)=.tup (l.map spD2):=by
 cases l with
 | nil=>rfl
 | cons q r =>
  have e:splA 44 (spW (q::r))=(q::r).map spW1:=splA_join (spW1 q) (r.map spW1) fun v hv=>by
   have hv:v ∈ (q::r).map spW1:=hv
   obtain ⟨z,_,rfl⟩:=List.mem_map.mp hv
   exact fun z=>by have:=spW1_mem z; omega
  have ne:spW (q::r) ≠ [45]:=fun z=>by
   have h1:=joinT_sep 44 (r.map spW1) (spW1 q)
   have h2:=joinT_sep 45 [txN q.2] (txN q.1)
   have h3:=List.length_pos_iff.mpr (txN_ne q.1)
   have h4:(spW (q::r)).length=1:=by rw [z]; rfl
   have h5:(spW (q::r)).length=(joinT [44] (spW1 q::r.map spW1)).length:=rfl
   have h6:(spW1 q).length=(joinT [45] [txN q.1,txN q.2]).length:=rfl
   simp only [List.length_cons,List.length_nil] at h2
   omega
  unfold spans2
  rw [if_neg ne,e,sp2_ok _ h]
theorem spl_many {c:Nat} (l:Tx) (m:Nat):∀ ws:List Tx,(∀ v ∈ ws,c ∉ v)→spl c (joinT [c] (ws++[l])) (ws.length+m) []=ws++spl c l m []
 | [],_=>by
  show spl c l (0+m) []=_
  rw [Nat.zero_add]
  rfl
 | w::ws,h=>by
  rw [List.cons_append,joinT_cons c w (ws++[l]) (by simp),List.length_cons,show ws.length+1+m=(ws.length+m)+1 by omega,spl_word w [] (h w (List.mem_cons_self ..)),spl_many l m ws fun v hv=>h v (List.mem_cons_of_mem _ hv)]
  rfl
theorem find_word {c : Nat} {y : Tx} : ∀ w : Tx, c ∉ w → findC (w ++ c :: y) c = (w.length : Int) := by
  intro w hw
  unfold findC
  have : (w ++ c :: y).findIdx? (· == c) = some w.length := by
    rw [List.findIdx?_append]
    have e1 : w.findIdx? (· == c) = none := by
      rw [List.findIdx?_eq_none_iff]
      intro x hx
      exact beq_eq_false_iff_ne.mpr fun z => hw (by rw [← z]; exact hx)
    rw [e1]
    simp [List.findIdx?_cons]
  rw [this]
theorem parse2 {p:Pce} (hp:okP p):told0 (bod p)=toD p:=by
 obtain ⟨sh,bd⟩:=hp
 have nsm:∀ l:List Nat,(∀ n ∈ l,n≤1000000000)→(l.map txN).map num2=nsD l:=fun l hl=>by
  unfold nsD
  rw [List.map_map]
  apply List.map_congr_left
  intro n hn
  exact num2_fig n (by have:=hl n hn; omega)
 cases sh with
 | hello a b =>
  have e:splA 32 (bod ⟨HELLO,[a,b],.no⟩)=HELLO::[a,b].map txN:=splA_join HELLO ([a,b].map txN) fun v hv=>by
   rcases List.mem_cons.mp hv with rfl | hv
   ·decide
   ·exact ns32 _ v hv
  have ex:extra HELLO ([a,b].map txN)=[]:=by unfold extra; rw [if_neg (by decide),if_neg (fun z=>absurd z.1 (by decide))]
  unfold told0 toD
  rw [e]
  simp only
  rw [ex,show ([a,b].map txN).take 4=[a,b].map txN from rfl,nsm _ bd]
  rfl
 | fin a b c d =>
  have e:splA 32 (bod ⟨ENDW,[a,b,c,d],.no⟩)=ENDW::[a,b,c,d].map txN:=splA_join ENDW ([a,b,c,d].map txN) fun v hv=>by
   rcases List.mem_cons.mp hv with rfl | hv
   ·decide
   ·exact ns32 _ v hv
  have ex:extra ENDW ([a,b,c,d].map txN)=[]:=by unfold extra; rw [if_neg (by decide),if_neg (fun z=>absurd z.1 (by decide))]
  unfold told0 toD
  rw [e]
  simp only
  rw [ex,show ([a,b,c,d].map txN).take 4=[a,b,c,d].map txN from rfl,nsm _ bd]
  rfl
 | data a b c d y h1 h2 =>
  have sep:=joinT_sep 32 ([a,b,c,d].map txN++[txN y.length++[58]++y]) DATA
  have bj:bod ⟨DATA,[a,b,c,d],.sg y⟩=joinT [32] ((DATA::[a,b,c,d].map txN)++[txN y.length++[58]++y]):=rfl
  obtain ⟨m,hm⟩:∃ m,(bod ⟨DATA,[a,b,c,d],.sg y⟩).length=(DATA::[a,b,c,d].map txN).length+m:=⟨(bod ⟨DATA,[a,b,c,d],.sg y⟩).length - 5,by
   have h5:(DATA::[a,b,c,d].map txN).length=5:=rfl
   have h6:(bod ⟨DATA,[a,b,c,d],.sg y⟩).length=(joinT [32] (DATA::([a,b,c,d].map txN++[txN y.length++[58]++y]))).length:=rfl
   have h7:([a,b,c,d].map txN++[txN y.length++[58]++y]).length=5:=rfl
   omega⟩
  have e:splA 32 (bod ⟨DATA,[a,b,c,d],.sg y⟩)=DATA::([a,b,c,d].map txN++spl 32 (txN y.length++[58]++y) m []):=by
   unfold splA
   rw [hm,bj,spl_many (txN y.length++[58]++y) m (DATA::[a,b,c,d].map txN) fun v hv=>by
    rcases List.mem_cons.mp hv with rfl | hv
    ·decide
    ·exact ns32 _ v hv]
   rfl
  have t4:([a,b,c,d].map txN++spl 32 (txN y.length++[58]++y) m []).take 4=[a,b,c,d].map txN:=rfl
  have d4:([a,b,c,d].map txN++spl 32 (txN y.length++[58]++y) m []).drop 4=spl 32 (txN y.length++[58]++y) m []:=rfl
  have ex:extra DATA ([a,b,c,d].map txN++spl 32 (txN y.length++[58]++y) m [])=[.str y]:=by
   unfold extra
   rw [if_pos rfl,d4,join_spl,List.nil_append,List.append_assoc]
   have f:=find_word (c:=58) (y:=y) (txN y.length) (fun z=>by have:=txN_mem z; omega)
   show [D.str ((txN y.length++58::y).drop (findC (txN y.length++58::y) 58+1).toNat)]=_
   rw [f,show (((txN y.length).length:Int)+1).toNat=(txN y.length).length+1 by omega,← List.drop_drop,List.drop_left]
   rfl
  unfold told0 toD
  rw [e]
  simp only
  rw [ex,t4,nsm _ bd]
  rfl
 | ans a b c d f l h1 h2 =>
  have e:splA 32 (bod ⟨ANS,[a,b,c,d,f],.sp l⟩)=ANS::([a,b,c,d,f].map txN++[spW l]):=splA_join ANS ([a,b,c,d,f].map txN++[spW l]) fun v hv=>by
   rcases List.mem_cons.mp hv with rfl | hv
   ·decide
   ·rcases List.mem_append.mp hv with hv | hv
    ·exact ns32 _ v hv
    ·rw [List.mem_singleton.mp hv]
     exact fun z=>by have:=spW_mem z; omega
  have ex:extra ANS ([a,b,c,d,f].map txN++[spW l])=[num2 (txN f),spans2 (spW l)]:=by
   unfold extra
   rw [if_neg (by decide),if_pos ⟨rfl,rfl⟩]
   rfl
  have hf:f≤1000000000:=bd f (by simp)
  unfold told0 toD
  rw [e]
  simp only
  rw [ex,show ([a,b,c,d,f].map txN++[spW l]).take 4=[a,b,c,d].map txN from rfl,nsm [a,b,c,d] (fun n hn=>bd n (by
   simp only [List.mem_cons,List.not_mem_nil,or_false] at hn ⊢
   rcases hn with rfl | rfl | rfl | rfl <;> simp)),num2_fig f (by omega),spans2_ok l h2]
  rfl
section
variable {B n:Nat}
theorem m_told_no (x:Tx) (hx:x.length≤900) (hno:∀ p,okP p→pieceD (toD p)=true→wr p ≠ x) (h:AH):∃ g,callN fns B (n+5) i_law_told [.str x] h=.ok .non (h++g):=by
 rw [c_law_told]
 obtain ⟨g,y1,y2,y3,y4,ds,e1,e2,i,rfl,gi⟩:=m_told0 (B:=B) (n:=n) x hx h
 rw [e2]
 have gd:good (h++g) (.tup ds)=true:=by
  rw [← e1]
  exact good_mono (le_nil _) _ (good_told _ (by rw [List.length_take]; omega))
 have e3:=m_law_is_piece B n (.tup ds) (h++g) gd
 have e3:callN fns B (n+4) 40 [.tup ds] (h++g)=.ok (.bl (pieceD (.tup ds))) (h++g):=e3
 cases q:pieceD (.tup ds) with
 | false =>
  rw [q] at e3
  exact ⟨g,by simp! only [b_law_told_5,gi,e3]⟩
 | true =>
  rw [q] at e3
  obtain ⟨p,ep,hp⟩:=piece_of q
  obtain ⟨g2,e4⟩:=m_line B (n+2) hp (h++g)
  rw [← ep] at e4
  have e4:callN fns B (n+4) 36 [.tup ds] (h++g)=.ok (.str (wr p)) (h++g++g2):=e4
  have ne:(wr p == x)=false:=beq_eq_false_iff_ne.mpr (hno p hp (by rw [← ep]; exact q))
  refine ⟨g++g2,?_⟩
  rw [← List.append_assoc]
  generalize wr p=W at *
  simp! only [b_law_told_5,gi,e3,e4,ne]
theorem m_told_ok {p:Pce} (hp:okP p) (pd:pieceD (toD p)=true) (h:AH):∃ g,callN fns B (n+5) i_law_told [.str (wr p)] h=.ok (toD p) (h++g):=by
 rw [c_law_told]
 obtain ⟨wl,wl2⟩:=wr_len hp
 obtain ⟨g,y1,y2,y3,y4,ds,e1,e2,i,rfl,gi⟩:=m_told0 (B:=B) (n:=n) (wr p) (by omega) h
 rw [e2]
 have tb:(wr p).take ((wr p).length - 5)=bod p:=by
  rw [wl,Nat.add_sub_cancel]
  unfold wr
  rw [List.append_assoc,List.take_left]
 rw [tb,parse2 hp] at e1
 have gd:good (h++g) (.tup ds)=true:=by
  rw [← e1]
  exact good_mono (le_nil _) _ (good_toD hp)
 have e3:=m_law_is_piece B n (.tup ds) (h++g) gd
 rw [← e1,pd,e1] at e3
 have e3:callN fns B (n+4) 40 [.tup ds] (h++g)=.ok (.bl true) (h++g):=e3
 obtain ⟨g2,e4⟩:=m_line B (n+2) hp (h++g)
 rw [e1] at e4 ⊢
 have e4:callN fns B (n+4) 36 [.tup ds] (h++g)=.ok (.str (wr p)) (h++g++g2):=e4
 refine ⟨g++g2,?_⟩
 rw [← List.append_assoc]
 generalize wr p=W at *
 simp! only [b_law_told_5,gi,e3,e4,b_law_told_4]
end
theorem m_read_any (B n:Nat) (x:Tx) (hl:x.length≤900) (hno:x.all okC=true→∀ p,okP p→pieceD (toD p)=true→wr p ≠ x) (h:AH):∃ g,callN fns B (n+8) i_read [.str x] h=.exc xSp (h++g):=by
 rw [c_read]
 have e1:=m_is_signs B (n+5) x h (by omega)
 generalize hH:h++[.lst (x.map fun c=>.bl (okC c))]=H at e1
 cases hx:x.all okC with
 | false =>
  rw [hx] at e1
  have e1:callN fns B (n+7) 1 [.str x] h=.ok (.bl false) H:=e1
  refine ⟨[.lst (x.map fun c=>.bl (okC c))],?_⟩
  rw [hH]
  simp! only [b_read,e1]
 | true =>
  rw [hx] at e1
  have e1:callN fns B (n+7) 1 [.str x] h=.ok (.bl true) H:=e1
  have ir:=ix_rb x
  have rl:=rb_len x
  obtain ⟨g2,e2⟩:=m_parts B (n+2) (rb x) (by omega) H
  have e2:callN fns B (n+7) 24 [.str (rb x)] H=.ok (partsD (rb x)) (H++g2):=e2
  obtain ⟨g3,e3⟩:=m_is_piece B (n+1) (partsD (rb x)) (H++g2) (good_mono (le_nil _) _ (good_parts (rb x) (by omega)))
  have e3:callN fns B (n+7) 16 [partsD (rb x)] (H++g2)=.ok (.bl (pieceD (partsD (rb x)))) (H++g2++g3):=e3
  cases q:pieceD (partsD (rb x)) with
  | false =>
   rw [q] at e3
   refine ⟨[.lst (x.map fun c=>.bl (okC c))]++g2++g3,?_⟩
   rw [← List.append_assoc,← List.append_assoc,hH]
   generalize partsD (rb x)=d at *
   generalize rb x=r at *
   simp! only [b_read,e1,b_read_2,if_pos (show x.length≤1000000 by omega),ir,e2,e3]
  | true =>
   rw [q] at e3
   obtain ⟨p,ep,hp⟩:=piece_of q
   obtain ⟨g4,e4⟩:=m_written B n hp (by rw [← ep]; exact q) (H++g2++g3)
   rw [← ep] at e4
   have e4:callN fns B (n+7) 21 [partsD (rb x)] (H++g2++g3)=.ok (.str (wr p)) (H++g2++g3++g4):=e4
   have ne:(wr p == x)=false:=beq_eq_false_iff_ne.mpr (hno hx p hp (by rw [← ep]; exact q))
   refine ⟨[.lst (x.map fun c=>.bl (okC c))]++g2++g3++g4,?_⟩
   rw [← List.append_assoc,← List.append_assoc,← List.append_assoc,hH]
   generalize wr p=wp at *
   generalize partsD (rb x)=d at *
   generalize rb x=r at *
   simp! only [b_read,e1,b_read_2,if_pos (show x.length≤1000000 by omega),ir,e2,e3,e4,ne]
theorem len_cut (x:Tx) (A:Nat):cutX x none (some (A:Int))=x.take A∧cutX x (some (A:Int)) none=x.drop A∧cutX x (some ((A:Int)+1)) none=x.drop (A+1):=⟨cutD_to _ _,cutD_from _ _,cutD_from x (A+1)⟩
noncomputable def A96:Tx:=ALL++[10,9]
theorem a96_at (i:Int):∃ c,((ixN 96 (i % 96)).bind fun j=>A96[j]?)=some c:=by
 have h1:=Int.emod_nonneg i (show (96:Int) ≠ 0 by omega)
 have h2:=Int.emod_lt_of_pos i (show (0:Int) < 96 by omega)
 obtain ⟨k,hk,hk2⟩:∃ k:Nat,i % 96=(k:Int)∧k < 96:=⟨(i % 96).toNat,by omega,by omega⟩
 have hk3:k < A96.length:=hk2
 refine ⟨A96[k],?_⟩
 rw [hk,ixN_nat hk2,Option.bind_some,List.getElem?_eq_getElem hk3]
noncomputable def F14:Tx:=[48,49,50,51,52,53,54,55,56,57,32,45,44,58]
theorem f14_at (i:Int):∃ c,((ixN 14 (i % 14)).bind fun j=>F14[j]?)=some c:=by
 have h1:=Int.emod_nonneg i (show (14:Int) ≠ 0 by omega)
 have h2:=Int.emod_lt_of_pos i (show (0:Int) < 14 by omega)
 obtain ⟨k,hk,hk2⟩:∃ k:Nat,i % 14=(k:Int)∧k < 14:=⟨(i % 14).toNat,by omega,by omega⟩
 have hk3:k < F14.length:=hk2
 refine ⟨F14[k],?_⟩
 rw [hk,ixN_nat hk2,Option.bind_some,List.getElem?_eq_getElem hk3]
theorem m_mended (B n:Nat) (x:Tx) (hx:x.length≤800) (c:Int) (h:AH):∃ y,callN fns B (n+2) i_law_mended [.str x,.int c] h=.ok (.str y) h∧y.length≤x.length+1:=by
 rw [c_law_mended]
 have al:=m_all B n h
 have al:callN fns B (n+1) 29 [] h=.ok (.str ALL) h:=al
 obtain ⟨s1,hs1⟩:=a96_at (c / 6)
 obtain ⟨s2,hs2⟩:=f14_at (c / 6)
 have l96:A96.length=96:=rfl
 have l14:F14.length=14:=rfl
 have hA:ALL++[10,9]=A96:=rfl
 have hF:D.str [48,49,50,51,52,53,54,55,56,57,32,45,44,58]=D.str F14:=rfl
 obtain ⟨A,hA2,hA3⟩:∃ A:Nat,c / 600 % ((x.length:Int)+1)=(A:Int)∧A≤x.length:=by
  have h1:=Int.emod_nonneg (c / 600) (show ((x.length:Int)+1) ≠ 0 by omega)
  have h2:=Int.emod_lt_of_pos (c / 600) (show (0:Int) < (x.length:Int)+1 by omega)
  exact ⟨(c / 600 % ((x.length:Int)+1)).toNat,by omega,by omega⟩
 obtain ⟨c1,c2,c3⟩:=len_cut x A
 have tl:(x.take A).length≤800:=by rw [List.length_take]; omega
 have dl:(x.drop A).length≤800:=by rw [List.length_drop]; omega
 have dl1:(x.drop (A+1)).length≤800:=by rw [List.length_drop]; omega
 have n1:(x.take A++x.drop A).length≤x.length:=by rw [List.take_append_drop]; exact Nat.le_refl _
 have n2:(x.take A).length+(x.drop (A+1)).length≤x.length:=by rw [List.length_take,List.length_drop]; omega
 rw [List.length_append] at n1
 -- from the sign on
 have rest:∀ s:Nat,∃ y,Fy.fin (denS (callN fns B (n+1)) B b_law_mended_4 [some (.str x),some (.int c),some (.str [s]),none] h)=.ok (.str y) h∧y.length≤x.length+1:=fun s=>by
  generalize hta:x.take A=ta at *
  generalize htd:x.drop A=td at *
  generalize htf:x.drop (A+1)=tf at *
  rcases Bool.eq_false_or_eq_true (c % 3 == 0) with q | q
  ·refine ⟨ta++[s]++td,?_,by rw [List.length_append,List.length_append]; simp only [List.length_cons,List.length_nil]; omega⟩
   simp! only [b_law_mended_4,show (0:Int) < 600∧(600:Int) < 1073741824 by omega,if_pos (show x.length≤16777216 by omega),if_pos (show (0:Int) < (x.length:Int)+1 by omega),hA2,show (0:Int) < 3 by omega,q,c1,c2,List.length_append,if_pos (show ta.length+1≤16777216 by omega),if_pos (show ta.length+1+td.length≤16777216 by omega),show ta.length≤16777215 by omega]
  ·rcases Bool.eq_false_or_eq_true (c % 3 == 1) with q1 | q1
   ·refine ⟨ta++tf,?_,by rw [List.length_append]; omega⟩
    simp! only [b_law_mended_4,show (0:Int) < 600∧(600:Int) < 1073741824 by omega,if_pos (show x.length≤16777216 by omega),if_pos (show (0:Int) < (x.length:Int)+1 by omega),hA2,show (0:Int) < 3 by omega,q,b_law_mended_3,q1,c1,c3,if_pos (show ta.length+tf.length≤16777216 by omega)]
   ·refine ⟨ta++[s]++tf,?_,by rw [List.length_append,List.length_append]; simp only [List.length_cons,List.length_nil]; omega⟩
    simp! only [b_law_mended_4,show (0:Int) < 600∧(600:Int) < 1073741824 by omega,if_pos (show x.length≤16777216 by omega),if_pos (show (0:Int) < (x.length:Int)+1 by omega),hA2,show (0:Int) < 3 by omega,q,b_law_mended_3,q1,b_law_mended_2,c1,c3,List.length_append,if_pos (show ta.length+1≤16777216 by omega),if_pos (show ta.length+1+tf.length≤16777216 by omega),show ta.length≤16777215 by omega]
 rcases Bool.eq_false_or_eq_true (c / 3 % 2 == 0) with q | q
 ·obtain ⟨y,e,hy⟩:=rest s2
  refine ⟨y,?_,hy⟩
  have st:denS (callN fns B (n+1)) B b_law_mended_1 [some (.str x),some (.int c),some (.str [s1]),none] h=.nx [some (.str x),some (.int c),some (.str [s2]),none] h:=by
   simp! only [b_law_mended_1,hF,show (0:Int) < 6∧(6:Int) < 1073741824 by omega,show (0:Int) < 14 by omega,l14,if_pos (show 14≤16777216 by omega),hs2]
  simp! only [b_law_mended,al,hA,if_pos (show ALL.length+2≤16777216 by rw [ALL_len]; omega),show ALL.length≤16777214 by (rw [ALL_len]; omega),show (0:Int) < 6∧(6:Int) < 1073741824 by omega,show (0:Int) < 96 by omega,l96,if_pos (show 96≤16777216 by omega),hs1,show (0:Int) < 3∧(3:Int) < 1073741824 by omega,show (0:Int) < 2 by omega,q,st,e]
 ·obtain ⟨y,e,hy⟩:=rest s1
  refine ⟨y,?_,hy⟩
  simp! only [b_law_mended,al,hA,if_pos (show ALL.length+2≤16777216 by rw [ALL_len]; omega),show ALL.length≤16777214 by (rw [ALL_len]; omega),show (0:Int) < 6∧(6:Int) < 1073741824 by omega,show (0:Int) < 96 by omega,l96,if_pos (show 96≤16777216 by omega),hs1,show (0:Int) < 3∧(3:Int) < 1073741824 by omega,show (0:Int) < 2 by omega,q,e]
noncomputable def isS (d:D):Bool:=match d with
 | .str y=>decide (y.length≤30)
 | _=>false
theorem gm0 (h:AH) (a:O):(h++[a])[h.length]?=some a:=by simp
theorem gm1 (h:AH) (a b:O):(h++[a]++[b])[h.length]?=some a:=by simp
theorem m_odd (B n:Nat) (c:Int) (h:AH):∃ y f,callN fns B (n+1) i_law_odd [.int c] h=.ok (.str y) (h++f)∧y.length≤30:=by
 rw [c_law_odd]
 obtain ⟨k,hk,hk2⟩:∃ k:Nat,c % 20=(k:Int)∧k < 20:=⟨(c % 20).toNat,by omega,by omega⟩
 simp! only [b_law_odd,gm0,gm1,getL_new,Option.bind_some,hk,ixN_nat hk2,show (0:Int) < 20 by omega]
 split
 ·rename_i d hd
  have hm:=List.mem_of_getElem? hd
  have key:∀ (l:List D) (d:D),d ∈ l→l.all isS=true→isS d=true:=fun l d hm ha=>List.all_eq_true.mp ha d hm
  have:=key _ d hm rfl
  cases d with
  | str y =>
   have hy:y.length≤30:=of_decide_eq_true this
   simp only [ofR_ok,fin_rt,List.append_assoc]
   exact ⟨y,_,rfl,hy⟩
  | _=>cases this
 ·rename_i hd
  rw [List.getElem?_eq_none_iff] at hd
  simp only [List.length_cons,List.length_nil] at hd
  omega
theorem m_refused6 (B n:Nat) (d:D) (h:AH) (g:good h d=true) (hs:sgOk d=false):∃ f,callN fns B (n+4) i_law_refused [d] h=.ok (.bl true) (h++f):=by
 rw [c_law_refused]
 obtain ⟨f,e1⟩:=m_is_signs_any B n d h g
 rw [hs] at e1
 have e1:callN fns B (n+2) 1 [d] h=.ok (.bl false) (h++f):=e1
 have e2:callN fns B (n+3) 25 [d] h=.exc xSp (h++f):=by
  have:=c_read B (n+2) d h
  rw [this]
  simp! only [b_read,e1]
 have ct:([91742370622580]:List Nat).contains xSp=true:=by decide
 exact ⟨f,by simp! only [b_law_refused,b_law_refused_1,e2,ct,b_law_refused_2]⟩
theorem mapRow_fm (f:D→M (Option D)) (r:D→Option D) (h:AH):∀ xs:List D,(∀ x ∈ xs,f x h=.ok (r x) h)→mapRow f xs h=.ok (xs.filterMap r) h
 | [],_=>rfl
 | x::xs,H=>by
  have h1:=H x (List.mem_cons_self ..)
  have h2:=mapRow_fm f r h xs fun y hy=>H y (List.mem_cons_of_mem _ hy)
  unfold mapRow
  simp only [M.bind_eq,h1,R.bind_ok,h2,M.ret_eq]
  cases q:r x with
  | none=>rw [List.filterMap_cons_none q]
  | some y=>rw [List.filterMap_cons_some q]
theorem joinT_nil6 (x:Tx):∀ r:List Tx,joinT [] (x::r)=x++joinT [] r
 | []=>by show x=x++[]; rw [List.append_nil]
 | y::r=>by show x++[]++joinT [] (y::r)=_; rw [List.append_nil]
theorem joinT_one6:∀ y:Tx,joinT [] (y.map fun c=>[c])=y
 | []=>rfl
 | c::y=>by rw [List.map_cons,joinT_nil6,joinT_one6 y]; rfl
theorem t6 (n:Nat) (x:Tx) (hx:x.length≤800) (x0 x1 x2 x4 x5 x6 x7 x8:Option D) (G:AH):∃ y x5' g,denS (callN fns 1000 (n+8)) 1000 b_law_6 [x0,x1,x2,some (.str x),x4,x5,x6,x7,x8] G=.nx [x0,x1,x2,some (.str y),x4,x5',x6,x7,x8] (G++g)∧y.length≤900:=by
 have al:=m_all 1000 (n+7) G
 have al:callN fns 1000 (n+8) 29 [] G=.ok (.str ALL) G:=al
 have hm:mapRow (compIfF (den (callN fns 1000 (n+8)) b_law_4) (denT (callN fns 1000 (n+8)) b_law_5) [x0,x1,x2,some (.str x),x4,x5,x6,x7,x8]) (x.map fun c=>D.str [c]) G=.ok (((x.filter fun c=>ALL.contains c).map fun c=>[c]).map D.str) G:=by
  rw [mapRow_fm _ (fun d=>match d with | .str [c]=>if ALL.contains c=true then some (.str [c]) else none | _=>none) G _ (fun z hz=>by
   obtain ⟨c,_,rfl⟩:=List.mem_map.mp hz
   unfold compIfF
   cases q:ALL.contains c with
   | true =>
    simp! only [List.cons_append,List.nil_append,b_law_5,al,q,b_law_4]
   | false =>
    simp! only [List.cons_append,List.nil_append,b_law_5,al,q])]
  congr 1
  clear hx
  induction x with
  | nil=>rfl
  | cons c x ih =>
   rw [List.map_cons]
   cases q:ALL.contains c with
   | true =>
    rw [List.filterMap_cons_some (b:=.str [c]) (by simp only [q,if_true]),List.filter_cons_of_pos q,ih]
    rfl
   | false =>
    rw [List.filterMap_cons_none (by simp only [q,Bool.false_eq_true,if_false]),List.filter_cons_of_neg (by rw [q]; decide),ih]
 generalize hz:(x.filter fun c=>ALL.contains c)=z at hm
 have zl:z.length≤800:=by rw [← hz]; exact Nat.le_trans (List.length_filter_le _ _) hx
 have sD:=strs_map (z.map fun c=>[c])
 have jz:=joinT_one6 z
 have jn:joinN [] (z.map fun c=>[c])≤16777216:=by
  unfold joinN
  rw [List.map_map,List.length_map,show (List.length ∘ fun (c:Nat)=>[c])=fun _=>1 from rfl,List.map_const',List.sum_replicate_nat]
  simp only [List.length_nil,Nat.mul_zero]
  omega
 have l1:((z.map fun c=>[c]).map D.str).length≤16777216:=by rw [List.length_map,List.length_map]; omega
 have lx:(x.map fun c=>D.str [c]).length < 16777216:=by rw [List.length_map]; omega
 obtain ⟨c0,c1⟩:=chk_rng z 7 (by omega) (by omega)
 have fl:=four_len _ c0 c1
 generalize (z.map fun c=>[c]).map D.str=Z at *
 have gl:getL (G++[O.lst Z]) G.length=some Z:=by rw [getL_len]; rfl
 have e1:=m_law_check 1000 (n+7) z (G++[O.lst Z])
 have e1:callN fns 1000 (n+8) 31 [.str z] (G++[O.lst Z])=.ok (.int (chk 7 z)) (G++[O.lst Z]):=e1
 have e2:=m_four 1000 (n+7) (chk 7 z) c0 c1 (G++[O.lst Z])
 have e2:callN fns 1000 (n+8) 35 [.int (chk 7 z)] (G++[O.lst Z])=.ok (.str (four (chk 7 z))) (G++[O.lst Z]):=e2
 refine ⟨x++[32]++four (chk 7 z),some (.str z),[O.lst Z],?_,by rw [List.length_append,List.length_append,fl]; simp only [List.length_cons,List.length_nil]; omega⟩
 generalize four (chk 7 z)=q at *
 generalize (z.map fun c=>[c])=zs at *
 simp! only [b_law_6,if_pos lx,hm,if_pos l1,gl,Option.bind_some,sD,if_pos jn,jz,if_pos (show x.length+1≤16777216 by omega),e1,e2,List.length_append,fl,if_pos (show x.length+1+4≤16777216 by omega),show x.length≤16777215 by omega,show x.length≤16777211 by omega]
theorem t10 (n:Nat) (x:Tx) (hx:x.length≤900) (x0 x1 x2 x4 x5:Option D) (G:AH):∃ G',denS (callN fns 1000 (n+8)) 1000 b_law_10 [x0,x1,x2,some (.str x),x4,x5,none,none,none] G=.rt (.bl true) G':=by
 by_cases E:∃ p,okP p∧pieceD (toD p)=true∧wr p=x
 ·obtain ⟨p,hp,pd,rfl⟩:=E
  obtain ⟨wl,wl2⟩:=wr_len hp
  obtain ⟨g1,e1⟩:=m_told_ok (B:=1000) (n:=n+3) hp pd G
  have e1:callN fns 1000 (n+8) 44 [.str (wr p)] G=.ok (toD p) (G++g1):=e1
  obtain ⟨g2,e2⟩:=m_read_ok 1000 n hp pd (wr_ok hp) (by omega) (by rw [rb_wr]; exact parse hp) (G++g1)
  have e2:callN fns 1000 (n+8) 25 [.str (wr p)] (G++g1)=.ok (toD p) (G++g1++g2):=e2
  have e3:=m_same 1000 (G++g1++g2) 2 (n+4) (.str p.k::(nsD p.ns++laD p.la)) (flat_toD hp) (by omega)
  have e3:callN fns 1000 (n+8) 41 [toD p,toD p] (G++g1++g2)=.ok (.bl true) (G++g1++g2):=e3
  have nn:∀ H:AH,unD .notN (toD p) H=.ok (.bl true) H:=fun H=>rfl
  refine ⟨G++g1++g2,?_⟩
  have td:toD p=.tup (.str p.k::(nsD p.ns++laD p.la)):=rfl
  rw [td] at e1 e2 e3
  generalize (D.str p.k::(nsD p.ns++laD p.la))=ds at *
  generalize wr p=W at *
  simp! only [b_law_10,e1,b_law_7,e2,b_law_9,e3]
 ·have hno:∀ p,okP p→pieceD (toD p)=true→wr p ≠ x:=fun p h1 h2 h3=>E ⟨p,h1,h2,h3⟩
  obtain ⟨g1,e1⟩:=m_told_no (B:=1000) (n:=n+3) x hx hno G
  have e1:callN fns 1000 (n+8) 44 [.str x] G=.ok .non (G++g1):=e1
  obtain ⟨g2,e2⟩:=m_read_any 1000 n x hx (fun _=>hno) (G++g1)
  have e2:callN fns 1000 (n+8) 25 [.str x] (G++g1)=.exc xSp (G++g1++g2):=e2
  have c1:([332437021739526678278002,91742370622580,22077439339750245]:List Nat).contains xSp=true:=by decide
  have c2:([91742370622580]:List Nat).contains xSp=true:=by decide
  generalize G++g1++g2=H at *
  have gx:(H++[O.xc xSp])[H.length]?=some (.xc xSp):=by rw [get_len]; rfl
  refine ⟨H++[.xc xSp],?_⟩
  simp! only [b_law_10,e1,b_law_7,e2,c2,b_law_8,gx,c1]
theorem b3 (n:Nat) (ns:List Int) (C:Nat) (c:Int) (W:Tx) (hW:W.length≤405) (x0 x4 x5 x6 x7 x8:Option D) (G:AH) (hx:getL G C=some ((mixL 1 ns).map .int)):∃ y x4',denS (callN fns 1000 (n+8)) 1000 b_law_3 [x0,some (.ref C),some (.int c),some (.str W),x4,x5,x6,x7,x8] G=.nx [x0,some (.ref C),some (.int c),some (.str y),x4',x5,x6,x7,x8] G∧y.length≤800:=by
 obtain ⟨K,hK,hK2⟩:∃ K:Nat,1+c / 10 % 3=(K:Int)∧K≤3:=⟨(1+c / 10 % 3).toNat,by omega,by omega⟩
 have hs:small62 (K:Int):=by unfold small62; omega
 generalize hV:cutX W none (some ((W.length:Int) - 5 * (c / 5 % 2)))=V
 have vl:V.length≤405:=by
  rw [← hV]
  unfold cutX
  rw [List.length_take,List.length_drop]
  omega
 obtain ⟨σ',H,L,y,x4',e1,e2,e3⟩:=forRow_ex (fun j σ H=>∃ (y:Tx) (x4':Option D),σ=[x0,some (.ref C),some (.int c),some (.str y),x4',x5,x6,x7,x8]∧H=G∧y.length≤405+j)
  (turnOf (TG.nm 4) (denS (callN fns 1000 (n+8)) 1000 b_law_2)) (rangeD 0 K) 0 [x0,some (.ref C),some (.int c),some (.str V),x4,x5,x6,x7,x8] G ⟨V,x4,rfl,rfl,by omega⟩
  (fun j x σ H hj ⟨y,x4',e1,e2,e3⟩=>by
   obtain ⟨hj2,rfl⟩:=range_get hj
   subst e1 e2
   obtain ⟨cl,hc,ec⟩:=m_cellI 1000 (n+7) ns H C (6+(0+(j:Int))) (by omega) hx
   have ec:callN fns 1000 (n+8) 27 [.ref C,.int (6+(0+(j:Int)))] H=.ok (.int cl) H:=ec
   obtain ⟨z,ez,hz⟩:=m_mended 1000 (n+6) y (by omega) cl H
   have ez:callN fns 1000 (n+8) 45 [.str y,.int cl] H=.ok (.str z) H:=ez
   refine ⟨_,_,?_,z,some (.int (0+j)),rfl,rfl,by omega⟩
   rw [turnOf_nm]
   simp! only [b_law_2,ec,ez])
 subst e1 e2
 rw [range_len] at e3
 refine ⟨y,x4',?_,by omega⟩
 simp! only [b_law_3,if_pos (show W.length≤16777216 by omega),show (0:Int) < 5∧(5:Int) < 1073741824 by omega,show (0:Int) < 2 by omega,if_pos (mulOk_l (i:=5) (j:=c / 5 % 2) (by omega)),hV,show (0:Int) < 10∧(10:Int) < 1073741824 by omega,show (0:Int) < 3 by omega,hK,if_pos hs,Int.toNat_natCast,L]
theorem t11 (n:Nat) (x:Tx) (hx:x.length≤800) (c:Int) (x0 x1 x4:Option D) (G:AH):∃ G',denS (callN fns 1000 (n+8)) 1000 b_law_11 [x0,x1,some (.int c),some (.str x),x4,none,none,none,none] G=.rt (.bl true) G':=by
 obtain ⟨y,x5',g,e1,hy⟩:=t6 n x hx x0 x1 (some (.int c)) x4 none none none none G
 obtain ⟨G1,r1⟩:=t10 n y hy x0 x1 (some (.int c)) x4 x5' (G++g)
 obtain ⟨G2,r2⟩:=t10 n x (by omega) x0 x1 (some (.int c)) x4 none G
 rcases Bool.eq_false_or_eq_true (c / 5 % 2 == 1) with q | q
 ·refine ⟨G1,?_⟩
  simp! only [b_law_11,show (0:Int) < 5∧(5:Int) < 1073741824 by omega,show (0:Int) < 2 by omega,q,e1,r1]
 ·rcases Bool.eq_false_or_eq_true (c % 5 == 4) with q2 | q2
  ·refine ⟨G1,?_⟩
   simp! only [b_law_11,show (0:Int) < 5∧(5:Int) < 1073741824 by omega,show (0:Int) < 2 by omega,q,show (0:Int) < 5 by omega,q2,e1,r1]
  ·refine ⟨G2,?_⟩
   simp! only [b_law_11,show (0:Int) < 5∧(5:Int) < 1073741824 by omega,show (0:Int) < 2 by omega,q,show (0:Int) < 5 by omega,q2,r2]
theorem law_true (_B n:Nat) (ns:List Int) (hz:ns.length≤63):∃ h',callN fns 1000 (n+9) i_law [.ref 0] [.rol (ns.map .int)]=.ok (.bl true) h':=by
 rw [c_law]
 have g0:getL [O.rol (ns.map D.int)] 0=some (ns.map .int):=rfl
 have e1:=m_mixed 1000 (n+7) ns 0 [O.rol (ns.map D.int)] (by omega) g0
 have e1:callN fns 1000 (n+8) 26 [.ref 0] [O.rol (ns.map D.int)]=.ok (.ref 1) [O.rol (ns.map D.int),.lst ((mixL 1 ns).map .int)]:=e1
 generalize hG:[O.rol (ns.map D.int),.lst ((mixL 1 ns).map .int)]=G at e1
 have hx:getL G 1=some ((mixL 1 ns).map .int):=by rw [← hG]; rfl
 -- a thing that is no text
 have hxl:getL (G++[O.lst [],O.lst [D.non,.int 5,.ref G.length,.tup [.str [104,101,108,108,111],.int 1,.int 0]]]) 1=some ((mixL 1 ns).map .int):=getL_app _ hx
 obtain ⟨c9,hc9,e9⟩:=m_cellI 1000 (n+7) ns (G++[O.lst [],O.lst [D.non,.int 5,.ref G.length,.tup [.str [104,101,108,108,111],.int 1,.int 0]]]) 1 9 (by omega) hxl
 have e9:callN fns 1000 (n+8) 27 [.ref 1,.int 9] (G++[O.lst [],O.lst [D.non,.int 5,.ref G.length,.tup [.str [104,101,108,108,111],.int 1,.int 0]]])=.ok (.int c9) (G++[O.lst [],O.lst [D.non,.int 5,.ref G.length,.tup [.str [104,101,108,108,111],.int 1,.int 0]]]):=e9
 generalize hG1:G++[O.lst [],O.lst [D.non,.int 5,.ref G.length,.tup [.str [104,101,108,108,111],.int 1,.int 0]]]=G1 at *
 have g4:getL G1 (G.length+1)=some [D.non,.int 5,.ref G.length,.tup [.str [104,101,108,108,111],.int 1,.int 0]]:=by rw [← hG1,getL_add]; rfl
 have gl0:getL G1 G.length=some []:=by rw [← hG1,getL_len]; rfl
 obtain ⟨d,ixd,gd,sd⟩:∃ d,((ixN 4 (c9 % 4)).bind fun j=>[D.non,.int 5,.ref G.length,.tup [.str [104,101,108,108,111],.int 1,.int 0]][j]?)=some d∧good G1 d=true∧sgOk d=false:=by
  have q:c9 % 4=0 ∨ c9 % 4=1 ∨ c9 % 4=2 ∨ c9 % 4=3:=by omega
  rcases q with q | q | q | q
  ·exact ⟨_,by rw [q]; rfl,by unfold good; rfl,rfl⟩
  ·exact ⟨_,by rw [q]; rfl,by unfold good; rfl,rfl⟩
  ·exact ⟨_,by rw [q]; rfl,by unfold good; rw [gl0]; rfl,rfl⟩
  ·exact ⟨.tup [.str [104,101,108,108,111],.int 1,.int 0],by rw [q]; rfl,good_mono (le_nil _) _ rfl,rfl⟩
 obtain ⟨f2,e2⟩:=m_refused6 1000 (n+4) d G1 gd sd
 have e2:callN fns 1000 (n+8) 47 [d] G1=.ok (.bl true) (G1++f2):=e2
 have hx2:=getL_app f2 hxl
 generalize G1++f2=G2 at *
 obtain ⟨c,hc,e3⟩:=m_cellI 1000 (n+7) ns G2 1 0 (by omega) hx2
 have e3:callN fns 1000 (n+8) 27 [.ref 1,.int 0] G2=.ok (.int c) G2:=e3
 obtain ⟨w,xs,f3,e4,_,_,_,_,pd⟩:=m_piece_by 1000 (n+5) ns G2 1 1 (by omega) hx2
 obtain ⟨p,ep,hp⟩:=piece_of pd
 rw [ep] at e4 pd
 have e4:callN fns 1000 (n+8) 34 [.ref 1,.int 1] G2=.ok (toD p) (G2++f3):=e4
 have hx3:=getL_app f3 hx2
 generalize G2++f3=G3 at *
 obtain ⟨f4,e5⟩:=m_line 1000 (n+6) hp G3
 have e5:callN fns 1000 (n+8) 36 [toD p] G3=.ok (.str (wr p)) (G3++f4):=e5
 have hx4:=getL_app f4 hx3
 generalize G3++f4=G4 at *
 obtain ⟨wl,wl2⟩:=wr_len hp
 have i4:((ixN 4 (c9 % 4)).bind fun j=>[D.non,.int 5,.ref G.length,.tup [.str [104,101,108,108,111],.int 1,.int 0]][j]?)=some d:=ixd
 have pre:∀ RR:SR,denS (callN fns 1000 (n+8)) 1000 b_law_12 [some (.ref 0),some (.ref 1),none,none,none,none,none,none,none] G2=RR→Fy.fin (denS (callN fns 1000 (n+8)) 1000 b_law [some (.ref 0),none,none,none,none,none,none,none,none] [O.rol (ns.map D.int)])=Fy.fin RR:=fun RR hR=>by
  rw [← hR]
  simp! only [b_law,e1,if_pos (show 0≤16777216 by omega),if_pos (show 3≤16777216 by omega),if_pos (show 4≤16777216 by omega),List.append_assoc,List.length_append,hG1,e9,show (0:Int) < 4 by omega,g4,Option.bind_some,i4,e2]
 rcases Bool.eq_false_or_eq_true (c % 5 == 4) with q | q
 ·obtain ⟨y,f5,e6,hy⟩:=m_odd 1000 (n+7) (c / 5) G4
  have e6:callN fns 1000 (n+8) 46 [.int (c / 5)] G4=.ok (.str y) (G4++f5):=e6
  obtain ⟨G',e7⟩:=t11 n y (by omega) c (some (.ref 0)) (some (.ref 1)) none (G4++f5)
  refine ⟨G',?_⟩
  refine (pre (.rt (.bl true) G') ?_).trans rfl
  generalize toD p=pd' at *
  generalize wr p=W at *
  simp! only [b_law_12,e3,e4,e5,show (0:Int) < 5 by omega,q,b_law_1,show (5:Int) < 1073741824 by omega,e6,e7]
 ·obtain ⟨y,x4',e6,hy⟩:=b3 n ns 1 c (wr p) (by omega) (some (.ref 0)) none none none none none G4 hx4
  obtain ⟨G',e7⟩:=t11 n y hy c (some (.ref 0)) (some (.ref 1)) x4' G4
  refine ⟨G',?_⟩
  refine (pre (.rt (.bl true) G') ?_).trans rfl
  generalize toD p=pd' at *
  generalize wr p=W at *
  simp! only [b_law_12,e3,e4,e5,show (0:Int) < 5 by omega,q,e6,e7]
noncomputable def top (i:Nat):Stmt:=PySem.Challenge.pw_ferry_k06_read.main.body.getD i (.Pass ⟨0,0,0,0⟩)
noncomputable def G:List (Str × GK):=[(("law":Str),GK.fn 48),(("CHECK_BEGIN":Str),GK.con (.int 7)),(("CHECK_FACTOR":Str),GK.con (.int 31)),(("CHECK_FIGURES":Str),GK.con (.int 4)),(("CHECK_MODULUS":Str),GK.con (.int 9973)),(("FIGURES":Str),GK.con (.str [48,49,50,51,52,53,54,55,56,57])),(("FIRST_SIGN":Str),GK.con (.int 32)),(("FerryError":Str),GK.exc 332437021739526678278002),(("LAST_LIFE":Str),GK.con (.int 1000000000)),(("LAST_PLACE":Str),GK.con (.int 1000000)),(("LAST_SIGN":Str),GK.con (.int 126)),(("LAST_STREAM":Str),GK.con (.int 999)),(("LEFT_OUT_SIGN":Str),GK.con (.int 37)),(("MOST_COME":Str),GK.con (.int 1000001)),(("MOST_FIGURES":Str),GK.con (.int 13)),(("MOST_LIMIT":Str),GK.con (.int 1000200)),(("MOST_NUMBER":Str),GK.con (.int 1000000000000)),(("MOST_SIGNS":Str),GK.con (.int 40)),(("MOST_SPANS":Str),GK.con (.int 8)),(("NoPiece":Str),GK.exc 22077439339750245),(("Spoilt":Str),GK.exc 91742370622580),(("ValueError":Str),GK.blt),(("_law_all":Str),GK.fn 29),(("_law_cell_at":Str),GK.fn 27),(("_law_check":Str),GK.fn 31),(("_law_fine":Str),GK.fn 38),(("_law_four":Str),GK.fn 35),(("_law_good_signs":Str),GK.fn 39),(("_law_in":Str),GK.fn 37),(("_law_is_piece":Str),GK.fn 40),(("_law_line":Str),GK.fn 36),(("_law_mended":Str),GK.fn 45),(("_law_mixed":Str),GK.fn 26),(("_law_number_by":Str),GK.fn 32),(("_law_number_of":Str),GK.fn 42),(("_law_odd":Str),GK.fn 46),(("_law_piece_by":Str),GK.fn 34),(("_law_refused":Str),GK.fn 47),(("_law_same":Str),GK.fn 41),(("_law_signs_by":Str),GK.fn 30),(("_law_spans_by":Str),GK.fn 33),(("_law_spans_of":Str),GK.fn 43),(("_law_told":Str),GK.fn 44),(("_law_whole":Str),GK.fn 28),(("all":Str),GK.blt),(("are_spans_above":Str),GK.fn 14),(("body_of":Str),GK.fn 20),(("bool":Str),GK.blt),(("check_of":Str),GK.fn 3),(("figures":Str),GK.fn 4),(("int":Str),GK.blt),(("is_answer":Str),GK.fn 15),(("is_data":Str),GK.fn 11),(("is_end":Str),GK.fn 12),(("is_figures":Str),GK.fn 5),(("is_hello":Str),GK.fn 10),(("is_life":Str),GK.fn 7),(("is_number":Str),GK.fn 2),(("is_piece":Str),GK.fn 16),(("is_place":Str),GK.fn 8),(("is_sign":Str),GK.fn 0),(("is_signs":Str),GK.fn 1),(("is_span_above":Str),GK.fn 13),(("isinstance":Str),GK.blt),(("len":Str),GK.blt),(("min":Str),GK.blt),(("names_stream":Str),GK.fn 9),(("number_of":Str),GK.fn 6),(("number_words":Str),GK.fn 17),(("numbers_of":Str),GK.fn 22),(("ord":Str),GK.blt),(("parts_of":Str),GK.fn 24),(("range":Str),GK.blt),(("read":Str),GK.fn 25),(("signs_word":Str),GK.fn 18),(("spans_of":Str),GK.fn 23),(("spans_word":Str),GK.fn 19),(("str":Str),GK.blt),(("tuple":Str),GK.blt),(("written":Str),GK.fn 21)]
noncomputable def xs:List (Nat × List Nat):=[(332437021739526678278002,[332437021739526678278002,91742370622580,22077439339750245]),(91742370622580,[91742370622580]),(0,[332437021739526678278002,91742370622580,22077439339750245]),(1,[332437021739526678278002,91742370622580,22077439339750245])]
noncomputable def xl:List Nat:=[332437021739526678278002,91742370622580,22077439339750245]
theorem nm_FerryError:nmOf 332437021739526678278002=("FerryError":Str):=by kernel_rfl
theorem nm_Spoilt:nmOf 91742370622580=("Spoilt":Str):=by kernel_rfl
theorem nm_NoPiece:nmOf 22077439339750245=("NoPiece":Str):=by kernel_rfl
noncomputable def Mt:List (Str × Nat × List (Nat × Nat)):=[]
noncomputable def At:List (Str × Nat × List Nat):=[]
noncomputable def d_is_sign:Df:=⟨"is_sign","is_sign",top 14,["sign","place"],["sign"]⟩
theorem ok_is_sign:DfOk G xs Mt At d_is_sign ⟨1,2,b_is_sign⟩:=⟨⟨rfl,rfl,rfl,by decide +kernel,rfl,by decide +kernel,by decide +kernel⟩,by kernel_rfl,rfl,rfl⟩
noncomputable def d_is_signs:Df:=⟨"is_signs","is_signs",top 15,["thing"],["thing"]⟩
theorem ok_is_signs:DfOk G xs Mt At d_is_signs ⟨1,1,b_is_signs⟩:=⟨⟨rfl,rfl,rfl,by decide +kernel,rfl,by decide +kernel,by decide +kernel⟩,by kernel_rfl,rfl,rfl⟩
noncomputable def d_is_number:Df:=⟨"is_number","is_number",top 16,["thing","least","most"],["thing","least","most"]⟩
theorem ok_is_number:DfOk G xs Mt At d_is_number ⟨3,3,b_is_number⟩:=⟨⟨rfl,rfl,rfl,by decide +kernel,rfl,by decide +kernel,by decide +kernel⟩,by kernel_rfl,rfl,rfl⟩
noncomputable def d_check_of:Df:=⟨"check_of","check_of",top 17,["signs","check","sign"],["signs"]⟩
theorem ok_check_of:DfOk G xs Mt At d_check_of ⟨1,3,b_check_of⟩:=⟨⟨rfl,rfl,rfl,by decide +kernel,rfl,by decide +kernel,by decide +kernel⟩,by kernel_rfl,rfl,rfl⟩
noncomputable def d_figures:Df:=⟨"figures","figures",top 18,["number"],["number"]⟩
theorem ok_figures:DfOk G xs Mt At d_figures ⟨1,1,b_figures⟩:=⟨⟨rfl,rfl,rfl,by decide +kernel,rfl,by decide +kernel,by decide +kernel⟩,by kernel_rfl,rfl,rfl⟩
noncomputable def d_is_figures:Df:=⟨"is_figures","is_figures",top 19,["text"],["text"]⟩
theorem ok_is_figures:DfOk G xs Mt At d_is_figures ⟨1,1,b_is_figures⟩:=⟨⟨rfl,rfl,rfl,by decide +kernel,rfl,by decide +kernel,by decide +kernel⟩,by kernel_rfl,rfl,rfl⟩
noncomputable def d_number_of:Df:=⟨"number_of","number_of",top 20,["text","number"],["text"]⟩
theorem ok_number_of:DfOk G xs Mt At d_number_of ⟨1,2,b_number_of⟩:=⟨⟨rfl,rfl,rfl,by decide +kernel,rfl,by decide +kernel,by decide +kernel⟩,by kernel_rfl,rfl,rfl⟩
noncomputable def d_is_life:Df:=⟨"is_life","is_life",top 30,["thing"],["thing"]⟩
theorem ok_is_life:DfOk G xs Mt At d_is_life ⟨1,1,b_is_life⟩:=⟨⟨rfl,rfl,rfl,by decide +kernel,rfl,by decide +kernel,by decide +kernel⟩,by kernel_rfl,rfl,rfl⟩
noncomputable def d_is_place:Df:=⟨"is_place","is_place",top 31,["thing"],["thing"]⟩
theorem ok_is_place:DfOk G xs Mt At d_is_place ⟨1,1,b_is_place⟩:=⟨⟨rfl,rfl,rfl,by decide +kernel,rfl,by decide +kernel,by decide +kernel⟩,by kernel_rfl,rfl,rfl⟩
noncomputable def d_names_stream:Df:=⟨"names_stream","names_stream",top 32,["parts"],["parts"]⟩
theorem ok_names_stream:DfOk G xs Mt At d_names_stream ⟨1,1,b_names_stream⟩:=⟨⟨rfl,rfl,rfl,by decide +kernel,rfl,by decide +kernel,by decide +kernel⟩,by kernel_rfl,rfl,rfl⟩
noncomputable def d_is_hello:Df:=⟨"is_hello","is_hello",top 33,["parts"],["parts"]⟩
theorem ok_is_hello:DfOk G xs Mt At d_is_hello ⟨1,1,b_is_hello⟩:=⟨⟨rfl,rfl,rfl,by decide +kernel,rfl,by decide +kernel,by decide +kernel⟩,by kernel_rfl,rfl,rfl⟩
noncomputable def d_is_data:Df:=⟨"is_data","is_data",top 34,["parts","at","signs"],["parts"]⟩
theorem ok_is_data:DfOk G xs Mt At d_is_data ⟨1,3,b_is_data⟩:=⟨⟨rfl,rfl,rfl,by decide +kernel,rfl,by decide +kernel,by decide +kernel⟩,by kernel_rfl,rfl,rfl⟩
noncomputable def d_is_end:Df:=⟨"is_end","is_end",top 35,["parts"],["parts"]⟩
theorem ok_is_end:DfOk G xs Mt At d_is_end ⟨1,1,b_is_end⟩:=⟨⟨rfl,rfl,rfl,by decide +kernel,rfl,by decide +kernel,by decide +kernel⟩,by kernel_rfl,rfl,rfl⟩
noncomputable def d_is_span_above:Df:=⟨"is_span_above","is_span_above",top 36,["thing","floor"],["thing","floor"]⟩
theorem ok_is_span_above:DfOk G xs Mt At d_is_span_above ⟨2,2,b_is_span_above⟩:=⟨⟨rfl,rfl,rfl,by decide +kernel,rfl,by decide +kernel,by decide +kernel⟩,by kernel_rfl,rfl,rfl⟩
noncomputable def d_are_spans_above:Df:=⟨"are_spans_above","are_spans_above",top 37,["thing","floor","span"],["thing","floor"]⟩
theorem ok_are_spans_above:DfOk G xs Mt At d_are_spans_above ⟨2,3,b_are_spans_above⟩:=⟨⟨rfl,rfl,rfl,by decide +kernel,rfl,by decide +kernel,by decide +kernel⟩,by kernel_rfl,rfl,rfl⟩
noncomputable def d_is_answer:Df:=⟨"is_answer","is_answer",top 38,["parts"],["parts"]⟩
theorem ok_is_answer:DfOk G xs Mt At d_is_answer ⟨1,1,b_is_answer⟩:=⟨⟨rfl,rfl,rfl,by decide +kernel,rfl,by decide +kernel,by decide +kernel⟩,by kernel_rfl,rfl,rfl⟩
noncomputable def d_is_piece:Df:=⟨"is_piece","is_piece",top 39,["thing","kind"],["thing"]⟩
theorem ok_is_piece:DfOk G xs Mt At d_is_piece ⟨1,2,b_is_piece⟩:=⟨⟨rfl,rfl,rfl,by decide +kernel,rfl,by decide +kernel,by decide +kernel⟩,by kernel_rfl,rfl,rfl⟩
noncomputable def d_number_words:Df:=⟨"number_words","number_words",top 40,["numbers"],["numbers"]⟩
theorem ok_number_words:DfOk G xs Mt At d_number_words ⟨1,1,b_number_words⟩:=⟨⟨rfl,rfl,rfl,by decide +kernel,rfl,by decide +kernel,by decide +kernel⟩,by kernel_rfl,rfl,rfl⟩
noncomputable def d_signs_word:Df:=⟨"signs_word","signs_word",top 41,["signs","count"],["signs"]⟩
theorem ok_signs_word:DfOk G xs Mt At d_signs_word ⟨1,2,b_signs_word⟩:=⟨⟨rfl,rfl,rfl,by decide +kernel,rfl,by decide +kernel,by decide +kernel⟩,by kernel_rfl,rfl,rfl⟩
noncomputable def d_spans_word:Df:=⟨"spans_word","spans_word",top 42,["spans"],["spans"]⟩
theorem ok_spans_word:DfOk G xs Mt At d_spans_word ⟨1,1,b_spans_word⟩:=⟨⟨rfl,rfl,rfl,by decide +kernel,rfl,by decide +kernel,by decide +kernel⟩,by kernel_rfl,rfl,rfl⟩
noncomputable def d_body_of:Df:=⟨"body_of","body_of",top 43,["piece","kind","words"],["piece"]⟩
theorem ok_body_of:DfOk G xs Mt At d_body_of ⟨1,3,b_body_of⟩:=⟨⟨rfl,rfl,rfl,by decide +kernel,rfl,by decide +kernel,by decide +kernel⟩,by kernel_rfl,rfl,rfl⟩
noncomputable def d_written:Df:=⟨"written","written",top 44,["piece","body","check"],["piece"]⟩
theorem ok_written:DfOk G xs Mt At d_written ⟨1,3,b_written⟩:=⟨⟨rfl,rfl,rfl,by decide +kernel,rfl,by decide +kernel,by decide +kernel⟩,by kernel_rfl,rfl,rfl⟩
noncomputable def d_numbers_of:Df:=⟨"numbers_of","numbers_of",top 45,["words"],["words"]⟩
theorem ok_numbers_of:DfOk G xs Mt At d_numbers_of ⟨1,1,b_numbers_of⟩:=⟨⟨rfl,rfl,rfl,by decide +kernel,rfl,by decide +kernel,by decide +kernel⟩,by kernel_rfl,rfl,rfl⟩
noncomputable def d_spans_of:Df:=⟨"spans_of","spans_of",top 46,["word"],["word"]⟩
theorem ok_spans_of:DfOk G xs Mt At d_spans_of ⟨1,1,b_spans_of⟩:=⟨⟨rfl,rfl,rfl,by decide +kernel,rfl,by decide +kernel,by decide +kernel⟩,by kernel_rfl,rfl,rfl⟩
noncomputable def d_parts_of:Df:=⟨"parts_of","parts_of",top 47,["body","words","kind"],["body"]⟩
theorem ok_parts_of:DfOk G xs Mt At d_parts_of ⟨1,3,b_parts_of⟩:=⟨⟨rfl,rfl,rfl,by decide +kernel,rfl,by decide +kernel,by decide +kernel⟩,by kernel_rfl,rfl,rfl⟩
noncomputable def d_read:Df:=⟨"read","read",top 48,["text","piece"],["text"]⟩
theorem ok_read:DfOk G xs Mt At d_read ⟨1,2,b_read⟩:=⟨⟨rfl,rfl,rfl,by decide +kernel,rfl,by decide +kernel,by decide +kernel⟩,by kernel_rfl,rfl,rfl⟩
noncomputable def d_law_mixed:Df:=⟨"_law_mixed","_law_mixed",top 50,["_law_script","_law_found","_law_more","_law_cell"],["_law_script"]⟩
theorem ok_law_mixed:DfOk G xs Mt At d_law_mixed ⟨1,4,b_law_mixed⟩:=⟨⟨rfl,rfl,rfl,by decide +kernel,rfl,by decide +kernel,by decide +kernel⟩,by kernel_rfl,rfl,rfl⟩
noncomputable def d_law_cell_at:Df:=⟨"_law_cell_at","_law_cell_at",top 51,["_law_cells","_law_k"],["_law_cells","_law_k"]⟩
theorem ok_law_cell_at:DfOk G xs Mt At d_law_cell_at ⟨2,2,b_law_cell_at⟩:=⟨⟨rfl,rfl,rfl,by decide +kernel,rfl,by decide +kernel,by decide +kernel⟩,by kernel_rfl,rfl,rfl⟩
noncomputable def d_law_whole:Df:=⟨"_law_whole","_law_whole",top 52,["_law_found"],["_law_found"]⟩
theorem ok_law_whole:DfOk G xs Mt At d_law_whole ⟨1,1,b_law_whole⟩:=⟨⟨rfl,rfl,rfl,by decide +kernel,rfl,by decide +kernel,by decide +kernel⟩,by kernel_rfl,rfl,rfl⟩
noncomputable def d_law_all:Df:=⟨"_law_all","_law_all",top 53,["_law_some"],[]⟩
theorem ok_law_all:DfOk G xs Mt At d_law_all ⟨0,1,b_law_all⟩:=⟨⟨rfl,rfl,rfl,by decide +kernel,rfl,by decide +kernel,by decide +kernel⟩,by kernel_rfl,rfl,rfl⟩
noncomputable def d_law_signs_by:Df:=⟨"_law_signs_by","_law_signs_by",top 54,["_law_cell","_law_size","_law_signs","_law_found","_law_k"],["_law_cell","_law_size"]⟩
theorem ok_law_signs_by:DfOk G xs Mt At d_law_signs_by ⟨2,5,b_law_signs_by⟩:=⟨⟨rfl,rfl,rfl,by decide +kernel,rfl,by decide +kernel,by decide +kernel⟩,by kernel_rfl,rfl,rfl⟩
noncomputable def d_law_check:Df:=⟨"_law_check","_law_check",top 55,["_law_signs","_law_found","_law_sign"],["_law_signs"]⟩
theorem ok_law_check:DfOk G xs Mt At d_law_check ⟨1,3,b_law_check⟩:=⟨⟨rfl,rfl,rfl,by decide +kernel,rfl,by decide +kernel,by decide +kernel⟩,by kernel_rfl,rfl,rfl⟩
noncomputable def d_law_number_by:Df:=⟨"_law_number_by","_law_number_by",top 56,["_law_cell","_law_most","_law_way"],["_law_cell","_law_most"]⟩
theorem ok_law_number_by:DfOk G xs Mt At d_law_number_by ⟨2,3,b_law_number_by⟩:=⟨⟨rfl,rfl,rfl,by decide +kernel,rfl,by decide +kernel,by decide +kernel⟩,by kernel_rfl,rfl,rfl⟩
noncomputable def d_law_spans_by:Df:=⟨"_law_spans_by","_law_spans_by",top 57,["_law_cell","_law_come","_law_found","_law_at","_law_k"],["_law_cell","_law_come"]⟩
theorem ok_law_spans_by:DfOk G xs Mt At d_law_spans_by ⟨2,5,b_law_spans_by⟩:=⟨⟨rfl,rfl,rfl,by decide +kernel,rfl,by decide +kernel,by decide +kernel⟩,by kernel_rfl,rfl,rfl⟩
noncomputable def d_law_piece_by:Df:=⟨"_law_piece_by","_law_piece_by",top 58,["_law_cells","_law_first","_law_cell","_law_mine","_law_yours","_law_stream","_law_more","_law_size","_law_come","_law_limit"],["_law_cells","_law_first"]⟩
theorem ok_law_piece_by:DfOk G xs Mt At d_law_piece_by ⟨2,10,b_law_piece_by⟩:=⟨⟨rfl,rfl,rfl,by decide +kernel,rfl,by decide +kernel,by decide +kernel⟩,by kernel_rfl,rfl,rfl⟩
noncomputable def d_law_four:Df:=⟨"_law_four","_law_four",top 59,["_law_number"],["_law_number"]⟩
theorem ok_law_four:DfOk G xs Mt At d_law_four ⟨1,1,b_law_four⟩:=⟨⟨rfl,rfl,rfl,by decide +kernel,rfl,by decide +kernel,by decide +kernel⟩,by kernel_rfl,rfl,rfl⟩
noncomputable def d_law_line:Df:=⟨"_law_line","_law_line",top 60,["_law_piece","_law_line_here","_law_part","_law_k"],["_law_piece"]⟩
theorem ok_law_line:DfOk G xs Mt At d_law_line ⟨1,4,b_law_line⟩:=⟨⟨rfl,rfl,rfl,by decide +kernel,rfl,by decide +kernel,by decide +kernel⟩,by kernel_rfl,rfl,rfl⟩
noncomputable def d_law_in:Df:=⟨"_law_in","_law_in",top 61,["_law_thing","_law_least","_law_most"],["_law_thing","_law_least","_law_most"]⟩
theorem ok_law_in:DfOk G xs Mt At d_law_in ⟨3,3,b_law_in⟩:=⟨⟨rfl,rfl,rfl,by decide +kernel,rfl,by decide +kernel,by decide +kernel⟩,by kernel_rfl,rfl,rfl⟩
noncomputable def d_law_fine:Df:=⟨"_law_fine","_law_fine",top 62,["_law_spans","_law_come","_law_span"],["_law_spans","_law_come"]⟩
theorem ok_law_fine:DfOk G xs Mt At d_law_fine ⟨2,3,b_law_fine⟩:=⟨⟨rfl,rfl,rfl,by decide +kernel,rfl,by decide +kernel,by decide +kernel⟩,by kernel_rfl,rfl,rfl⟩
noncomputable def d_law_good_signs:Df:=⟨"_law_good_signs","_law_good_signs",top 63,["_law_thing","_law_sign"],["_law_thing"]⟩
theorem ok_law_good_signs:DfOk G xs Mt At d_law_good_signs ⟨1,2,b_law_good_signs⟩:=⟨⟨rfl,rfl,rfl,by decide +kernel,rfl,by decide +kernel,by decide +kernel⟩,by kernel_rfl,rfl,rfl⟩
noncomputable def d_law_is_piece:Df:=⟨"_law_is_piece","_law_is_piece",top 64,["_law_thing","_law_least"],["_law_thing"]⟩
theorem ok_law_is_piece:DfOk G xs Mt At d_law_is_piece ⟨1,2,b_law_is_piece⟩:=⟨⟨rfl,rfl,rfl,by decide +kernel,rfl,by decide +kernel,by decide +kernel⟩,by kernel_rfl,rfl,rfl⟩
noncomputable def d_law_same:Df:=⟨"_law_same","_law_same",top 65,["_law_found","_law_due","_law_k"],["_law_found","_law_due"]⟩
theorem ok_law_same:DfOk G xs Mt At d_law_same ⟨2,3,b_law_same⟩:=⟨⟨rfl,rfl,rfl,by decide +kernel,rfl,by decide +kernel,by decide +kernel⟩,by kernel_rfl,rfl,rfl⟩
noncomputable def d_law_number_of:Df:=⟨"_law_number_of","_law_number_of",top 66,["_law_word","_law_sign"],["_law_word"]⟩
theorem ok_law_number_of:DfOk G xs Mt At d_law_number_of ⟨1,2,b_law_number_of⟩:=⟨⟨rfl,rfl,rfl,by decide +kernel,rfl,by decide +kernel,by decide +kernel⟩,by kernel_rfl,rfl,rfl⟩
noncomputable def d_law_spans_of:Df:=⟨"_law_spans_of","_law_spans_of",top 67,["_law_word","_law_found","_law_part","_law_ends"],["_law_word"]⟩
theorem ok_law_spans_of:DfOk G xs Mt At d_law_spans_of ⟨1,4,b_law_spans_of⟩:=⟨⟨rfl,rfl,rfl,by decide +kernel,rfl,by decide +kernel,by decide +kernel⟩,by kernel_rfl,rfl,rfl⟩
noncomputable def d_law_told:Df:=⟨"_law_told","_law_told",top 68,["_law_line_here","_law_words","_law_parts","_law_word","_law_rest","_law_piece"],["_law_line_here"]⟩
theorem ok_law_told:DfOk G xs Mt At d_law_told ⟨1,6,b_law_told⟩:=⟨⟨rfl,rfl,rfl,by decide +kernel,rfl,by decide +kernel,by decide +kernel⟩,by kernel_rfl,rfl,rfl⟩
noncomputable def d_law_mended:Df:=⟨"_law_mended","_law_mended",top 69,["_law_line_here","_law_cell","_law_sign","_law_at"],["_law_line_here","_law_cell"]⟩
theorem ok_law_mended:DfOk G xs Mt At d_law_mended ⟨2,4,b_law_mended⟩:=⟨⟨rfl,rfl,rfl,by decide +kernel,rfl,by decide +kernel,by decide +kernel⟩,by kernel_rfl,rfl,rfl⟩
noncomputable def d_law_odd:Df:=⟨"_law_odd","_law_odd",top 70,["_law_k","_law_lines"],["_law_k"]⟩
theorem ok_law_odd:DfOk G xs Mt At d_law_odd ⟨1,2,b_law_odd⟩:=⟨⟨rfl,rfl,rfl,by decide +kernel,rfl,by decide +kernel,by decide +kernel⟩,by kernel_rfl,rfl,rfl⟩
noncomputable def d_law_refused:Df:=⟨"_law_refused","_law_refused",top 71,["_law_thing"],["_law_thing"]⟩
theorem ok_law_refused:DfOk G xs Mt At d_law_refused ⟨1,1,b_law_refused⟩:=⟨⟨rfl,rfl,rfl,by decide +kernel,rfl,by decide +kernel,by decide +kernel⟩,by kernel_rfl,rfl,rfl⟩
noncomputable def d_law:Df:=⟨"law","law",top 72,["_law_script","_law_cells","_law_cell","_law_line_here","_law_k","_law_good","_law_due","_law_found","e"],["_law_script"]⟩
theorem ok_law:DfOk G xs Mt At d_law ⟨1,9,b_law⟩:=⟨⟨rfl,rfl,rfl,by decide +kernel,rfl,by decide +kernel,by decide +kernel⟩,by kernel_rfl,rfl,rfl⟩
noncomputable def ds:List Df:=[d_is_sign,d_is_signs,d_is_number,d_check_of,d_figures,d_is_figures,d_number_of,d_is_life,d_is_place,d_names_stream,d_is_hello,d_is_data,d_is_end,d_is_span_above,d_are_spans_above,d_is_answer,d_is_piece,d_number_words,d_signs_word,d_spans_word,d_body_of,d_written,d_numbers_of,d_spans_of,d_parts_of,d_read,d_law_mixed,d_law_cell_at,d_law_whole,d_law_all,d_law_signs_by,d_law_check,d_law_number_by,d_law_spans_by,d_law_piece_by,d_law_four,d_law_line,d_law_in,d_law_fine,d_law_good_signs,d_law_is_piece,d_law_same,d_law_number_of,d_law_spans_of,d_law_told,d_law_mended,d_law_odd,d_law_refused,d_law]
theorem bd_is_sign:BindsD d_is_sign:=fun _ _ _ _ _ _=>ar1 fun _=>rfl
theorem bd_is_signs:BindsD d_is_signs:=fun _ _ _ _ _ _=>ar1 fun _=>rfl
theorem bd_is_number:BindsD d_is_number:=fun _ _ _ _ _ _=>ar3 fun _ _ _=>rfl
theorem bd_check_of:BindsD d_check_of:=fun _ _ _ _ _ _=>ar1 fun _=>rfl
theorem bd_figures:BindsD d_figures:=fun _ _ _ _ _ _=>ar1 fun _=>rfl
theorem bd_is_figures:BindsD d_is_figures:=fun _ _ _ _ _ _=>ar1 fun _=>rfl
theorem bd_number_of:BindsD d_number_of:=fun _ _ _ _ _ _=>ar1 fun _=>rfl
theorem bd_is_life:BindsD d_is_life:=fun _ _ _ _ _ _=>ar1 fun _=>rfl
theorem bd_is_place:BindsD d_is_place:=fun _ _ _ _ _ _=>ar1 fun _=>rfl
theorem bd_names_stream:BindsD d_names_stream:=fun _ _ _ _ _ _=>ar1 fun _=>rfl
theorem bd_is_hello:BindsD d_is_hello:=fun _ _ _ _ _ _=>ar1 fun _=>rfl
theorem bd_is_data:BindsD d_is_data:=fun _ _ _ _ _ _=>ar1 fun _=>rfl
theorem bd_is_end:BindsD d_is_end:=fun _ _ _ _ _ _=>ar1 fun _=>rfl
theorem bd_is_span_above:BindsD d_is_span_above:=fun _ _ _ _ _ _=>ar2 fun _ _=>rfl
theorem bd_are_spans_above:BindsD d_are_spans_above:=fun _ _ _ _ _ _=>ar2 fun _ _=>rfl
theorem bd_is_answer:BindsD d_is_answer:=fun _ _ _ _ _ _=>ar1 fun _=>rfl
theorem bd_is_piece:BindsD d_is_piece:=fun _ _ _ _ _ _=>ar1 fun _=>rfl
theorem bd_number_words:BindsD d_number_words:=fun _ _ _ _ _ _=>ar1 fun _=>rfl
theorem bd_signs_word:BindsD d_signs_word:=fun _ _ _ _ _ _=>ar1 fun _=>rfl
theorem bd_spans_word:BindsD d_spans_word:=fun _ _ _ _ _ _=>ar1 fun _=>rfl
theorem bd_body_of:BindsD d_body_of:=fun _ _ _ _ _ _=>ar1 fun _=>rfl
theorem bd_written:BindsD d_written:=fun _ _ _ _ _ _=>ar1 fun _=>rfl
theorem bd_numbers_of:BindsD d_numbers_of:=fun _ _ _ _ _ _=>ar1 fun _=>rfl
theorem bd_spans_of:BindsD d_spans_of:=fun _ _ _ _ _ _=>ar1 fun _=>rfl
theorem bd_parts_of:BindsD d_parts_of:=fun _ _ _ _ _ _=>ar1 fun _=>rfl
theorem bd_read:BindsD d_read:=fun _ _ _ _ _ _=>ar1 fun _=>rfl
theorem bd_law_mixed:BindsD d_law_mixed:=fun _ _ _ _ _ _=>ar1 fun _=>rfl
theorem bd_law_cell_at:BindsD d_law_cell_at:=fun _ _ _ _ _ _=>ar2 fun _ _=>rfl
theorem bd_law_whole:BindsD d_law_whole:=fun _ _ _ _ _ _=>ar1 fun _=>rfl
theorem bd_law_all:BindsD d_law_all:=fun _ _ _ _ _ _=>ar0 rfl
theorem bd_law_signs_by:BindsD d_law_signs_by:=fun _ _ _ _ _ _=>ar2 fun _ _=>rfl
theorem bd_law_check:BindsD d_law_check:=fun _ _ _ _ _ _=>ar1 fun _=>rfl
theorem bd_law_number_by:BindsD d_law_number_by:=fun _ _ _ _ _ _=>ar2 fun _ _=>rfl
theorem bd_law_spans_by:BindsD d_law_spans_by:=fun _ _ _ _ _ _=>ar2 fun _ _=>rfl
theorem bd_law_piece_by:BindsD d_law_piece_by:=fun _ _ _ _ _ _=>ar2 fun _ _=>rfl
theorem bd_law_four:BindsD d_law_four:=fun _ _ _ _ _ _=>ar1 fun _=>rfl
theorem bd_law_line:BindsD d_law_line:=fun _ _ _ _ _ _=>ar1 fun _=>rfl
theorem bd_law_in:BindsD d_law_in:=fun _ _ _ _ _ _=>ar3 fun _ _ _=>rfl
theorem bd_law_fine:BindsD d_law_fine:=fun _ _ _ _ _ _=>ar2 fun _ _=>rfl
theorem bd_law_good_signs:BindsD d_law_good_signs:=fun _ _ _ _ _ _=>ar1 fun _=>rfl
theorem bd_law_is_piece:BindsD d_law_is_piece:=fun _ _ _ _ _ _=>ar1 fun _=>rfl
theorem bd_law_same:BindsD d_law_same:=fun _ _ _ _ _ _=>ar2 fun _ _=>rfl
theorem bd_law_number_of:BindsD d_law_number_of:=fun _ _ _ _ _ _=>ar1 fun _=>rfl
theorem bd_law_spans_of:BindsD d_law_spans_of:=fun _ _ _ _ _ _=>ar1 fun _=>rfl
theorem bd_law_told:BindsD d_law_told:=fun _ _ _ _ _ _=>ar1 fun _=>rfl
theorem bd_law_mended:BindsD d_law_mended:=fun _ _ _ _ _ _=>ar2 fun _ _=>rfl
theorem bd_law_odd:BindsD d_law_odd:=fun _ _ _ _ _ _=>ar1 fun _=>rfl
theorem bd_law_refused:BindsD d_law_refused:=fun _ _ _ _ _ _=>ar1 fun _=>rfl
theorem bd_law:BindsD d_law:=fun _ _ _ _ _ _=>ar1 fun _=>rfl
set_option maxHeartbeats 0 in
theorem top_mk {K : PySem.W.Frag} {h : Heap} {mg : Str → Option Value} (X : K.In h) (Gm : h.Ns mainGlobals mg)
    {f0 : Addr} {od0 an0 : Option Addr} {sl0 : Array (Option Value)} {oc0 kV0 dc0 pm0 cd0 ct0 : Value} {f1 : Addr} {od1 an1 : Option Addr} {sl1 : Array (Option Value)} {oc1 kV1 dc1 pm1 cd1 ct1 : Value} {f2 : Addr} {od2 an2 : Option Addr} {sl2 : Array (Option Value)} {oc2 kV2 dc2 pm2 cd2 ct2 : Value} {f3 : Addr} {od3 an3 : Option Addr} {sl3 : Array (Option Value)} {oc3 kV3 dc3 pm3 cd3 ct3 : Value} {f4 : Addr} {od4 an4 : Option Addr} {sl4 : Array (Option Value)} {oc4 kV4 dc4 pm4 cd4 ct4 : Value} {f5 : Addr} {od5 an5 : Option Addr} {sl5 : Array (Option Value)} {oc5 kV5 dc5 pm5 cd5 ct5 : Value} {f6 : Addr} {od6 an6 : Option Addr} {sl6 : Array (Option Value)} {oc6 kV6 dc6 pm6 cd6 ct6 : Value} {f7 : Addr} {od7 an7 : Option Addr} {sl7 : Array (Option Value)} {oc7 kV7 dc7 pm7 cd7 ct7 : Value} {f8 : Addr} {od8 an8 : Option Addr} {sl8 : Array (Option Value)} {oc8 kV8 dc8 pm8 cd8 ct8 : Value} {f9 : Addr} {od9 an9 : Option Addr} {sl9 : Array (Option Value)} {oc9 kV9 dc9 pm9 cd9 ct9 : Value} {f10 : Addr} {od10 an10 : Option Addr} {sl10 : Array (Option Value)} {oc10 kV10 dc10 pm10 cd10 ct10 : Value} {f11 : Addr} {od11 an11 : Option Addr} {sl11 : Array (Option Value)} {oc11 kV11 dc11 pm11 cd11 ct11 : Value} {f12 : Addr} {od12 an12 : Option Addr} {sl12 : Array (Option Value)} {oc12 kV12 dc12 pm12 cd12 ct12 : Value} {f13 : Addr} {od13 an13 : Option Addr} {sl13 : Array (Option Value)} {oc13 kV13 dc13 pm13 cd13 ct13 : Value} {f14 : Addr} {od14 an14 : Option Addr} {sl14 : Array (Option Value)} {oc14 kV14 dc14 pm14 cd14 ct14 : Value} {f15 : Addr} {od15 an15 : Option Addr} {sl15 : Array (Option Value)} {oc15 kV15 dc15 pm15 cd15 ct15 : Value} {f16 : Addr} {od16 an16 : Option Addr} {sl16 : Array (Option Value)} {oc16 kV16 dc16 pm16 cd16 ct16 : Value} {f17 : Addr} {od17 an17 : Option Addr} {sl17 : Array (Option Value)} {oc17 kV17 dc17 pm17 cd17 ct17 : Value} {f18 : Addr} {od18 an18 : Option Addr} {sl18 : Array (Option Value)} {oc18 kV18 dc18 pm18 cd18 ct18 : Value} {f19 : Addr} {od19 an19 : Option Addr} {sl19 : Array (Option Value)} {oc19 kV19 dc19 pm19 cd19 ct19 : Value} {f20 : Addr} {od20 an20 : Option Addr} {sl20 : Array (Option Value)} {oc20 kV20 dc20 pm20 cd20 ct20 : Value} {f21 : Addr} {od21 an21 : Option Addr} {sl21 : Array (Option Value)} {oc21 kV21 dc21 pm21 cd21 ct21 : Value} {f22 : Addr} {od22 an22 : Option Addr} {sl22 : Array (Option Value)} {oc22 kV22 dc22 pm22 cd22 ct22 : Value} {f23 : Addr} {od23 an23 : Option Addr} {sl23 : Array (Option Value)} {oc23 kV23 dc23 pm23 cd23 ct23 : Value} {f24 : Addr} {od24 an24 : Option Addr} {sl24 : Array (Option Value)} {oc24 kV24 dc24 pm24 cd24 ct24 : Value} {f25 : Addr} {od25 an25 : Option Addr} {sl25 : Array (Option Value)} {oc25 kV25 dc25 pm25 cd25 ct25 : Value} {f26 : Addr} {od26 an26 : Option Addr} {sl26 : Array (Option Value)} {oc26 kV26 dc26 pm26 cd26 ct26 : Value} {f27 : Addr} {od27 an27 : Option Addr} {sl27 : Array (Option Value)} {oc27 kV27 dc27 pm27 cd27 ct27 : Value} {f28 : Addr} {od28 an28 : Option Addr} {sl28 : Array (Option Value)} {oc28 kV28 dc28 pm28 cd28 ct28 : Value} {f29 : Addr} {od29 an29 : Option Addr} {sl29 : Array (Option Value)} {oc29 kV29 dc29 pm29 cd29 ct29 : Value} {f30 : Addr} {od30 an30 : Option Addr} {sl30 : Array (Option Value)} {oc30 kV30 dc30 pm30 cd30 ct30 : Value} {f31 : Addr} {od31 an31 : Option Addr} {sl31 : Array (Option Value)} {oc31 kV31 dc31 pm31 cd31 ct31 : Value} {f32 : Addr} {od32 an32 : Option Addr} {sl32 : Array (Option Value)} {oc32 kV32 dc32 pm32 cd32 ct32 : Value} {f33 : Addr} {od33 an33 : Option Addr} {sl33 : Array (Option Value)} {oc33 kV33 dc33 pm33 cd33 ct33 : Value} {f34 : Addr} {od34 an34 : Option Addr} {sl34 : Array (Option Value)} {oc34 kV34 dc34 pm34 cd34 ct34 : Value} {f35 : Addr} {od35 an35 : Option Addr} {sl35 : Array (Option Value)} {oc35 kV35 dc35 pm35 cd35 ct35 : Value} {f36 : Addr} {od36 an36 : Option Addr} {sl36 : Array (Option Value)} {oc36 kV36 dc36 pm36 cd36 ct36 : Value} {f37 : Addr} {od37 an37 : Option Addr} {sl37 : Array (Option Value)} {oc37 kV37 dc37 pm37 cd37 ct37 : Value} {f38 : Addr} {od38 an38 : Option Addr} {sl38 : Array (Option Value)} {oc38 kV38 dc38 pm38 cd38 ct38 : Value} {f39 : Addr} {od39 an39 : Option Addr} {sl39 : Array (Option Value)} {oc39 kV39 dc39 pm39 cd39 ct39 : Value} {f40 : Addr} {od40 an40 : Option Addr} {sl40 : Array (Option Value)} {oc40 kV40 dc40 pm40 cd40 ct40 : Value} {f41 : Addr} {od41 an41 : Option Addr} {sl41 : Array (Option Value)} {oc41 kV41 dc41 pm41 cd41 ct41 : Value} {f42 : Addr} {od42 an42 : Option Addr} {sl42 : Array (Option Value)} {oc42 kV42 dc42 pm42 cd42 ct42 : Value} {f43 : Addr} {od43 an43 : Option Addr} {sl43 : Array (Option Value)} {oc43 kV43 dc43 pm43 cd43 ct43 : Value} {f44 : Addr} {od44 an44 : Option Addr} {sl44 : Array (Option Value)} {oc44 kV44 dc44 pm44 cd44 ct44 : Value} {f45 : Addr} {od45 an45 : Option Addr} {sl45 : Array (Option Value)} {oc45 kV45 dc45 pm45 cd45 ct45 : Value} {f46 : Addr} {od46 an46 : Option Addr} {sl46 : Array (Option Value)} {oc46 kV46 dc46 pm46 cd46 ct46 : Value} {f47 : Addr} {od47 an47 : Option Addr} {sl47 : Array (Option Value)} {oc47 kV47 dc47 pm47 cd47 ct47 : Value} {f48 : Addr} {od48 an48 : Option Addr} {sl48 : Array (Option Value)} {oc48 kV48 dc48 pm48 cd48 ct48 : Value} {C0 : Addr} {C1 : Addr} {C2 : Addr} {t_CHECK_BEGIN : Tok} {t_CHECK_FACTOR : Tok} {t_CHECK_FIGURES : Tok} {t_CHECK_MODULUS : Tok} {t_FIGURES : Tok} {t_FIRST_SIGN : Tok} {t_LAST_LIFE : Tok} {t_LAST_PLACE : Tok} {t_LAST_SIGN : Tok} {t_LAST_STREAM : Tok} {t_LEFT_OUT_SIGN : Tok} {t_MOST_COME : Tok} {t_MOST_FIGURES : Tok} {t_MOST_LIMIT : Tok} {t_MOST_NUMBER : Tok} {t_MOST_SIGNS : Tok} {t_MOST_SPANS : Tok}
    (a0 : PySem.W.nsIn K mainGlobals "is_sign" = some (some (.ref f0)))
    (l0 : K.lookup f0 = some ⟨oc0, od0, .func (PySem.W.fnOf "is_sign" "is_sign" (L2.defArgs d_is_sign.st) (L2.defBody d_is_sign.st) (L2.defScope d_is_sign.st) .none kV0 dc0 pm0 an0 cd0 ct0), sl0⟩) (c0 : PySem.W.codeIn K cd0 "is_sign" = true) (k0 : PySem.W.keepIn K (.ref f0) = true)
    (a1 : PySem.W.nsIn K mainGlobals "is_signs" = some (some (.ref f1)))
    (l1 : K.lookup f1 = some ⟨oc1, od1, .func (PySem.W.fnOf "is_signs" "is_signs" (L2.defArgs d_is_signs.st) (L2.defBody d_is_signs.st) (L2.defScope d_is_signs.st) .none kV1 dc1 pm1 an1 cd1 ct1), sl1⟩) (c1 : PySem.W.codeIn K cd1 "is_signs" = true) (k1 : PySem.W.keepIn K (.ref f1) = true)
    (a2 : PySem.W.nsIn K mainGlobals "is_number" = some (some (.ref f2)))
    (l2 : K.lookup f2 = some ⟨oc2, od2, .func (PySem.W.fnOf "is_number" "is_number" (L2.defArgs d_is_number.st) (L2.defBody d_is_number.st) (L2.defScope d_is_number.st) .none kV2 dc2 pm2 an2 cd2 ct2), sl2⟩) (c2 : PySem.W.codeIn K cd2 "is_number" = true) (k2 : PySem.W.keepIn K (.ref f2) = true)
    (a3 : PySem.W.nsIn K mainGlobals "check_of" = some (some (.ref f3)))
    (l3 : K.lookup f3 = some ⟨oc3, od3, .func (PySem.W.fnOf "check_of" "check_of" (L2.defArgs d_check_of.st) (L2.defBody d_check_of.st) (L2.defScope d_check_of.st) .none kV3 dc3 pm3 an3 cd3 ct3), sl3⟩) (c3 : PySem.W.codeIn K cd3 "check_of" = true) (k3 : PySem.W.keepIn K (.ref f3) = true)
    (a4 : PySem.W.nsIn K mainGlobals "figures" = some (some (.ref f4)))
    (l4 : K.lookup f4 = some ⟨oc4, od4, .func (PySem.W.fnOf "figures" "figures" (L2.defArgs d_figures.st) (L2.defBody d_figures.st) (L2.defScope d_figures.st) .none kV4 dc4 pm4 an4 cd4 ct4), sl4⟩) (c4 : PySem.W.codeIn K cd4 "figures" = true) (k4 : PySem.W.keepIn K (.ref f4) = true)
    (a5 : PySem.W.nsIn K mainGlobals "is_figures" = some (some (.ref f5)))
    (l5 : K.lookup f5 = some ⟨oc5, od5, .func (PySem.W.fnOf "is_figures" "is_figures" (L2.defArgs d_is_figures.st) (L2.defBody d_is_figures.st) (L2.defScope d_is_figures.st) .none kV5 dc5 pm5 an5 cd5 ct5), sl5⟩) (c5 : PySem.W.codeIn K cd5 "is_figures" = true) (k5 : PySem.W.keepIn K (.ref f5) = true)
    (a6 : PySem.W.nsIn K mainGlobals "number_of" = some (some (.ref f6)))
    (l6 : K.lookup f6 = some ⟨oc6, od6, .func (PySem.W.fnOf "number_of" "number_of" (L2.defArgs d_number_of.st) (L2.defBody d_number_of.st) (L2.defScope d_number_of.st) .none kV6 dc6 pm6 an6 cd6 ct6), sl6⟩) (c6 : PySem.W.codeIn K cd6 "number_of" = true) (k6 : PySem.W.keepIn K (.ref f6) = true)
    (a7 : PySem.W.nsIn K mainGlobals "is_life" = some (some (.ref f7)))
    (l7 : K.lookup f7 = some ⟨oc7, od7, .func (PySem.W.fnOf "is_life" "is_life" (L2.defArgs d_is_life.st) (L2.defBody d_is_life.st) (L2.defScope d_is_life.st) .none kV7 dc7 pm7 an7 cd7 ct7), sl7⟩) (c7 : PySem.W.codeIn K cd7 "is_life" = true) (k7 : PySem.W.keepIn K (.ref f7) = true)
    (a8 : PySem.W.nsIn K mainGlobals "is_place" = some (some (.ref f8)))
    (l8 : K.lookup f8 = some ⟨oc8, od8, .func (PySem.W.fnOf "is_place" "is_place" (L2.defArgs d_is_place.st) (L2.defBody d_is_place.st) (L2.defScope d_is_place.st) .none kV8 dc8 pm8 an8 cd8 ct8), sl8⟩) (c8 : PySem.W.codeIn K cd8 "is_place" = true) (k8 : PySem.W.keepIn K (.ref f8) = true)
    (a9 : PySem.W.nsIn K mainGlobals "names_stream" = some (some (.ref f9)))
    (l9 : K.lookup f9 = some ⟨oc9, od9, .func (PySem.W.fnOf "names_stream" "names_stream" (L2.defArgs d_names_stream.st) (L2.defBody d_names_stream.st) (L2.defScope d_names_stream.st) .none kV9 dc9 pm9 an9 cd9 ct9), sl9⟩) (c9 : PySem.W.codeIn K cd9 "names_stream" = true) (k9 : PySem.W.keepIn K (.ref f9) = true)
    (a10 : PySem.W.nsIn K mainGlobals "is_hello" = some (some (.ref f10)))
    (l10 : K.lookup f10 = some ⟨oc10, od10, .func (PySem.W.fnOf "is_hello" "is_hello" (L2.defArgs d_is_hello.st) (L2.defBody d_is_hello.st) (L2.defScope d_is_hello.st) .none kV10 dc10 pm10 an10 cd10 ct10), sl10⟩) (c10 : PySem.W.codeIn K cd10 "is_hello" = true) (k10 : PySem.W.keepIn K (.ref f10) = true)
    (a11 : PySem.W.nsIn K mainGlobals "is_data" = some (some (.ref f11)))
    (l11 : K.lookup f11 = some ⟨oc11, od11, .func (PySem.W.fnOf "is_data" "is_data" (L2.defArgs d_is_data.st) (L2.defBody d_is_data.st) (L2.defScope d_is_data.st) .none kV11 dc11 pm11 an11 cd11 ct11), sl11⟩) (c11 : PySem.W.codeIn K cd11 "is_data" = true) (k11 : PySem.W.keepIn K (.ref f11) = true)
    (a12 : PySem.W.nsIn K mainGlobals "is_end" = some (some (.ref f12)))
    (l12 : K.lookup f12 = some ⟨oc12, od12, .func (PySem.W.fnOf "is_end" "is_end" (L2.defArgs d_is_end.st) (L2.defBody d_is_end.st) (L2.defScope d_is_end.st) .none kV12 dc12 pm12 an12 cd12 ct12), sl12⟩) (c12 : PySem.W.codeIn K cd12 "is_end" = true) (k12 : PySem.W.keepIn K (.ref f12) = true)
    (a13 : PySem.W.nsIn K mainGlobals "is_span_above" = some (some (.ref f13)))
    (l13 : K.lookup f13 = some ⟨oc13, od13, .func (PySem.W.fnOf "is_span_above" "is_span_above" (L2.defArgs d_is_span_above.st) (L2.defBody d_is_span_above.st) (L2.defScope d_is_span_above.st) .none kV13 dc13 pm13 an13 cd13 ct13), sl13⟩) (c13 : PySem.W.codeIn K cd13 "is_span_above" = true) (k13 : PySem.W.keepIn K (.ref f13) = true)
    (a14 : PySem.W.nsIn K mainGlobals "are_spans_above" = some (some (.ref f14)))
    (l14 : K.lookup f14 = some ⟨oc14, od14, .func (PySem.W.fnOf "are_spans_above" "are_spans_above" (L2.defArgs d_are_spans_above.st) (L2.defBody d_are_spans_above.st) (L2.defScope d_are_spans_above.st) .none kV14 dc14 pm14 an14 cd14 ct14), sl14⟩) (c14 : PySem.W.codeIn K cd14 "are_spans_above" = true) (k14 : PySem.W.keepIn K (.ref f14) = true)
    (a15 : PySem.W.nsIn K mainGlobals "is_answer" = some (some (.ref f15)))
    (l15 : K.lookup f15 = some ⟨oc15, od15, .func (PySem.W.fnOf "is_answer" "is_answer" (L2.defArgs d_is_answer.st) (L2.defBody d_is_answer.st) (L2.defScope d_is_answer.st) .none kV15 dc15 pm15 an15 cd15 ct15), sl15⟩) (c15 : PySem.W.codeIn K cd15 "is_answer" = true) (k15 : PySem.W.keepIn K (.ref f15) = true)
    (a16 : PySem.W.nsIn K mainGlobals "is_piece" = some (some (.ref f16)))
    (l16 : K.lookup f16 = some ⟨oc16, od16, .func (PySem.W.fnOf "is_piece" "is_piece" (L2.defArgs d_is_piece.st) (L2.defBody d_is_piece.st) (L2.defScope d_is_piece.st) .none kV16 dc16 pm16 an16 cd16 ct16), sl16⟩) (c16 : PySem.W.codeIn K cd16 "is_piece" = true) (k16 : PySem.W.keepIn K (.ref f16) = true)
    (a17 : PySem.W.nsIn K mainGlobals "number_words" = some (some (.ref f17)))
    (l17 : K.lookup f17 = some ⟨oc17, od17, .func (PySem.W.fnOf "number_words" "number_words" (L2.defArgs d_number_words.st) (L2.defBody d_number_words.st) (L2.defScope d_number_words.st) .none kV17 dc17 pm17 an17 cd17 ct17), sl17⟩) (c17 : PySem.W.codeIn K cd17 "number_words" = true) (k17 : PySem.W.keepIn K (.ref f17) = true)
    (a18 : PySem.W.nsIn K mainGlobals "signs_word" = some (some (.ref f18)))
    (l18 : K.lookup f18 = some ⟨oc18, od18, .func (PySem.W.fnOf "signs_word" "signs_word" (L2.defArgs d_signs_word.st) (L2.defBody d_signs_word.st) (L2.defScope d_signs_word.st) .none kV18 dc18 pm18 an18 cd18 ct18), sl18⟩) (c18 : PySem.W.codeIn K cd18 "signs_word" = true) (k18 : PySem.W.keepIn K (.ref f18) = true)
    (a19 : PySem.W.nsIn K mainGlobals "spans_word" = some (some (.ref f19)))
    (l19 : K.lookup f19 = some ⟨oc19, od19, .func (PySem.W.fnOf "spans_word" "spans_word" (L2.defArgs d_spans_word.st) (L2.defBody d_spans_word.st) (L2.defScope d_spans_word.st) .none kV19 dc19 pm19 an19 cd19 ct19), sl19⟩) (c19 : PySem.W.codeIn K cd19 "spans_word" = true) (k19 : PySem.W.keepIn K (.ref f19) = true)
    (a20 : PySem.W.nsIn K mainGlobals "body_of" = some (some (.ref f20)))
    (l20 : K.lookup f20 = some ⟨oc20, od20, .func (PySem.W.fnOf "body_of" "body_of" (L2.defArgs d_body_of.st) (L2.defBody d_body_of.st) (L2.defScope d_body_of.st) .none kV20 dc20 pm20 an20 cd20 ct20), sl20⟩) (c20 : PySem.W.codeIn K cd20 "body_of" = true) (k20 : PySem.W.keepIn K (.ref f20) = true)
    (a21 : PySem.W.nsIn K mainGlobals "written" = some (some (.ref f21)))
    (l21 : K.lookup f21 = some ⟨oc21, od21, .func (PySem.W.fnOf "written" "written" (L2.defArgs d_written.st) (L2.defBody d_written.st) (L2.defScope d_written.st) .none kV21 dc21 pm21 an21 cd21 ct21), sl21⟩) (c21 : PySem.W.codeIn K cd21 "written" = true) (k21 : PySem.W.keepIn K (.ref f21) = true)
    (a22 : PySem.W.nsIn K mainGlobals "numbers_of" = some (some (.ref f22)))
    (l22 : K.lookup f22 = some ⟨oc22, od22, .func (PySem.W.fnOf "numbers_of" "numbers_of" (L2.defArgs d_numbers_of.st) (L2.defBody d_numbers_of.st) (L2.defScope d_numbers_of.st) .none kV22 dc22 pm22 an22 cd22 ct22), sl22⟩) (c22 : PySem.W.codeIn K cd22 "numbers_of" = true) (k22 : PySem.W.keepIn K (.ref f22) = true)
    (a23 : PySem.W.nsIn K mainGlobals "spans_of" = some (some (.ref f23)))
    (l23 : K.lookup f23 = some ⟨oc23, od23, .func (PySem.W.fnOf "spans_of" "spans_of" (L2.defArgs d_spans_of.st) (L2.defBody d_spans_of.st) (L2.defScope d_spans_of.st) .none kV23 dc23 pm23 an23 cd23 ct23), sl23⟩) (c23 : PySem.W.codeIn K cd23 "spans_of" = true) (k23 : PySem.W.keepIn K (.ref f23) = true)
    (a24 : PySem.W.nsIn K mainGlobals "parts_of" = some (some (.ref f24)))
    (l24 : K.lookup f24 = some ⟨oc24, od24, .func (PySem.W.fnOf "parts_of" "parts_of" (L2.defArgs d_parts_of.st) (L2.defBody d_parts_of.st) (L2.defScope d_parts_of.st) .none kV24 dc24 pm24 an24 cd24 ct24), sl24⟩) (c24 : PySem.W.codeIn K cd24 "parts_of" = true) (k24 : PySem.W.keepIn K (.ref f24) = true)
    (a25 : PySem.W.nsIn K mainGlobals "read" = some (some (.ref f25)))
    (l25 : K.lookup f25 = some ⟨oc25, od25, .func (PySem.W.fnOf "read" "read" (L2.defArgs d_read.st) (L2.defBody d_read.st) (L2.defScope d_read.st) .none kV25 dc25 pm25 an25 cd25 ct25), sl25⟩) (c25 : PySem.W.codeIn K cd25 "read" = true) (k25 : PySem.W.keepIn K (.ref f25) = true)
    (a26 : PySem.W.nsIn K mainGlobals "_law_mixed" = some (some (.ref f26)))
    (l26 : K.lookup f26 = some ⟨oc26, od26, .func (PySem.W.fnOf "_law_mixed" "_law_mixed" (L2.defArgs d_law_mixed.st) (L2.defBody d_law_mixed.st) (L2.defScope d_law_mixed.st) .none kV26 dc26 pm26 an26 cd26 ct26), sl26⟩) (c26 : PySem.W.codeIn K cd26 "_law_mixed" = true) (k26 : PySem.W.keepIn K (.ref f26) = true)
    (a27 : PySem.W.nsIn K mainGlobals "_law_cell_at" = some (some (.ref f27)))
    (l27 : K.lookup f27 = some ⟨oc27, od27, .func (PySem.W.fnOf "_law_cell_at" "_law_cell_at" (L2.defArgs d_law_cell_at.st) (L2.defBody d_law_cell_at.st) (L2.defScope d_law_cell_at.st) .none kV27 dc27 pm27 an27 cd27 ct27), sl27⟩) (c27 : PySem.W.codeIn K cd27 "_law_cell_at" = true) (k27 : PySem.W.keepIn K (.ref f27) = true)
    (a28 : PySem.W.nsIn K mainGlobals "_law_whole" = some (some (.ref f28)))
    (l28 : K.lookup f28 = some ⟨oc28, od28, .func (PySem.W.fnOf "_law_whole" "_law_whole" (L2.defArgs d_law_whole.st) (L2.defBody d_law_whole.st) (L2.defScope d_law_whole.st) .none kV28 dc28 pm28 an28 cd28 ct28), sl28⟩) (c28 : PySem.W.codeIn K cd28 "_law_whole" = true) (k28 : PySem.W.keepIn K (.ref f28) = true)
    (a29 : PySem.W.nsIn K mainGlobals "_law_all" = some (some (.ref f29)))
    (l29 : K.lookup f29 = some ⟨oc29, od29, .func (PySem.W.fnOf "_law_all" "_law_all" (L2.defArgs d_law_all.st) (L2.defBody d_law_all.st) (L2.defScope d_law_all.st) .none kV29 dc29 pm29 an29 cd29 ct29), sl29⟩) (c29 : PySem.W.codeIn K cd29 "_law_all" = true) (k29 : PySem.W.keepIn K (.ref f29) = true)
    (a30 : PySem.W.nsIn K mainGlobals "_law_signs_by" = some (some (.ref f30)))
    (l30 : K.lookup f30 = some ⟨oc30, od30, .func (PySem.W.fnOf "_law_signs_by" "_law_signs_by" (L2.defArgs d_law_signs_by.st) (L2.defBody d_law_signs_by.st) (L2.defScope d_law_signs_by.st) .none kV30 dc30 pm30 an30 cd30 ct30), sl30⟩) (c30 : PySem.W.codeIn K cd30 "_law_signs_by" = true) (k30 : PySem.W.keepIn K (.ref f30) = true)
    (a31 : PySem.W.nsIn K mainGlobals "_law_check" = some (some (.ref f31)))
    (l31 : K.lookup f31 = some ⟨oc31, od31, .func (PySem.W.fnOf "_law_check" "_law_check" (L2.defArgs d_law_check.st) (L2.defBody d_law_check.st) (L2.defScope d_law_check.st) .none kV31 dc31 pm31 an31 cd31 ct31), sl31⟩) (c31 : PySem.W.codeIn K cd31 "_law_check" = true) (k31 : PySem.W.keepIn K (.ref f31) = true)
    (a32 : PySem.W.nsIn K mainGlobals "_law_number_by" = some (some (.ref f32)))
    (l32 : K.lookup f32 = some ⟨oc32, od32, .func (PySem.W.fnOf "_law_number_by" "_law_number_by" (L2.defArgs d_law_number_by.st) (L2.defBody d_law_number_by.st) (L2.defScope d_law_number_by.st) .none kV32 dc32 pm32 an32 cd32 ct32), sl32⟩) (c32 : PySem.W.codeIn K cd32 "_law_number_by" = true) (k32 : PySem.W.keepIn K (.ref f32) = true)
    (a33 : PySem.W.nsIn K mainGlobals "_law_spans_by" = some (some (.ref f33)))
    (l33 : K.lookup f33 = some ⟨oc33, od33, .func (PySem.W.fnOf "_law_spans_by" "_law_spans_by" (L2.defArgs d_law_spans_by.st) (L2.defBody d_law_spans_by.st) (L2.defScope d_law_spans_by.st) .none kV33 dc33 pm33 an33 cd33 ct33), sl33⟩) (c33 : PySem.W.codeIn K cd33 "_law_spans_by" = true) (k33 : PySem.W.keepIn K (.ref f33) = true)
    (a34 : PySem.W.nsIn K mainGlobals "_law_piece_by" = some (some (.ref f34)))
    (l34 : K.lookup f34 = some ⟨oc34, od34, .func (PySem.W.fnOf "_law_piece_by" "_law_piece_by" (L2.defArgs d_law_piece_by.st) (L2.defBody d_law_piece_by.st) (L2.defScope d_law_piece_by.st) .none kV34 dc34 pm34 an34 cd34 ct34), sl34⟩) (c34 : PySem.W.codeIn K cd34 "_law_piece_by" = true) (k34 : PySem.W.keepIn K (.ref f34) = true)
    (a35 : PySem.W.nsIn K mainGlobals "_law_four" = some (some (.ref f35)))
    (l35 : K.lookup f35 = some ⟨oc35, od35, .func (PySem.W.fnOf "_law_four" "_law_four" (L2.defArgs d_law_four.st) (L2.defBody d_law_four.st) (L2.defScope d_law_four.st) .none kV35 dc35 pm35 an35 cd35 ct35), sl35⟩) (c35 : PySem.W.codeIn K cd35 "_law_four" = true) (k35 : PySem.W.keepIn K (.ref f35) = true)
    (a36 : PySem.W.nsIn K mainGlobals "_law_line" = some (some (.ref f36)))
    (l36 : K.lookup f36 = some ⟨oc36, od36, .func (PySem.W.fnOf "_law_line" "_law_line" (L2.defArgs d_law_line.st) (L2.defBody d_law_line.st) (L2.defScope d_law_line.st) .none kV36 dc36 pm36 an36 cd36 ct36), sl36⟩) (c36 : PySem.W.codeIn K cd36 "_law_line" = true) (k36 : PySem.W.keepIn K (.ref f36) = true)
    (a37 : PySem.W.nsIn K mainGlobals "_law_in" = some (some (.ref f37)))
    (l37 : K.lookup f37 = some ⟨oc37, od37, .func (PySem.W.fnOf "_law_in" "_law_in" (L2.defArgs d_law_in.st) (L2.defBody d_law_in.st) (L2.defScope d_law_in.st) .none kV37 dc37 pm37 an37 cd37 ct37), sl37⟩) (c37 : PySem.W.codeIn K cd37 "_law_in" = true) (k37 : PySem.W.keepIn K (.ref f37) = true)
    (a38 : PySem.W.nsIn K mainGlobals "_law_fine" = some (some (.ref f38)))
    (l38 : K.lookup f38 = some ⟨oc38, od38, .func (PySem.W.fnOf "_law_fine" "_law_fine" (L2.defArgs d_law_fine.st) (L2.defBody d_law_fine.st) (L2.defScope d_law_fine.st) .none kV38 dc38 pm38 an38 cd38 ct38), sl38⟩) (c38 : PySem.W.codeIn K cd38 "_law_fine" = true) (k38 : PySem.W.keepIn K (.ref f38) = true)
    (a39 : PySem.W.nsIn K mainGlobals "_law_good_signs" = some (some (.ref f39)))
    (l39 : K.lookup f39 = some ⟨oc39, od39, .func (PySem.W.fnOf "_law_good_signs" "_law_good_signs" (L2.defArgs d_law_good_signs.st) (L2.defBody d_law_good_signs.st) (L2.defScope d_law_good_signs.st) .none kV39 dc39 pm39 an39 cd39 ct39), sl39⟩) (c39 : PySem.W.codeIn K cd39 "_law_good_signs" = true) (k39 : PySem.W.keepIn K (.ref f39) = true)
    (a40 : PySem.W.nsIn K mainGlobals "_law_is_piece" = some (some (.ref f40)))
    (l40 : K.lookup f40 = some ⟨oc40, od40, .func (PySem.W.fnOf "_law_is_piece" "_law_is_piece" (L2.defArgs d_law_is_piece.st) (L2.defBody d_law_is_piece.st) (L2.defScope d_law_is_piece.st) .none kV40 dc40 pm40 an40 cd40 ct40), sl40⟩) (c40 : PySem.W.codeIn K cd40 "_law_is_piece" = true) (k40 : PySem.W.keepIn K (.ref f40) = true)
    (a41 : PySem.W.nsIn K mainGlobals "_law_same" = some (some (.ref f41)))
    (l41 : K.lookup f41 = some ⟨oc41, od41, .func (PySem.W.fnOf "_law_same" "_law_same" (L2.defArgs d_law_same.st) (L2.defBody d_law_same.st) (L2.defScope d_law_same.st) .none kV41 dc41 pm41 an41 cd41 ct41), sl41⟩) (c41 : PySem.W.codeIn K cd41 "_law_same" = true) (k41 : PySem.W.keepIn K (.ref f41) = true)
    (a42 : PySem.W.nsIn K mainGlobals "_law_number_of" = some (some (.ref f42)))
    (l42 : K.lookup f42 = some ⟨oc42, od42, .func (PySem.W.fnOf "_law_number_of" "_law_number_of" (L2.defArgs d_law_number_of.st) (L2.defBody d_law_number_of.st) (L2.defScope d_law_number_of.st) .none kV42 dc42 pm42 an42 cd42 ct42), sl42⟩) (c42 : PySem.W.codeIn K cd42 "_law_number_of" = true) (k42 : PySem.W.keepIn K (.ref f42) = true)
    (a43 : PySem.W.nsIn K mainGlobals "_law_spans_of" = some (some (.ref f43)))
    (l43 : K.lookup f43 = some ⟨oc43, od43, .func (PySem.W.fnOf "_law_spans_of" "_law_spans_of" (L2.defArgs d_law_spans_of.st) (L2.defBody d_law_spans_of.st) (L2.defScope d_law_spans_of.st) .none kV43 dc43 pm43 an43 cd43 ct43), sl43⟩) (c43 : PySem.W.codeIn K cd43 "_law_spans_of" = true) (k43 : PySem.W.keepIn K (.ref f43) = true)
    (a44 : PySem.W.nsIn K mainGlobals "_law_told" = some (some (.ref f44)))
    (l44 : K.lookup f44 = some ⟨oc44, od44, .func (PySem.W.fnOf "_law_told" "_law_told" (L2.defArgs d_law_told.st) (L2.defBody d_law_told.st) (L2.defScope d_law_told.st) .none kV44 dc44 pm44 an44 cd44 ct44), sl44⟩) (c44 : PySem.W.codeIn K cd44 "_law_told" = true) (k44 : PySem.W.keepIn K (.ref f44) = true)
    (a45 : PySem.W.nsIn K mainGlobals "_law_mended" = some (some (.ref f45)))
    (l45 : K.lookup f45 = some ⟨oc45, od45, .func (PySem.W.fnOf "_law_mended" "_law_mended" (L2.defArgs d_law_mended.st) (L2.defBody d_law_mended.st) (L2.defScope d_law_mended.st) .none kV45 dc45 pm45 an45 cd45 ct45), sl45⟩) (c45 : PySem.W.codeIn K cd45 "_law_mended" = true) (k45 : PySem.W.keepIn K (.ref f45) = true)
    (a46 : PySem.W.nsIn K mainGlobals "_law_odd" = some (some (.ref f46)))
    (l46 : K.lookup f46 = some ⟨oc46, od46, .func (PySem.W.fnOf "_law_odd" "_law_odd" (L2.defArgs d_law_odd.st) (L2.defBody d_law_odd.st) (L2.defScope d_law_odd.st) .none kV46 dc46 pm46 an46 cd46 ct46), sl46⟩) (c46 : PySem.W.codeIn K cd46 "_law_odd" = true) (k46 : PySem.W.keepIn K (.ref f46) = true)
    (a47 : PySem.W.nsIn K mainGlobals "_law_refused" = some (some (.ref f47)))
    (l47 : K.lookup f47 = some ⟨oc47, od47, .func (PySem.W.fnOf "_law_refused" "_law_refused" (L2.defArgs d_law_refused.st) (L2.defBody d_law_refused.st) (L2.defScope d_law_refused.st) .none kV47 dc47 pm47 an47 cd47 ct47), sl47⟩) (c47 : PySem.W.codeIn K cd47 "_law_refused" = true) (k47 : PySem.W.keepIn K (.ref f47) = true)
    (a48 : PySem.W.nsIn K mainGlobals "law" = some (some (.ref f48)))
    (l48 : K.lookup f48 = some ⟨oc48, od48, .func (PySem.W.fnOf "law" "law" (L2.defArgs d_law.st) (L2.defBody d_law.st) (L2.defScope d_law.st) .none kV48 dc48 pm48 an48 cd48 ct48), sl48⟩) (c48 : PySem.W.codeIn K cd48 "law" = true) (k48 : PySem.W.keepIn K (.ref f48) = true)
    (xa0 : PySem.W.nsIn K mainGlobals "FerryError" = some (some (.ref C0))) (xi0 : PySem.W.excIn K C0 [.type "ValueError", .type "Exception", .type "BaseException", .type "object"] "ValueError.__new__" = true)
    (xa1 : PySem.W.nsIn K mainGlobals "Spoilt" = some (some (.ref C1))) (xi1 : PySem.W.excIn K C1 [.type "ValueError", .type "Exception", .type "BaseException", .type "object"] "ValueError.__new__" = true)
    (xa2 : PySem.W.nsIn K mainGlobals "NoPiece" = some (some (.ref C2))) (xi2 : PySem.W.excIn K C2 [.type "ValueError", .type "Exception", .type "BaseException", .type "object"] "ValueError.__new__" = true)
    (xc0 : PySem.W.isClsIn K C0 = true) (xt0 : PySem.W.typeIn K (.ref C0) = some (.type "type")) (xb0 : PySem.W.subIn K (.ref C0) (.type "BaseException") = some true)
    (xm0_0 : PySem.W.subIn K (.ref C0) (.ref C0) = some true)
    (xm0_1 : PySem.W.subIn K (.ref C1) (.ref C0) = some true)
    (xm0_2 : PySem.W.subIn K (.ref C2) (.ref C0) = some true)
    (xc1 : PySem.W.isClsIn K C1 = true) (xt1 : PySem.W.typeIn K (.ref C1) = some (.type "type")) (xb1 : PySem.W.subIn K (.ref C1) (.type "BaseException") = some true)
    (xm1_0 : PySem.W.subIn K (.ref C0) (.ref C1) = some false)
    (xm1_1 : PySem.W.subIn K (.ref C1) (.ref C1) = some true)
    (xm1_2 : PySem.W.subIn K (.ref C2) (.ref C1) = some false)
    (xv0 : PySem.W.subIn K (.ref C0) (.type "ValueError") = some true)
    (xv1 : PySem.W.subIn K (.ref C1) (.type "ValueError") = some true)
    (xv2 : PySem.W.subIn K (.ref C2) (.type "ValueError") = some true)
    (gga0 : PySem.W.findIn K (.ref C0) "__getattribute__" = some (some (.builtin "BaseException.__getattribute__"))) (ggt0 : PySem.W.findIn K (.ref C0) "__getattr__" = some none) (gcl0 : PySem.W.findIn K (.ref C0) "__class__" = some (some (.builtin "object.__class__"))) (gob0 : PySem.W.subIn K (.ref C0) (.type "object") = some true) (gbe0 : PySem.W.subIn K (.ref C0) (.type "BaseException") = some true) (gis0 : PySem.W.isClsIn K C0 = true)
    (gga1 : PySem.W.findIn K (.ref C1) "__getattribute__" = some (some (.builtin "BaseException.__getattribute__"))) (ggt1 : PySem.W.findIn K (.ref C1) "__getattr__" = some none) (gcl1 : PySem.W.findIn K (.ref C1) "__class__" = some (some (.builtin "object.__class__"))) (gob1 : PySem.W.subIn K (.ref C1) (.type "object") = some true) (gbe1 : PySem.W.subIn K (.ref C1) (.type "BaseException") = some true) (gis1 : PySem.W.isClsIn K C1 = true)
    (gga2 : PySem.W.findIn K (.ref C2) "__getattribute__" = some (some (.builtin "BaseException.__getattribute__"))) (ggt2 : PySem.W.findIn K (.ref C2) "__getattr__" = some none) (gcl2 : PySem.W.findIn K (.ref C2) "__class__" = some (some (.builtin "object.__class__"))) (gob2 : PySem.W.subIn K (.ref C2) (.type "object") = some true) (gbe2 : PySem.W.subIn K (.ref C2) (.type "BaseException") = some true) (gis2 : PySem.W.isClsIn K C2 = true)
    (z_CHECK_BEGIN : PySem.W.nsIn K mainGlobals "CHECK_BEGIN" = some (some (.int 7 t_CHECK_BEGIN)))
    (z_CHECK_FACTOR : PySem.W.nsIn K mainGlobals "CHECK_FACTOR" = some (some (.int 31 t_CHECK_FACTOR)))
    (z_CHECK_FIGURES : PySem.W.nsIn K mainGlobals "CHECK_FIGURES" = some (some (.int 4 t_CHECK_FIGURES)))
    (z_CHECK_MODULUS : PySem.W.nsIn K mainGlobals "CHECK_MODULUS" = some (some (.int 9973 t_CHECK_MODULUS)))
    (z_FIGURES : PySem.W.nsIn K mainGlobals "FIGURES" = some (some (.str "0123456789" t_FIGURES)))
    (z_FIRST_SIGN : PySem.W.nsIn K mainGlobals "FIRST_SIGN" = some (some (.int 32 t_FIRST_SIGN)))
    (z_LAST_LIFE : PySem.W.nsIn K mainGlobals "LAST_LIFE" = some (some (.int 1000000000 t_LAST_LIFE)))
    (z_LAST_PLACE : PySem.W.nsIn K mainGlobals "LAST_PLACE" = some (some (.int 1000000 t_LAST_PLACE)))
    (z_LAST_SIGN : PySem.W.nsIn K mainGlobals "LAST_SIGN" = some (some (.int 126 t_LAST_SIGN)))
    (z_LAST_STREAM : PySem.W.nsIn K mainGlobals "LAST_STREAM" = some (some (.int 999 t_LAST_STREAM)))
    (z_LEFT_OUT_SIGN : PySem.W.nsIn K mainGlobals "LEFT_OUT_SIGN" = some (some (.int 37 t_LEFT_OUT_SIGN)))
    (z_MOST_COME : PySem.W.nsIn K mainGlobals "MOST_COME" = some (some (.int 1000001 t_MOST_COME)))
    (z_MOST_FIGURES : PySem.W.nsIn K mainGlobals "MOST_FIGURES" = some (some (.int 13 t_MOST_FIGURES)))
    (z_MOST_LIMIT : PySem.W.nsIn K mainGlobals "MOST_LIMIT" = some (some (.int 1000200 t_MOST_LIMIT)))
    (z_MOST_NUMBER : PySem.W.nsIn K mainGlobals "MOST_NUMBER" = some (some (.int 1000000000000 t_MOST_NUMBER)))
    (z_MOST_SIGNS : PySem.W.nsIn K mainGlobals "MOST_SIGNS" = some (some (.int 40 t_MOST_SIGNS)))
    (z_MOST_SPANS : PySem.W.nsIn K mainGlobals "MOST_SPANS" = some (some (.int 8 t_MOST_SPANS)))
    (z_ValueError : PySem.W.nsIn K mainGlobals "ValueError" = some none)
    (z_all : PySem.W.nsIn K mainGlobals "all" = some none)
    (z_bool : PySem.W.nsIn K mainGlobals "bool" = some none)
    (z_int : PySem.W.nsIn K mainGlobals "int" = some none)
    (z_isinstance : PySem.W.nsIn K mainGlobals "isinstance" = some none)
    (z_len : PySem.W.nsIn K mainGlobals "len" = some none)
    (z_min : PySem.W.nsIn K mainGlobals "min" = some none)
    (z_ord : PySem.W.nsIn K mainGlobals "ord" = some none)
    (z_range : PySem.W.nsIn K mainGlobals "range" = some none)
    (z_str : PySem.W.nsIn K mainGlobals "str" = some none)
    (z_tuple : PySem.W.nsIn K mainGlobals "tuple" = some none) :
    Top K mg G xs xl Mt At ds fns := by
  refine ⟨?ok, rfl, ?gl, ?mt, ?att, ?xm, ?xk, ?xl1, ?xv, ?xg⟩
  case ok =>
    intro i d f hd hf
    have all : AllZ (fun (d : Df) (f : Fn) => DfOk G xs Mt At d f) ds fns := ⟨ok_is_sign, ok_is_signs, ok_is_number, ok_check_of, ok_figures, ok_is_figures, ok_number_of, ok_is_life, ok_is_place, ok_names_stream, ok_is_hello, ok_is_data, ok_is_end, ok_is_span_above, ok_are_spans_above, ok_is_answer, ok_is_piece, ok_number_words, ok_signs_word, ok_spans_word, ok_body_of, ok_written, ok_numbers_of, ok_spans_of, ok_parts_of, ok_read, ok_law_mixed, ok_law_cell_at, ok_law_whole, ok_law_all, ok_law_signs_by, ok_law_check, ok_law_number_by, ok_law_spans_by, ok_law_piece_by, ok_law_four, ok_law_line, ok_law_in, ok_law_fine, ok_law_good_signs, ok_law_is_piece, ok_law_same, ok_law_number_of, ok_law_spans_of, ok_law_told, ok_law_mended, ok_law_odd, ok_law_refused, ok_law, trivial⟩
    exact all.of hd hf
  case gl =>
    intro x g hg
    have all : AllP (fun p : Str × GK => GlP K mg xl ds p.1 p.2) G := ⟨gl_fn X Gm (d := d_law) rfl a48 (df_mk bd_law l48 c48 k48),
      gl_int X Gm z_CHECK_BEGIN,
      gl_int X Gm z_CHECK_FACTOR,
      gl_int X Gm z_CHECK_FIGURES,
      gl_int X Gm z_CHECK_MODULUS,
      ⟨.str _, _, PySem.W.mg_of X Gm z_FIGURES, ⟨_, rfl⟩, fun _ _ _ => rfl⟩,
      gl_int X Gm z_FIRST_SIGN,
      gl_exc X Gm rfl nm_FerryError xa0 xi0,
      gl_int X Gm z_LAST_LIFE,
      gl_int X Gm z_LAST_PLACE,
      gl_int X Gm z_LAST_SIGN,
      gl_int X Gm z_LAST_STREAM,
      gl_int X Gm z_LEFT_OUT_SIGN,
      gl_int X Gm z_MOST_COME,
      gl_int X Gm z_MOST_FIGURES,
      gl_int X Gm z_MOST_LIMIT,
      gl_int X Gm z_MOST_NUMBER,
      gl_int X Gm z_MOST_SIGNS,
      gl_int X Gm z_MOST_SPANS,
      gl_exc X Gm rfl nm_NoPiece xa2 xi2,
      gl_exc X Gm rfl nm_Spoilt xa1 xi1,
      gl_blt X Gm z_ValueError,
      gl_fn X Gm (d := d_law_all) rfl a29 (df_mk bd_law_all l29 c29 k29),
      gl_fn X Gm (d := d_law_cell_at) rfl a27 (df_mk bd_law_cell_at l27 c27 k27),
      gl_fn X Gm (d := d_law_check) rfl a31 (df_mk bd_law_check l31 c31 k31),
      gl_fn X Gm (d := d_law_fine) rfl a38 (df_mk bd_law_fine l38 c38 k38),
      gl_fn X Gm (d := d_law_four) rfl a35 (df_mk bd_law_four l35 c35 k35),
      gl_fn X Gm (d := d_law_good_signs) rfl a39 (df_mk bd_law_good_signs l39 c39 k39),
      gl_fn X Gm (d := d_law_in) rfl a37 (df_mk bd_law_in l37 c37 k37),
      gl_fn X Gm (d := d_law_is_piece) rfl a40 (df_mk bd_law_is_piece l40 c40 k40),
      gl_fn X Gm (d := d_law_line) rfl a36 (df_mk bd_law_line l36 c36 k36),
      gl_fn X Gm (d := d_law_mended) rfl a45 (df_mk bd_law_mended l45 c45 k45),
      gl_fn X Gm (d := d_law_mixed) rfl a26 (df_mk bd_law_mixed l26 c26 k26),
      gl_fn X Gm (d := d_law_number_by) rfl a32 (df_mk bd_law_number_by l32 c32 k32),
      gl_fn X Gm (d := d_law_number_of) rfl a42 (df_mk bd_law_number_of l42 c42 k42),
      gl_fn X Gm (d := d_law_odd) rfl a46 (df_mk bd_law_odd l46 c46 k46),
      gl_fn X Gm (d := d_law_piece_by) rfl a34 (df_mk bd_law_piece_by l34 c34 k34),
      gl_fn X Gm (d := d_law_refused) rfl a47 (df_mk bd_law_refused l47 c47 k47),
      gl_fn X Gm (d := d_law_same) rfl a41 (df_mk bd_law_same l41 c41 k41),
      gl_fn X Gm (d := d_law_signs_by) rfl a30 (df_mk bd_law_signs_by l30 c30 k30),
      gl_fn X Gm (d := d_law_spans_by) rfl a33 (df_mk bd_law_spans_by l33 c33 k33),
      gl_fn X Gm (d := d_law_spans_of) rfl a43 (df_mk bd_law_spans_of l43 c43 k43),
      gl_fn X Gm (d := d_law_told) rfl a44 (df_mk bd_law_told l44 c44 k44),
      gl_fn X Gm (d := d_law_whole) rfl a28 (df_mk bd_law_whole l28 c28 k28),
      gl_blt X Gm z_all,
      gl_fn X Gm (d := d_are_spans_above) rfl a14 (df_mk bd_are_spans_above l14 c14 k14),
      gl_fn X Gm (d := d_body_of) rfl a20 (df_mk bd_body_of l20 c20 k20),
      gl_blt X Gm z_bool,
      gl_fn X Gm (d := d_check_of) rfl a3 (df_mk bd_check_of l3 c3 k3),
      gl_fn X Gm (d := d_figures) rfl a4 (df_mk bd_figures l4 c4 k4),
      gl_blt X Gm z_int,
      gl_fn X Gm (d := d_is_answer) rfl a15 (df_mk bd_is_answer l15 c15 k15),
      gl_fn X Gm (d := d_is_data) rfl a11 (df_mk bd_is_data l11 c11 k11),
      gl_fn X Gm (d := d_is_end) rfl a12 (df_mk bd_is_end l12 c12 k12),
      gl_fn X Gm (d := d_is_figures) rfl a5 (df_mk bd_is_figures l5 c5 k5),
      gl_fn X Gm (d := d_is_hello) rfl a10 (df_mk bd_is_hello l10 c10 k10),
      gl_fn X Gm (d := d_is_life) rfl a7 (df_mk bd_is_life l7 c7 k7),
      gl_fn X Gm (d := d_is_number) rfl a2 (df_mk bd_is_number l2 c2 k2),
      gl_fn X Gm (d := d_is_piece) rfl a16 (df_mk bd_is_piece l16 c16 k16),
      gl_fn X Gm (d := d_is_place) rfl a8 (df_mk bd_is_place l8 c8 k8),
      gl_fn X Gm (d := d_is_sign) rfl a0 (df_mk bd_is_sign l0 c0 k0),
      gl_fn X Gm (d := d_is_signs) rfl a1 (df_mk bd_is_signs l1 c1 k1),
      gl_fn X Gm (d := d_is_span_above) rfl a13 (df_mk bd_is_span_above l13 c13 k13),
      gl_blt X Gm z_isinstance,
      gl_blt X Gm z_len,
      gl_blt X Gm z_min,
      gl_fn X Gm (d := d_names_stream) rfl a9 (df_mk bd_names_stream l9 c9 k9),
      gl_fn X Gm (d := d_number_of) rfl a6 (df_mk bd_number_of l6 c6 k6),
      gl_fn X Gm (d := d_number_words) rfl a17 (df_mk bd_number_words l17 c17 k17),
      gl_fn X Gm (d := d_numbers_of) rfl a22 (df_mk bd_numbers_of l22 c22 k22),
      gl_blt X Gm z_ord,
      gl_fn X Gm (d := d_parts_of) rfl a24 (df_mk bd_parts_of l24 c24 k24),
      gl_blt X Gm z_range,
      gl_fn X Gm (d := d_read) rfl a25 (df_mk bd_read l25 c25 k25),
      gl_fn X Gm (d := d_signs_word) rfl a18 (df_mk bd_signs_word l18 c18 k18),
      gl_fn X Gm (d := d_spans_of) rfl a23 (df_mk bd_spans_of l23 c23 k23),
      gl_fn X Gm (d := d_spans_word) rfl a19 (df_mk bd_spans_word l19 c19 k19),
      gl_blt X Gm z_str,
      gl_blt X Gm z_tuple,
      gl_fn X Gm (d := d_written) rfl a21 (df_mk bd_written l21 c21 k21), trivial⟩
    exact all.of hg
  case mt =>
    intro m mk tb hm
    unfold Mt at hm
    cases hm
  case att =>
    intro f kk cs hf
    unfold At at hf
    cases hf
  case xm =>
    intro i cs C j D hi hC hD
    obtain ⟨hi0, hC⟩ := exOf_some hC
    obtain ⟨hj, hD⟩ := exOf_some hD
    unfold xs at hi
    simp only [List.mem_cons, List.not_mem_nil, or_false, Prod.mk.injEq] at hi
    rcases hi with ⟨rfl, rfl⟩ | ⟨rfl, rfl⟩ | ⟨rfl, rfl⟩ | ⟨rfl, rfl⟩
    · cases cls_is hC nm_FerryError xa0
      unfold xl at hj
      simp only [List.mem_cons, List.not_mem_nil, or_false] at hj
      rcases hj with rfl | rfl | rfl
      · cases cls_is hD nm_FerryError xa0; exact exm_mk xc0 xt0 xb0 xm0_0
      · cases cls_is hD nm_Spoilt xa1; exact exm_mk xc0 xt0 xb0 xm0_1
      · cases cls_is hD nm_NoPiece xa2; exact exm_mk xc0 xt0 xb0 xm0_2
    · cases cls_is hC nm_Spoilt xa1
      unfold xl at hj
      simp only [List.mem_cons, List.not_mem_nil, or_false] at hj
      rcases hj with rfl | rfl | rfl
      · cases cls_is hD nm_FerryError xa0; exact exm_mk xc1 xt1 xb1 xm1_0
      · cases cls_is hD nm_Spoilt xa1; exact exm_mk xc1 xt1 xb1 xm1_1
      · cases cls_is hD nm_NoPiece xa2; exact exm_mk xc1 xt1 xb1 xm1_2
    · unfold xl at hi0; simp at hi0
    · unfold xl at hi0; simp at hi0
  case xk =>
    intro i cs hi hx
    unfold xs at hi
    simp only [List.mem_cons, List.not_mem_nil, or_false, Prod.mk.injEq] at hi
    rcases hi with ⟨rfl, rfl⟩ | ⟨rfl, rfl⟩ | ⟨rfl, rfl⟩ | ⟨rfl, rfl⟩
    all_goals (first | rfl | (exfalso; unfold xl at hx; simp at hx))
  case xl1 =>
    intro cs hi
    unfold xs at hi
    simp only [List.mem_cons, List.not_mem_nil, or_false, Prod.mk.injEq] at hi
    first | (simpa [xl] using hi) | (exfalso; simp at hi)
  case xv =>
    intro cs j D hi hD
    unfold xs at hi
    simp only [List.mem_cons, List.not_mem_nil, or_false, Prod.mk.injEq] at hi
    have hi : cs = [332437021739526678278002, 91742370622580, 22077439339750245] := by simpa using hi
    subst hi
    obtain ⟨hj, hD⟩ := exOf_some hD
    unfold xl at hj
    simp only [List.mem_cons, List.not_mem_nil, or_false] at hj
    rcases hj with rfl | rfl | rfl
    · cases cls_is hD nm_FerryError xa0; exact exm_ve xv0
    · cases cls_is hD nm_Spoilt xa1; exact exm_ve xv1
    · cases cls_is hD nm_NoPiece xa2; exact exm_ve xv2
  case xg =>
    intro j D hD
    obtain ⟨hj, hD⟩ := exOf_some hD
    unfold xl at hj
    simp only [List.mem_cons, List.not_mem_nil, or_false] at hj
    rcases hj with rfl | rfl | rfl
    · cases cls_is hD nm_FerryError xa0; exact ⟨gga0, ggt0, gcl0, gob0, gbe0, gis0⟩
    · cases cls_is hD nm_Spoilt xa1; exact ⟨gga1, ggt1, gcl1, gob1, gbe1, gis1⟩
    · cases cls_is hD nm_NoPiece xa2; exact ⟨gga2, ggt2, gcl2, gob2, gbe2, gis2⟩
theorem w_hi:ds[48]?=some d_law:=by kernel_rfl
theorem w_hq:d_law.qual=d_law.name:=by kernel_rfl
theorem w_hps:d_law.ps=(["_law_script"]:List Str):=by kernel_rfl
theorem w_hG:(("law":Str),GK.fn 48) ∈ G:=List.mem_cons_self ..
end Lk06
def PySem.W.Fast.tw12407491889207169482:Unit:=()
def PySem.W.Fast.tw7299618257055712820:Unit:=()
def PySem.W.Fast.tw17819579556226059976:Unit:=()
def PySem.W.Fast.tw628075159187507577:Unit:=()
def PySem.W.Fast.tw741169848290254723:Unit:=()
def PySem.W.Fast.tw17093256508760794041:Unit:=()
def PySem.W.Fast.tw11493340570204922463:Unit:=()
def PySem.W.Fast.tw8820871840663885617:Unit:=()
def PySem.W.Fast.tw13654753449022216649:Unit:=()
def PySem.W.Fast.tw18401436505691222171:Unit:=()
def PySem.W.Fast.tw3511923208474730827:Unit:=()
def PySem.W.Fast.tw14586056361452603407:Unit:=()
def PySem.W.Fast.tw16174729479635167022:Unit:=()
def PySem.W.Fast.tw16907009827164399141:Unit:=()
def PySem.W.Fast.tw7061941239520210253:Unit:=()
def PySem.W.Fast.tw5207040844730253236:Unit:=()
def PySem.W.Fast.tw1344763156422096316:Unit:=()
def PySem.W.Fast.tw12606024027391604192:Unit:=()
def PySem.W.Fast.tw14415469739889261050:Unit:=()
def PySem.W.Fast.tw14322310594963185287:Unit:=()
def PySem.W.Fast.tw2203204381324786843:Unit:=()
def PySem.W.Fast.tw1506570105037385540:Unit:=()
def PySem.W.Fast.tw18285802097092280604:Unit:=()
def PySem.W.Fast.tw660577753186127937:Unit:=()
def PySem.W.Fast.tw12850223453523599344:Unit:=()
def PySem.W.Fast.tw718848007007824870:Unit:=()
def PySem.W.Fast.tw16286152383326544623:Unit:=()
def PySem.W.Fast.tw13530513063757337045:Unit:=()
def PySem.W.Fast.tw11456543627923302346:Unit:=()
def PySem.W.Fast.tw2222342110473907808:Unit:=()
open PySem PySem.W PyProof.Rows
set_option maxRecDepth 100000 in
set_option maxHeartbeats 0 in
theorem PySem.Challenge.cw_ferry_k06_read_holds : PySem.Challenge.rw_ferry_k06_read.Holds := by
 w_on; o_law; k_head; (case hw=>w_witness2)
 k_fill
 refine Fy.walk (l:=PySem.Challenge.rw_ferry_k06_read) (G:=Lk06.G) (xs:=Lk06.xs) (xl:=Lk06.xl) (Mt:=Lk06.Mt) (At:=Lk06.At) (ds:=Lk06.ds) (fns:=Lk06.fns) (B:=1000) (i:=48) (d:=Lk06.d_law) (x:="_law_script") rfl rfl Lk06.w_hi Lk06.w_hG Lk06.w_hq Lk06.w_hps (fun w h Y=>PySem.W.kIn_of Y) ?T (fun ns hl=>Lk06.law_true 1000 31 ns hl) ?B
 case B =>
  intro fd f K F s u
  obtain ⟨oc,od,kV,doc,pm,an,cdv,ct,osl,rfl,lk,hcd⟩:=F.ex
  exact .of_eq rfl
 case T =>
  intro w mg h KX G
  refine' Lk06.top_mk KX G ?a0 ?l0 ?c0 ?k0 ?a1 ?l1 ?c1 ?k1 ?a2 ?l2 ?c2 ?k2 ?a3 ?l3 ?c3 ?k3 ?a4 ?l4 ?c4 ?k4 ?a5 ?l5 ?c5 ?k5 ?a6 ?l6 ?c6 ?k6 ?a7 ?l7 ?c7 ?k7 ?a8 ?l8 ?c8 ?k8 ?a9 ?l9 ?c9 ?k9 ?a10 ?l10 ?c10 ?k10 ?a11 ?l11 ?c11 ?k11 ?a12 ?l12 ?c12 ?k12 ?a13 ?l13 ?c13 ?k13 ?a14 ?l14 ?c14 ?k14 ?a15 ?l15 ?c15 ?k15 ?a16 ?l16 ?c16 ?k16 ?a17 ?l17 ?c17 ?k17 ?a18 ?l18 ?c18 ?k18 ?a19 ?l19 ?c19 ?k19 ?a20 ?l20 ?c20 ?k20 ?a21 ?l21 ?c21 ?k21 ?a22 ?l22 ?c22 ?k22 ?a23 ?l23 ?c23 ?k23 ?a24 ?l24 ?c24 ?k24 ?a25 ?l25 ?c25 ?k25 ?a26 ?l26 ?c26 ?k26 ?a27 ?l27 ?c27 ?k27 ?a28 ?l28 ?c28 ?k28 ?a29 ?l29 ?c29 ?k29 ?a30 ?l30 ?c30 ?k30 ?a31 ?l31 ?c31 ?k31 ?a32 ?l32 ?c32 ?k32 ?a33 ?l33 ?c33 ?k33 ?a34 ?l34 ?c34 ?k34 ?a35 ?l35 ?c35 ?k35 ?a36 ?l36 ?c36 ?k36 ?a37 ?l37 ?c37 ?k37 ?a38 ?l38 ?c38 ?k38 ?a39 ?l39 ?c39 ?k39 ?a40 ?l40 ?c40 ?k40 ?a41 ?l41 ?c41 ?k41 ?a42 ?l42 ?c42 ?k42 ?a43 ?l43 ?c43 ?k43 ?a44 ?l44 ?c44 ?k44 ?a45 ?l45 ?c45 ?k45 ?a46 ?l46 ?c46 ?k46 ?a47 ?l47 ?c47 ?k47 ?a48 ?l48 ?c48 ?k48 ?xa0 ?xi0 ?xa1 ?xi1 ?xa2 ?xi2 ?xc0 ?xt0 ?xb0 ?xm0_0 ?xm0_1 ?xm0_2 ?xc1 ?xt1 ?xb1 ?xm1_0 ?xm1_1 ?xm1_2 ?xv0 ?xv1 ?xv2 ?gga0 ?ggt0 ?gcl0 ?gob0 ?gbe0 ?gis0 ?gga1 ?ggt1 ?gcl1 ?gob1 ?gbe1 ?gis1 ?gga2 ?ggt2 ?gcl2 ?gob2 ?gbe2 ?gis2 ?z_CHECK_BEGIN ?z_CHECK_FACTOR ?z_CHECK_FIGURES ?z_CHECK_MODULUS ?z_FIGURES ?z_FIRST_SIGN ?z_LAST_LIFE ?z_LAST_PLACE ?z_LAST_SIGN ?z_LAST_STREAM ?z_LEFT_OUT_SIGN ?z_MOST_COME ?z_MOST_FIGURES ?z_MOST_LIMIT ?z_MOST_NUMBER ?z_MOST_SIGNS ?z_MOST_SPANS ?z_ValueError ?z_all ?z_bool ?z_int ?z_isinstance ?z_len ?z_min ?z_ord ?z_range ?z_str ?z_tuple
  (case a0=>k_is)
  (case l0=>k_is)
  (case c0=>k_is)
  (case k0=>k_is)
  (case a1=>k_is)
  (case l1=>k_is)
  (case c1=>k_is)
  (case k1=>k_is)
  (case a2=>k_is)
  (case l2=>k_is)
  (case c2=>k_is)
  (case k2=>k_is)
  (case a3=>k_is)
  (case l3=>k_is)
  (case c3=>k_is)
  (case k3=>k_is)
  (case a4=>k_is)
  (case l4=>k_is)
  (case c4=>k_is)
  (case k4=>k_is)
  (case a5=>k_is)
  (case l5=>k_is)
  (case c5=>k_is)
  (case k5=>k_is)
  (case a6=>k_is)
  (case l6=>k_is)
  (case c6=>k_is)
  (case k6=>k_is)
  (case a7=>k_is)
  (case l7=>k_is)
  (case c7=>k_is)
  (case k7=>k_is)
  (case a8=>k_is)
  (case l8=>k_is)
  (case c8=>k_is)
  (case k8=>k_is)
  (case a9=>k_is)
  (case l9=>k_is)
  (case c9=>k_is)
  (case k9=>k_is)
  (case a10=>k_is)
  (case l10=>k_is)
  (case c10=>k_is)
  (case k10=>k_is)
  (case a11=>k_is)
  (case l11=>k_is)
  (case c11=>k_is)
  (case k11=>k_is)
  (case a12=>k_is)
  (case l12=>k_is)
  (case c12=>k_is)
  (case k12=>k_is)
  (case a13=>k_is)
  (case l13=>k_is)
  (case c13=>k_is)
  (case k13=>k_is)
  (case a14=>k_is)
  (case l14=>k_is)
  (case c14=>k_is)
  (case k14=>k_is)
  (case a15=>k_is)
  (case l15=>k_is)
  (case c15=>k_is)
  (case k15=>k_is)
  (case a16=>k_is)
  (case l16=>k_is)
  (case c16=>k_is)
  (case k16=>k_is)
  (case a17=>k_is)
  (case l17=>k_is)
  (case c17=>k_is)
  (case k17=>k_is)
  (case a18=>k_is)
  (case l18=>k_is)
  (case c18=>k_is)
  (case k18=>k_is)
  (case a19=>k_is)
  (case l19=>k_is)
  (case c19=>k_is)
  (case k19=>k_is)
  (case a20=>k_is)
  (case l20=>k_is)
  (case c20=>k_is)
  (case k20=>k_is)
  (case a21=>k_is)
  (case l21=>k_is)
  (case c21=>k_is)
  (case k21=>k_is)
  (case a22=>k_is)
  (case l22=>k_is)
  (case c22=>k_is)
  (case k22=>k_is)
  (case a23=>k_is)
  (case l23=>k_is)
  (case c23=>k_is)
  (case k23=>k_is)
  (case a24=>k_is)
  (case l24=>k_is)
  (case c24=>k_is)
  (case k24=>k_is)
  (case a25=>k_is)
  (case l25=>k_is)
  (case c25=>k_is)
  (case k25=>k_is)
  (case a26=>k_is)
  (case l26=>k_is)
  (case c26=>k_is)
  (case k26=>k_is)
  (case a27=>k_is)
  (case l27=>k_is)
  (case c27=>k_is)
  (case k27=>k_is)
  (case a28=>k_is)
  (case l28=>k_is)
  (case c28=>k_is)
  (case k28=>k_is)
  (case a29=>k_is)
  (case l29=>k_is)
  (case c29=>k_is)
  (case k29=>k_is)
  (case a30=>k_is)
  (case l30=>k_is)
  (case c30=>k_is)
  (case k30=>k_is)
  (case a31=>k_is)
  (case l31=>k_is)
  (case c31=>k_is)
  (case k31=>k_is)
  (case a32=>k_is)
  (case l32=>k_is)
  (case c32=>k_is)
  (case k32=>k_is)
  (case a33=>k_is)
  (case l33=>k_is)
  (case c33=>k_is)
  (case k33=>k_is)
  (case a34=>k_is)
  (case l34=>k_is)
  (case c34=>k_is)
  (case k34=>k_is)
  (case a35=>k_is)
  (case l35=>k_is)
  (case c35=>k_is)
  (case k35=>k_is)
  (case a36=>k_is)
  (case l36=>k_is)
  (case c36=>k_is)
  (case k36=>k_is)
  (case a37=>k_is)
  (case l37=>k_is)
  (case c37=>k_is)
  (case k37=>k_is)
  (case a38=>k_is)
  (case l38=>k_is)
  (case c38=>k_is)
  (case k38=>k_is)
  (case a39=>k_is)
  (case l39=>k_is)
  (case c39=>k_is)
  (case k39=>k_is)
  (case a40=>k_is)
  (case l40=>k_is)
  (case c40=>k_is)
  (case k40=>k_is)
  (case a41=>k_is)
  (case l41=>k_is)
  (case c41=>k_is)
  (case k41=>k_is)
  (case a42=>k_is)
  (case l42=>k_is)
  (case c42=>k_is)
  (case k42=>k_is)
  (case a43=>k_is)
  (case l43=>k_is)
  (case c43=>k_is)
  (case k43=>k_is)
  (case a44=>k_is)
  (case l44=>k_is)
  (case c44=>k_is)
  (case k44=>k_is)
  (case a45=>k_is)
  (case l45=>k_is)
  (case c45=>k_is)
  (case k45=>k_is)
  (case a46=>k_is)
  (case l46=>k_is)
  (case c46=>k_is)
  (case k46=>k_is)
  (case a47=>k_is)
  (case l47=>k_is)
  (case c47=>k_is)
  (case k47=>k_is)
  (case a48=>k_is)
  (case l48=>k_is)
  (case c48=>k_is)
  (case k48=>k_is)
  (case xa0=>k_is)
  (case xi0=>k_exc)
  (case xa1=>k_is)
  (case xi1=>k_exc)
  (case xa2=>k_is)
  (case xi2=>k_exc)
  (case xc0=>k_is)
  (case xt0=>k_is)
  (case xb0=>k_is)
  (case xm0_0=>k_is)
  (case xm0_1=>k_is)
  (case xm0_2=>k_is)
  (case xc1=>k_is)
  (case xt1=>k_is)
  (case xb1=>k_is)
  (case xm1_0=>k_is)
  (case xm1_1=>k_is)
  (case xm1_2=>k_is)
  (case xv0=>k_is)
  (case xv1=>k_is)
  (case xv2=>k_is)
  (case gga0=>k_is)
  (case ggt0=>k_is)
  (case gcl0=>k_is)
  (case gob0=>k_is)
  (case gbe0=>k_is)
  (case gis0=>k_is)
  (case gga1=>k_is)
  (case ggt1=>k_is)
  (case gcl1=>k_is)
  (case gob1=>k_is)
  (case gbe1=>k_is)
  (case gis1=>k_is)
  (case gga2=>k_is)
  (case ggt2=>k_is)
  (case gcl2=>k_is)
  (case gob2=>k_is)
  (case gbe2=>k_is)
  (case gis2=>k_is)
  (case z_CHECK_BEGIN=>k_is)
  (case z_CHECK_FACTOR=>k_is)
  (case z_CHECK_FIGURES=>k_is)
  (case z_CHECK_MODULUS=>k_is)
  (case z_FIGURES=>k_is)
  (case z_FIRST_SIGN=>k_is)
  (case z_LAST_LIFE=>k_is)
  (case z_LAST_PLACE=>k_is)
  (case z_LAST_SIGN=>k_is)
  (case z_LAST_STREAM=>k_is)
  (case z_LEFT_OUT_SIGN=>k_is)
  (case z_MOST_COME=>k_is)
  (case z_MOST_FIGURES=>k_is)
  (case z_MOST_LIMIT=>k_is)
  (case z_MOST_NUMBER=>k_is)
  (case z_MOST_SIGNS=>k_is)
  (case z_MOST_SPANS=>k_is)
  (case z_ValueError=>k_is)
  (case z_all=>k_is)
  (case z_bool=>k_is)
  (case z_int=>k_is)
  (case z_isinstance=>k_is)
  (case z_len=>k_is)
  (case z_min=>k_is)
  (case z_ord=>k_is)
  (case z_range=>k_is)
  (case z_str=>k_is)
  (case z_tuple=>k_is)
