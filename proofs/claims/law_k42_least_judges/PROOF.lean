import PyProof.Rows.All
import Wide.All
import OpenK.AllK
import Wide.FinOn
import PyProof.EqAt
import PyProof.EqKinds
import PyProof.TupleCall
import Lean
import PySem.Challenge.RW_surewatch_k42_least_judges
set_option Elab.async false
set_option linter.all false
set_option maxRecDepth 100000
section
section
namespace L2
open PySem PySem.Spec PyProof.Rows
inductive D where
 | cH | bl (b:Bool) | int (i:Int) | str (z:Str) | tup (ds:List D) | lst (ds:List D)
mutual
noncomputable def D.same:D->D->Bool
 | .cH,.cH=>true
 | .bl a,.bl b=>a == b
 | .int a,.int b=>a == b
 | .str a,.str b=>decide (a=b)
 | .tup a,.tup b=>D.nU a b
 | .lst a,.lst b=>D.nU a b
 | _,_=>false
noncomputable def D.nU:List D->List D->Bool
 | [],[]=>true
 | a :: as,b :: bs=>D.same a b && D.nU as bs
 | _,_=>false
end
mutual
theorem D.same_refl:∀a:D,D.same a a=true
 | .cH=>rfl
 | .bl _=>by simp[D.same]
 | .int _=>by simp[D.same]
 | .str _=>by simp[D.same]
 | .tup a=>by unfold D.same;exact D.nv a
 | .lst a=>by unfold D.same;exact D.nv a
theorem D.nv:∀a:List D,D.nU a a=true
 | []=>rfl
 | a :: as=>by unfold D.nU;rw[D.same_refl a,D.nv as];rfl
end
mutual
theorem D.same_eq:∀{a b:D},D.same a b=true->a=b
 | .cH,b,h=>by cases b <;> simp[D.same] at h ⊢
 | .bl _,b,h=>by cases b <;> simp[D.same] at h ⊢;exact h
 | .int _,b,h=>by cases b <;> simp[D.same] at h ⊢;exact h
 | .str _,b,h=>by cases b <;> simp[D.same] at h ⊢;exact h
 | .tup a,b,h=>by
  cases b with
  | tup b=>unfold D.same at h;rw[D.rE h]
  | _=>simp[D.same] at h
 | .lst a,b,h=>by
  cases b with
  | lst b=>unfold D.same at h;rw[D.rE h]
  | _=>simp[D.same] at h
theorem D.rE:∀{a b:List D},D.nU a b=true->a=b
  | [],b,h=>by cases b <;> simp[D.nU] at h ⊢
  | a :: as, b, h => by
    cases b with
    | nil=>simp[D.nU] at h
    | cons b bs=>
      unfold D.nU at h
      rw[Bool.and_eq_true] at h
      rw[D.same_eq h.1,D.rE h.2]
end
noncomputable instance:DecidableEq D:=fun a b=>if h:D.same a b=true then isTrue (D.same_eq h) else isFalse fun e=>h (e▸D.same_refl a)
noncomputable def bI (b:Bool):Int:=if b then 1 else 0
mutual
noncomputable def nf:D->D
 | .bl b=>.int (bI b)
 | .tup ds=>.tup (Eh ds)
 | d=>d
noncomputable def Eh:List D->List D
 | []=>[]
 | d :: ds=>nf d :: Eh ds
end
noncomputable def fR:Nat->D->Bool
 | _,.bl _=>true
 | _,.int _=>true
 | _,.str _=>true
 | n+1,.tup ds=>ds.all (fR n)
 | _,_=>false
mutual
theorem zJ:∀(d:D) (n:Nat),fR n d=true->fR n (nf d)=true
 | .bl _,n,_=>by cases n <;> rfl
 | .int _,n,_=>by cases n <;> rfl
 | .str _,n,_=>by cases n <;> rfl
 | .cH,n,h=>by cases n <;> exact h
 | .lst _,n,h=>by cases n <;> exact h
 | .tup ds,0,h=>by exact h
 | .tup ds,n+1,h=>wj ds n h
theorem wj:∀(ds:List D) (n:Nat),ds.all (fR n)=true->(Eh ds).all (fR n)=true
 | [],n,_=>rfl
 | d :: ds,n,h=>by
  rw[List.all_cons,Bool.and_eq_true] at h
  show((nf d :: Eh ds).all (fR n))=true
  rw[List.all_cons,zJ d n h.1,wj ds n h.2]
  rfl
end
mutual
inductive tH (h:Heap):Value->D->Prop
 | bool (b:Bool):tH h (.bool b) (.int (bI b))
 | int (i:Int) (t:Tok):tH h (.int i t) (.int i)
 | str (x:Str) (t:Tok):tH h (.str x t) (.str x)
 | tup {a:Addr}{its:List Value}{ds:List D}(p:h.IsTuple a its.toArray) (r:jX h its ds):tH h (.ref a) (.tup ds)
inductive jX (h:Heap):List Value->List D->Prop
 | nil:jX h [] []
 | cons {u:Value}{d:D}{us:List Value}{ds:List D}(r:tH h u d) (rs:jX h us ds):jX h (u :: us) (d :: ds)
end
mutual
noncomputable def BL (w:World):D->Int
 | .int i=>hashInt i
 | .str x=>hashStr w x
 | .tup ds=>reduceHash (Builtin.Tuple.tupleHashOf (nA w ds))
 | _=>0
noncomputable def nA (w:World):List D->List Int
 | []=>[]
 | d :: ds=>BL w d :: nA w ds
end
mutual
noncomputable def uW:D->Nat
 | .tup ds=>qW ds+1
 | _=>1
noncomputable def qW:List D->Nat
 | []=>0
 | d :: ds=>uW d+qW ds
end
theorem jX.length {h:Heap}:∀{us:List Value}{ds:List D},jX h us ds->us.length=ds.length
 | _,_,.nil=>rfl
 | _,_,.cons _ rs=>congrArg Nat.succ (jX.length rs)
mutual
theorem tH.inj {h:Heap}:∀{v:Value}{d e:D},tH h v d->tH h v e->d=e
 | _,_,_,.bool b,r=>by cases r;rfl
 | _,_,_,.int i t,r=>by cases r;rfl
 | _,_,_,.str x t,r=>by cases r;rfl
 | _,_,_,@tH.tup _ a its ds p r,q=>by
  cases q with
  | @tup _ its' ds' p' r'=>
   obtain⟨o,h1,_,n,h2⟩:=p
   obtain⟨o',SH,_,n',h2'⟩:=p'
   rw[h1] at SH
   cases SH
   rw[h2] at h2'
   injection h2' with e1 _
   have e:its=its':=by simpa using congrArg Array.toList e1
   subst e
   rw[jX.inj r r']
theorem jX.inj {h:Heap}:∀{vs:List Value}{ds es:List D},jX h vs ds->jX h vs es->ds=es
 | _,_,_,.nil,r=>by cases r;rfl
 | _,_,_,.cons r1 s1,r=>by
  cases r with
  | cons r2 s2=>rw[tH.inj r1 r2,jX.inj s1 s2]
end
mutual
theorem tH.keeps {h h':Heap}{d:Addr}{o:Obj}{es:Array DictEntry}{ep:Nat}(ho:h.get? d=some o) (hd:o.data= .dict es ep) (hs:Heap.SameBut d h h'):∀{v:Value}{k:D},tH h v k->tH h' v k
 | _,_,.bool b=>.bool b
 | _,_,.int i t=>.int i t
 | _,_,.str x t=>.str x t
 | _,_,@tH.tup _ a its ds p r=>by
  obtain⟨o',h1,h2,n,h3⟩:=p
  have hne:a≠d:=by
   intro z
   subst z
   rw[ho] at h1
   cases h1
   rw[hd] at h3
   cases h3
  exact .tup ⟨o',(hs.2 a hne).trans h1,h2,n,h3⟩ (jX.keeps ho hd hs r)
theorem jX.keeps {h h':Heap}{d:Addr}{o:Obj}{es:Array DictEntry}{ep:Nat}(ho:h.get? d=some o) (hd:o.data= .dict es ep) (hs:Heap.SameBut d h h'):∀{v:List Value}{k:List D},jX h v k->jX h' v k
 | _,_,.nil=>.nil
 | _,_,.cons r1 s1=>.cons (tH.keeps ho hd hs r1) (jX.keeps ho hd hs s1)
end
section
variable {prog:Program}{w:World}{E:Value->Shared->Prop}
theorem qj {A:Around}{s:Shared}{b:Bool}{Q:Int->Shared->Prop}(h:Q (hashInt (bI b)) {s with toks:=s.toks+1}):wpAny (model prog w) A (pyHash (.bool b)) Q E s:=by
 refine PySem.W.pyHash_slot (T:="bool") rfl F.slot_bool_hash F.entry_int_hash (F.args_int_hash_1 _) (beq_builtin_none _) (.inl rfl) ?_
 cases b
 ·exact(show wpAny _ _ (do ret (<-mkInt 0)) _ _ s from wpAny_bind (wpAny_mkInt (wpAny_pure ⟨_,_,rfl,h⟩)))
 ·exact(show wpAny _ _ (do ret (<-mkInt 1)) _ _ s from wpAny_bind (wpAny_mkInt (wpAny_pure ⟨_,_,rfl,h⟩)))
mutual
theorem wk : ∀ (d : D) {n : Nat} {v : Value} {A : Around} {s : Shared} {Q : Int -> Shared -> Prop}, tH s.heap v d -> fR n d = true -> A.units + n < cLine -> Q (BL w d) { s with toks := s.toks + uW d } -> wpAny (model prog w) A (pyHash v) Q E s
  | .int i,n,v,A,s,Q,x,_,_,h=>by
    cases x with
    | int=>exact wpAny_pyHash_int h
    | bool b=>exact qj h
  | .str y,n,v,A,s,Q,x,_,_,h=>by cases x;exact wpAny_pyHash_str h
  | .cH,n,v,A,s,Q,x,_,_,h=>by cases x
  | .bl _,n,v,A,s,Q,x,_,_,h=>by cases x
  | .lst _,n,v,A,s,Q,x,_,_,h=>by cases x
  | .tup ds,n,v,A,s,Q,x,hk,hu,h=>by
    cases n with
    | zero=>simp[fR] at hk
    | succ n=>
      cases x with
      | @tup a its _ p r=>
        obtain⟨o,hg,hc,m,hd⟩:=p
        refine PySem.W.pyHash_slot (T:="tuple") ⟨_,hg,hc⟩ F.slot_tuple_hash F.entry_tuple_hash (F.args_tuple_hash_1 _) (beq_builtin_none _) (.inr (by omega)) ?_
        show wpAny _ _ (Builtin.Tuple.tupleItemsOf (.ref a) >>= _) _ _ s
        refine wpAny_bind (wpAny_tupleItemsOf hg hd ?_)
        refine wpAny_bind ?_
        rw[<-Array.forIn_toList]
        refine ux ds (n:=n) (A:=A.in1) (b:=#[]) r hk (by rw[Around.in1_units];omega) fun b hb=>?_
        show wpAny _ _ (retInt (Builtin.Tuple.tupleHashOf b.toList)) _ _ _
        rw[hb]
        refine wpAny_bind (wpAny_mkInt (wpAny_pure ⟨_,_,rfl,?_⟩))
        have e:(#[]:Array Int).toList++nA w ds=nA w ds:=by simp
        rw[e]
        exact h
theorem ux:∀(ds:List D){n:Nat}{vs:List Value}{A:Around}{s:Shared}{b:Array Int}{Q:Array Int->Shared->Prop},jX s.heap vs ds->ds.all (fR n)=true->A.units+n < cLine->
    (∀b',b'.toList=b.toList++nA w ds->Q b' {s with toks:=s.toks+qW ds})->
    wpAny (model prog w) A (forIn vs b fun x r=>do let h <-pyHash x;pure PUnit.unit;pure (ForInStep.yield (r.push h))) Q E s
  | [],n,_,A,s,b,Q,x,_,_,h=>by cases x;exact wpAny_pure (h b (by simp[nA]))
  | d :: ds, n, _, A, s, b, Q, x, hk, hu, h => by
    cases x with
    | cons x1 x2=>
      rw[List.all_cons,Bool.and_eq_true] at hk
      rw[List.forIn_cons]
      refine wpAny_bind (wpAny_bind (wk d (n:=n) x1 hk.1 hu ?_))
      refine wpAny_bind (wpAny_pure (wpAny_pure ?_))
      refine ux ds (n:=n) x2 hk.2 hu fun b' hb=>?_
      have q:=h b' (by simp[hb,nA])
      show Q b' {s with toks:=s.toks+uW d+qW ds}
      rw[Nat.add_assoc]
      exact q
end
end
theorem uX (n:Nat) (f:Nat->Bool):(List.range (n+1)).all f=(f 0 && (List.range n).all fun j=>f (j+1)):=by
 rw[List.range_succ_eq_map,List.all_cons,List.all_map];rfl
theorem wu:∀ds es:List D,((List.range (min ds.length es.length)).all (fun j=>decide (ds[j]? =es[j]?)) && ds.length == es.length)=decide (ds=es)
  | [],[]=>by simp
  | [],e :: es=>by simp
  | d :: ds,[]=>by simp
  | d :: ds, e :: es => by
    have ih:=wu ds es
    have e1:min (d :: ds).length (e :: es).length=min ds.length es.length+1:=by simp only[List.length_cons];omega
    rw[e1,uX]
    have e2:(fun j=>decide ((d :: ds)[j+1]? =(e :: es)[j+1]?))=fun j=>decide (ds[j]? =es[j]?):=by funext j;simp
    have e3:((d :: ds).length == (e :: es).length)=(ds.length == es.length):=by simp
    have e4:decide ((d :: ds)[0]? =(e :: es)[0]?)=decide (d=e):=by simp
    have e5:decide (d :: ds=e :: es)=(decide (d=e) && decide (ds=es)):=by
      by_cases a:d=e
      . subst a;by_cases b:ds=es <;> simp[b]
      . simp[a]
    rw[e2,e3,e4,Bool.and_assoc,ih,e5]
theorem BN {α:Type}(l:List α) (j:Nat) (h:j < l.toArray.size):l[j]? =some l.toArray[j]:=by
 have z:j < l.length:=by simpa using h
 simp[z]
mutual
theorem SI : ∀ (d : D) {e : D} {n : Nat} {A : Around} {s : Shared} {u v : Value}, tH s.heap u d -> tH s.heap v e -> fR n d = true -> A.units + n < cLine -> SeqAt.EqAt A s u v (decide (d = e))
  | .int i,e,n,A,s,u,v,r1,r2,_,hu=>by
    have di:∀i j:Int,decide (D.int i=D.int j)=(i == j):=fun i j=>by by_cases z:i=j <;> simp[z]
    cases r1 with
    | int _ t=>
      cases r2 with
      | int j t'=>rw[di];exact SeqAt.EqAt.int_int i t j t'
      | bool b=>rw[di];exact SeqAt.EqAt.int_bool i t b
      | str x t'=>exact SeqAt.EqAt.int_str i t x t'
      | tup p r=>exact SeqAt.EqAt.int_tuple i t p (by omega)
    | bool a=>
      cases r2 with
      | int j t'=>rw[di];exact SeqAt.EqAt.bool_int a j t'
      | bool b=>
        have:(bI a == bI b)=(a == b):=by cases a <;> cases b <;> rfl
        rw[di,this];exact SeqAt.EqAt.bool_bool a b
      | str x t'=>exact SeqAt.EqAt.bool_str a x t'
      | tup p r=>exact SeqAt.EqAt.bool_tuple a p (by omega)
  | .str i, e, n, A, s, u, v, r1, r2, _, hu => by
    cases r1 with
    | str _ t=>
    cases r2 with
    | int j t'=>exact SeqAt.EqAt.str_int i t j t'
    | bool b=>exact SeqAt.EqAt.str_bool i t b
    | str x t' => have : decide (D.str i = D.str x) = (i == x) := by by_cases z : i = x <;> simp [z]
                  rw[this];exact SeqAt.EqAt.str_str i t x t'
    | tup p r=>exact SeqAt.EqAt.str_tuple i t p (by omega)
  | .cH,e,n,A,s,u,v,r1,r2,hk,hu=>by cases r1
  | .bl _,e,n,A,s,u,v,r1,r2,hk,hu=>by cases r1
  | .lst _,e,n,A,s,u,v,r1,r2,hk,hu=>by cases r1
  | .tup ds,e,n,A,s,u,v,r1,r2,hk,hu=>by
    cases n with
    | zero=>simp[fR] at hk
    | succ n=>
    cases r1 with
    | @tup ca fS _ pa ra=>
    cases r2 with
    | int j t'=>exact SeqAt.EqAt.tuple_int j t' pa (by omega)
    | bool b=>exact SeqAt.EqAt.tuple_bool b pa (by omega)
    | str x t'=>exact SeqAt.EqAt.tuple_str x t' pa (by omega)
    | @tup cb bN es pb rb=>
      have items:∀j (h1:j < fS.toArray.size) (h2:j < bN.toArray.size),SeqAt.EqAt A.in1 s fS.toArray[j] bN.toArray[j] (decide (ds[j]? =es[j]?)):=fun j h1 h2=>
        Kv ds (n:=n) (A:=A.in1) ra rb hk (by rw[Around.in1_units];omega) (BN fS j h1) (BN bN j h2)
      by_cases hc:ca=cb
      . subst hc
        have z:=tH.inj (.tup pa ra) (.tup pb rb)
        rw[z,decide_eq_true rfl]
        exact SeqAt.EqAt.same _
      . have q:=SeqAt.RcAt.tuples (e:=fun j=>decide (ds[j]? =es[j]?)) pa pb (by omega) items
        rw[List.size_toArray,List.size_toArray,ra.length,rb.length,wu] at q
        have z:decide (D.tup ds=D.tup es)=decide (ds=es):=by by_cases a:ds=es <;> simp[a]
        rw[z]
        exact SeqAt.EqAt.of_refs hc q
theorem Kv : ∀ (ds : List D) {es : List D} {n : Nat} {A : Around} {s : Shared} {us vs : List Value} {j : Nat} {u v : Value}, jX s.heap us ds -> jX s.heap vs es -> ds.all (fR n) = true -> A.units + n < cLine -> us[j]? = some u -> vs[j]? = some v ->
    SeqAt.EqAt A s u v (decide (ds[j]? =es[j]?))
  | [],es,n,A,s,us,vs,j,u,v,r1,r2,hk,hu,h1,h2=>by cases r1;simp at h1
  | d :: ds, es, n, A, s, us, vs, j, u, v, r1, r2, hk, hu, h1, h2 => by
    rw[List.all_cons,Bool.and_eq_true] at hk
    cases r1 with
    | cons a as=>
    cases r2 with
    | nil=>simp at h2
    | @cons v' e' vs' es' b bs=>
      cases j with
      | zero=>
        simp only[List.getElem?_cons_zero,Option.some.injEq] at h1 h2
        subst h1
        subst h2
        have z:decide ((d :: ds)[0]? =(e' :: es')[0]?)=decide (d=e'):=by simp
        rw[z]
        exact SI d a b hk.1 hu
      | succ j=>
        have z:decide ((d :: ds)[j+1]? =(e' :: es')[j+1]?)=decide (ds[j]? =es'[j]?):=by simp
        rw[z]
        exact Kv ds as bs hk.2 hu (by simpa using h1) (by simpa using h2)
end
section
variable {prog:Program}{w:World}{A:Around}{E:Value->Shared->Prop}{s:Shared}
mutual
theorem BO : ∀ (d : D) {n : Nat} {v : Value} {Q : Bool -> Shared -> Prop}, tH s.heap v d -> fR n d = true -> Q true s -> wpAny (model prog w) A (eqIsQuiet n v) Q E s
  | .int i,n,v,Q,x,_,h=>by cases x <;> (rw[eqIsQuiet_byValue n rfl];exact wpAny_pure h)
  | .str y,n,v,Q,x,_,h=>by cases x;rw[eqIsQuiet_byValue n rfl];exact wpAny_pure h
  | .cH,n,v,Q,x,_,h=>by cases x
  | .bl _,n,v,Q,x,_,h=>by cases x
  | .lst _,n,v,Q,x,_,h=>by cases x
  | .tup ds,n,v,Q,x,hk,h=>by
    cases n with
    | zero=>simp[fR] at hk
    | succ n=>
      cases x with
      | @tup a its _ p r=>
        obtain⟨o,hg,hc,m,hd⟩:=p
        have hT:s.TypeIs (.ref a) "tuple":=⟨o,hg,hc⟩
        unfold eqIsQuiet
        refine wpAny_bind (wpAny_specialOf hT F.slot_tuple_eq.lookup ?_)
        show wpAny _ _ (isInstance (.ref a) (.type "tuple") >>= _) _ _ s
        refine wpAny_bind (wpAny_isInstance hT isSubtype_tuple_tuple ?_)
        simp only[Bool.not_true,Bool.false_eq_true,if_false]
        refine wpAny_bind (wpAny_seqItems hg hd ?_)
        refine wpAny_bind ?_
        show wpAny _ _ (forIn its.toArray _ _) _ _ s
        rw[<-Array.forIn_toList]
        exact uy ds r hk (wpAny_pure h)
theorem uy:∀(ds:List D){n:Nat}{vs:List Value}{Q:Option Bool×Unit->Shared->Prop},jX s.heap vs ds->ds.all (fR n)=true->Q (none,()) s->
    wpAny (model prog w) A (forIn vs ((none,()):Option Bool×Unit) fun y __s=>do
      let __do_lift <-eqIsQuiet n y
      if(!__do_lift)=true then pure (ForInStep.done (some false,())) else pure (ForInStep.yield (none,()))) Q E s
  | [],n,_,Q,x,_,h=>by cases x;exact wpAny_pure h
  | d :: ds, n, _, Q, x, hk, h => by
    cases x with
    | cons x1 x2=>
      rw[List.all_cons,Bool.and_eq_true] at hk
      rw[List.forIn_cons]
      refine wpAny_bind (wpAny_bind (BO d x1 hk.1 ?_))
      simp only[Bool.not_true,Bool.false_eq_true,if_false]
      refine wpAny_pure ?_
      exact uy ds x2 hk.2 h
end
end
noncomputable def iC (prog:Program) (w:World):HeapKind prog w D where
 is:=fun h k a=>tH h (.ref a) k/\fR 8 k=true
 hash:=BL w
 draws:=uW
 room:=fun A=>A.units+8 < cLine
 inj:=fun hx hy=>hx.1.inj hy.1
 keeps:=fun x ho hd hs=>⟨x.1.keeps ho hd hs,x.2⟩
 pyHash:=fun hu hk h=>wk _ hk.1 hk.2 hu h
 eqBool:=fun hu hx hy h=>SI _ hx.1 hy.1 hx.2 hu _ _ _ _ h
 quiet:=fun hk h=>BO _ hk.1 hk.2 h
theorem fL {prog:Program}{w:World}{A:Around}(hu:A.units+20 < cLine):(iC prog w).room A.in1:=by
 show A.in1.units+8 < cLine
 rw[Around.in1_units]
 omega
end L2
end
namespace L2
open PySem PySem.Spec PyProof.Rows
noncomputable abbrev Key:=Sum Int Str
noncomputable def rF:Key->Value->Bool
 | .inl k,.bool b=>decide (k=bI b)
 | .inl k,v=>Value.isInt k v
 | .inr x,v=>Value.isStrOf x v
noncomputable def Od (w:World):Key->Int
 | .inl k=>hashInt k
 | .inr x=>hashStr w x
theorem cN:∀{k:Key}{v:Value},rF k v=true->(∃i t,k=Sum.inl i/\v=Value.int i t)\/(∃b,k=Sum.inl (bI b)/\v=Value.bool b)\/(∃x t,k=Sum.inr x/\v=Value.str x t)
 | .inl i,v,h=>by
  cases v with
  | bool b=>exact .inr (.inl ⟨b,by rw[of_decide_eq_true (show decide (i=bI b)=true from h)],rfl⟩)
  | int j t=>obtain⟨t,e⟩:=Value.isInt_shape (k:=i) (v:=Value.int j t) h;exact .inl ⟨i,t,rfl,e⟩
  | _=>exact absurd h (by simp[rF,Value.isInt])
 | .inr x,v,h=>by
  obtain⟨t,e⟩:=Value.isStrOf_shape (x:=x) (v:=v) h
  exact .inr (.inr ⟨x,t,rfl,e⟩)
theorem AM (i:Int) (t:Tok):rF (.inl i) (.int i t)=true:=by simp[rF,Value.isInt]
theorem AN (x:Str) (t:Tok):rF (.inr x) (.str x t)=true:=by simp[rF,Value.isStrOf]
theorem uY (a b:Int):decide ((Sum.inl a:Key)=Sum.inl b)=(a == b):=by
 by_cases e:a=b
 ·subst e;simp
 ·have h:¬(Sum.inl a:Key)=Sum.inl b:=fun q=>e (Sum.inl.inj q)
  rw[decide_eq_false h]
  exact(beq_eq_false_iff_ne.mpr e).symm
theorem G4 (a b:Str):decide ((Sum.inr a:Key)=Sum.inr b)=decide (a=b):=by
 by_cases e:a=b
 ·subst e;simp
 ·have h:¬(Sum.inr a:Key)=Sum.inr b:=fun q=>e (Sum.inr.inj q)
  rw[decide_eq_false h,decide_eq_false e]
theorem BP (a:Int) (b:Str):decide ((Sum.inl a:Key)=Sum.inr b)=false:=decide_eq_false (fun q=>nomatch q)
theorem BQ (a:Str) (b:Int):decide ((Sum.inr a:Key)=Sum.inl b)=false:=decide_eq_false (fun q=>nomatch q)
noncomputable def fW (prog:Program) (w:World):PySem.KeyKind prog w Key where
  is:=rF
  hash:=Od w
  inj := fun v a b ha hb => by
    rcases cN ha with⟨i,t,rfl,rfl⟩ | ⟨c,rfl,rfl⟩ | ⟨x,t,rfl,rfl⟩
    . rcases cN hb with⟨j,u,rfl,e⟩ | ⟨c',rfl,e⟩ | ⟨y,u,rfl,e⟩
      . injection e with e1 _;rw[e1]
      . exact nomatch e
      . exact nomatch e
    . rcases cN hb with⟨j,u,rfl,e⟩ | ⟨c',rfl,e⟩ | ⟨y,u,rfl,e⟩
      . exact nomatch e
      . injection e with e1;rw[e1]
      . exact nomatch e
    . rcases cN hb with⟨j,u,rfl,e⟩ | ⟨c',rfl,e⟩ | ⟨y,u,rfl,e⟩
      . exact nomatch e
      . exact nomatch e
      . injection e with e1 _;rw[e1]
  byValue:=fun k v h=>by
    rcases cN h with⟨i,t,rfl,rfl⟩ | ⟨c,rfl,rfl⟩ | ⟨x,t,rfl,rfl⟩ <;> rfl
  pyHash:=fun hv h=>by
    rcases cN hv with⟨i,t,rfl,rfl⟩ | ⟨c,rfl,rfl⟩ | ⟨x,t,rfl,rfl⟩
    . exact wpAny_pyHash_int h
    . exact qj h
    . exact wpAny_pyHash_str h
  eqBool:=fun hu hv h=>by
    rcases cN hu with⟨i,t,rfl,rfl⟩ | ⟨c,rfl,rfl⟩ | ⟨x,t,rfl,rfl⟩
    . rcases cN hv with⟨j,u,rfl,rfl⟩ | ⟨c',rfl,rfl⟩ | ⟨y,u,rfl,rfl⟩
      . rw[uY] at h;exact wpAny_eqBool_int h
      . rw[uY] at h;exact SeqAt.EqAt.int_bool i t c' _ _ _ _ h
      . rw[BP] at h;exact SeqAt.EqAt.int_str i t y u _ _ _ _ h
    . rcases cN hv with⟨j,u,rfl,rfl⟩ | ⟨c',rfl,rfl⟩ | ⟨y,u,rfl,rfl⟩
      . rw[uY] at h;exact SeqAt.EqAt.bool_int c j u _ _ _ _ h
      . have e:(bI c == bI c')=(c == c'):=by cases c <;> cases c' <;> rfl
        rw[uY,e] at h;exact SeqAt.EqAt.bool_bool c c' _ _ _ _ h
      . rw[BP] at h;exact SeqAt.EqAt.bool_str c y u _ _ _ _ h
    . rcases cN hv with⟨j,u,rfl,rfl⟩ | ⟨c',rfl,rfl⟩ | ⟨y,u,rfl,rfl⟩
      . rw[BQ] at h;exact SeqAt.EqAt.str_int x t j u _ _ _ _ h
      . rw[BQ] at h;exact SeqAt.EqAt.str_bool x t c' _ _ _ _ h
      . rw[G4] at h;exact wpAny_eqBool_str h
  «strs»:=fun k x t v h=>by
    rcases cN h with⟨i,u,rfl,e⟩ | ⟨c,rfl,e⟩ | ⟨y,u,rfl,e⟩
    . exact nomatch e
    . exact nomatch e
    . injection e with e1 _
      subst e1
      cases v <;> rfl
theorem wz (prog:Program) (w:World) (i:Int) (t:Tok):(fW prog w).is (.inl i) (.int i t)=true:=AM i t
theorem wA (prog:Program) (w:World) (x:Str) (t:Tok):(fW prog w).is (.inr x) (.str x t)=true:=AN x t
inductive V where
 | cH | bl (b:Bool) | int (i:Int) | str (x:Str) | Oe (b:Array UInt8) | flt (b:UInt64) | ref (a:Addr) | ty (n:String)
 deriving DecidableEq
noncomputable def RelV:V->Value->Prop
 | .cH,u=>u=Value.none
 | .bl b,u=>u=Value.bool b
 | .int i,u=>∃t,u=Value.int i t
 | .str x,u=>∃t,u=Value.str x t
 | .Oe b,u=>∃t,u=Value.bytes b t
 | .flt b,u=>∃t,u=Value.float b t
 | .ref a,u=>u=Value.ref a
 | .ty n,u=>u=Value.type n
noncomputable abbrev Vals:List V->List Value->Prop:=Paired RelV
theorem Vals.length {xs:List V}{us:List Value}(r:Vals xs us):xs.length=us.length:=Paired.length r
theorem Vals.get:∀{xs:List V}{us:List Value}{i:Nat}{x:V},Vals xs us->xs[i]? =some x->∃u,us[i]? =some u/\RelV x u
 | _,_,_,_,.nil,e=>by simp at e
 | _,_,0,_,.cons r _,e=>by simp at e;subst e;exact⟨_,rfl,r⟩
 | _,_,i+1,x,.cons _ t,e=>by
  obtain⟨u,h1,h2⟩:=Vals.get (i:=i) (x:=x) t (by simpa using e)
  exact⟨u,by simpa using h1,h2⟩
theorem Vals.set {x:V}{u:Value}(r:RelV x u):∀{xs:List V}{us:List Value}(i:Nat),Vals xs us->Vals (xs.set i x) (us.set i u)
 | _,_,_,.nil=>.nil
 | _,_,0,.cons _ t=>.cons r t
 | _,_,i+1,.cons q t=>.cons q (Vals.set r i t)
theorem Vals.append:∀{xs ys:List V}{us ws:List Value},Vals xs us->Vals ys ws->Vals (xs++ys) (us++ws)
 | _,_,_,_,.nil,s=>s
 | _,_,_,_,.cons r t,s=>.cons r (Vals.append t s)
theorem Vals.take:∀{xs:List V}{us:List Value}(n:Nat),Vals xs us->Vals (xs.take n) (us.take n)
 | _,_,0,_=>.nil
 | _,_,_+1,.nil=>.nil
 | _,_,n+1,.cons r t=>.cons r (Vals.take n t)
theorem Vals.drop:∀{xs:List V}{us:List Value}(n:Nat),Vals xs us->Vals (xs.drop n) (us.drop n)
 | _,_,0,r=>r
 | _,_,_+1,.nil=>.nil
 | _,_,n+1,.cons _ t=>Vals.drop n t
noncomputable def lD:Option V->Option Value->Prop
 | some v,some u=>RelV v u
 | none,none=>True
 | _,_=>False
noncomputable def KV {κ:Type}:List (κ×V)->List (κ×Value)->Prop:=Paired fun(p:κ×V) (q:κ×Value)=>p.1=q.1/\RelV p.2 q.2
noncomputable def kV:Key->V
 | .inl i=>.int i
 | .inr x=>.str x
inductive HO where
 | lst (xs:List V)
 | tup (xs:List V)
 | dK (kvs:List (Key×V)) | dT (kvs:List (D×V))
 | set (S:Int->Bool) (n:Nat)
 | ins (C dx:Addr) (fs:List (Str×V))
 | own (x:Addr)
 | xd (fs:List (Str×V))
 | met (f x:Addr)
 | ig (lo hi:Int)
 | jw (o:Obj) (u:HO)
 | G5 (ps:Array Value)
 | ext (φ:Heap->Prop)
noncomputable abbrev Hp:=Addr->Option HO
mutual
inductive Rep (H:Hp):V->D->Prop
 | cH:Rep H .cH .cH
 | bl (b:Bool):Rep H (.bl b) (.bl b)
 | int (i:Int):Rep H (.int i) (.int i)
 | str (z:Str):Rep H (.str z) (.str z)
 | tup {a:Addr}{vs:List V}{ds:List D}(e:H a=some (.tup vs)) (r:bw H vs ds):Rep H (.ref a) (.tup ds)
 | lst {a:Addr}{vs:List V}{ds:List D}(e:H a=some (.lst vs)) (r:bw H vs ds):Rep H (.ref a) (.lst ds)
inductive bw (H:Hp):List V->List D->Prop
 | nil:bw H [] []
 | cons {v:V}{d:D}{vs:List V}{ds:List D}(r:Rep H v d) (rs:bw H vs ds):bw H (v :: vs) (d :: ds)
end
mutual
theorem Rep.tups {H H':Hp}(ht:∀b xs,H b=some (.tup xs)->H' b=some (.tup xs)):∀(d:D){n:Nat}{v:V},Rep H v d->fR n d=true->Rep H' v d
 | .cH,n,_,_,k=>by simp[fR] at k
 | .bl b,n,_,r,k=>by cases r;exact .bl b
 | .lst _,n,_,_,k=>by simp[fR] at k
 | .int i,n,_,r,k=>by cases r;exact .int i
 | .str i,n,_,r,k=>by cases r;exact .str i
 | .tup ds,n,_,r,k=>by
  cases n with
  | zero=>simp[fR] at k
  | succ n=>
   cases r with
   | @tup a vs _ e rs=>exact .tup (ht _ _ e) (bw.tups ht ds rs k)
theorem bw.tups {H H':Hp}(ht:∀b xs,H b=some (.tup xs)->H' b=some (.tup xs)):∀(ds:List D){n:Nat}{vs:List V},bw H vs ds->ds.all (fR n)=true->bw H' vs ds
 | [],n,_,r,k=>by cases r;exact .nil
 | d :: ds,n,_,r,k=>by
  rw[List.all_cons,Bool.and_eq_true] at k
  cases r with
  | cons r1 r2=>exact .cons (Rep.tups ht d r1 k.1) (bw.tups ht ds r2 k.2)
end
noncomputable def Kd (H:Hp) (b:Addr) (k:D):Prop:=∃d,Rep H (.ref b) d/\fR 8 d=true/\nf d=k
theorem Kd.tups {H H':Hp}{b:Addr}{k:D}(x:Kd H b k) (ht:∀b xs,H b=some (.tup xs)->H' b=some (.tup xs)):Kd H' b k:=by
 obtain⟨d,r,hk,e⟩:=x
 exact⟨d,Rep.tups ht d r hk,hk,e⟩
noncomputable def upd (H:Hp) (a:Addr) (o:HO):Hp:=fun b=>if b=a then some o else H b
theorem aL {H:Hp}{a:Addr}{o:HO}:upd H a o a=some o:=by unfold upd;rw[if_pos rfl]
theorem aE {H:Hp}{a b:Addr}{o:HO}(h:b≠a):upd H a o b=H b:=by unfold upd;rw[if_neg h]
theorem Gq {H:Hp}{a b:Addr}{o u:HO}(h:H a=some o) (h':H b=some u) (d:o≠u):a≠b:=by
 intro e;subst e;rw[h] at h';exact d (Option.some.inj h')
theorem bu {H:Hp}{a b:Addr}{o:HO}(h:H a=some o) (h':H b=none):a≠b:=by
 intro e;subst e;rw[h] at h';cases h'
section
variable (P:Program) (w:World)
noncomputable def ff (H:Hp) (h:Heap) (a:Addr):HO->Prop
 | .lst xs=>xs.length<=sizeLine/\∃(its:List Value) (n:Nat),Vals xs its/\h.get? a=some {cls:=.type "list",data:=.seq its.toArray n}
 | .tup xs=>xs.length<=sizeLine/\∃its:List Value,Vals xs its/\IsTup h a its.toArray
 | .dK kvs=>kvs.length<=sizeLine/\(a == sysModules)=false/\∃vs,KV kvs vs/\h.DictOf (fW P w) a vs
 | .dT kvs=>kvs.length<=sizeLine/\(a == sysModules)=false/\∃xs:List (D×Addr×Value),
   Paired (fun(p:D×V) (q:D×Addr×Value)=>p.1=q.1/\Kd H q.2.1 p.1/\RelV p.2 q.2.2) kvs xs/\
   ∃o es ep,h.get? a=some o/\o.ExactDict/\o.data= .dict es ep/\es.toList=xs.map (entryOfKey (iC P w))/\(xs.map (·.1)).Nodup
 | .set S n=>h.SetOf (intKind P w) a S n
 | .ins C dx fs=>H dx=some (.own a)/\fs.length<=1000/\dx≠a/\h.get? a=some (PySem.W.instObj C dx)/\
   ∃mA,h.Ns1 dx mA/\(∀f,lD (fs.lookup f) (mA f))/\PySem.Within mA (fs.map (·.1))
 | .own _=>∃o,h.get? a=some o
 | .xd fs=>∃mA,h.Ns1 a mA/\∀f,lD (fs.lookup f) (mA f)
 | .ig lo hi=>∃t u v,h.get? a=some {cls:=.type "range",data:=.fields #[.int lo t,.int hi u,.int 1 v]}
 | .jw o u=>h.get? a=some o/\ff H h a u
 | .G5 ps=>h.get? a=some {cls:=.none,data:=.fields ps}
 | .met f x=>h.get? a=some (PySem.W.methodObj (.ref f) (.ref x))
 | .ext φ=>φ h/\(∃o,h.get? a=some o)/\∀h1 h2:Heap,φ h1->(∀o,h1.get? a=some o->h2.get? a=some o)->φ h2
noncomputable def lJ (H:Hp) (h:Heap):Prop:=∀a o,H a=some o->ff P w H h a o
end
section
variable {P:Program}{w:World}{H H':Hp}{h h':Heap}{a:Addr}{o:HO}
theorem ff.lt (x:ff P w H h a o):a < h.objs.size:=by
 cases o with
 | lst xs=>obtain⟨_,_,_,_,e⟩:=x;exact Heap.lt_size e
 | tup xs=>obtain⟨_,_,_,p⟩:=x;exact p.lt
 | dK kvs=>obtain⟨_,_,_,_,o,_,_,e,_⟩:=x;exact Heap.lt_size e
 | dT kvs=>obtain⟨_,_,_,_,o,_,_,e,_⟩:=x;exact Heap.lt_size e
 | set S n=>obtain⟨o,_,_,_,e,_⟩:=x;exact Heap.lt_size e
 | ins C dx fs=>obtain⟨_,_,_,e,_⟩:=x;exact Heap.lt_size e
 | own y=>obtain⟨_,e⟩:=x;exact Heap.lt_size e
 | xd fs=>obtain⟨_,⟨_,_,_,e,_⟩,_⟩:=x;exact Heap.lt_size e
 | ig lo hi=>obtain⟨_,_,_,e⟩:=x;exact Heap.lt_size e
 | jw ob u=>obtain⟨e,_⟩:=x;exact Heap.lt_size e
 | G5 ps=>exact Heap.lt_size (show h.get? a=some _ from x)
 | met f y=>exact Heap.lt_size (show h.get? a=some _ from x)
 | ext φ=>obtain⟨_,⟨_,e⟩,_⟩:=x;exact Heap.lt_size e
theorem Paired.AO {α β:Type}{F G:α->β->Prop}:∀{l₁:List α}{l₂:List β},Paired F l₁ l₂->(∀a b,F a b->G a b)->Paired G l₁ l₂
 | _,_,.nil,_=>.nil
 | _,_,.cons r t,f=>.cons (f _ _ r) (Paired.AO t f)
theorem ff.stay (x:ff P w H h a o) (k:∀b u,(b=a\/H b=some (.own a))->h.get? b=some u->h'.get? b=some u)
  (ho:∀b,H b=some (.own a)->H' b=some (.own a)) (ht:∀b xs,H b=some (.tup xs)->H' b=some (.tup xs)):ff P w H' h' a o:=by
 induction o with
 | lst xs=>obtain⟨z,its,n,r,e⟩:=x;exact⟨z,its,n,r,k _ _ (.inl rfl) e⟩
 | tup xs=>obtain⟨z,its,r,ob,e,c⟩:=x;exact⟨z,its,r,ob,k _ _ (.inl rfl) e,c⟩
 | dK kvs=>obtain⟨z,y,vs,r,ob,es,ep,e,c⟩:=x;exact⟨z,y,vs,r,ob,es,ep,k _ _ (.inl rfl) e,c⟩
 | dT kvs=>
  obtain⟨z,y,xs,r,ob,es,ep,e,c⟩:=x
  exact⟨z,y,xs,Paired.AO r fun p q z=>⟨z.1,z.2.1.tups ht,z.2.2⟩,ob,es,ep,k _ _ (.inl rfl) e,c⟩
 | set S n=>obtain⟨ob,es,ep,t,e,c⟩:=x;exact⟨ob,es,ep,t,k _ _ (.inl rfl) e,c⟩
 | ins C dx fs=>
  obtain⟨d,z,ne,e,mA,⟨od,es,ep,e2,c⟩,r⟩:=x
  exact⟨ho _ d,z,ne,k _ _ (.inl rfl) e,mA,⟨od,es,ep,k _ _ (.inr d) e2,c⟩,r⟩
 | own y=>obtain⟨ob,e⟩:=x;exact⟨ob,k _ _ (.inl rfl) e⟩
 | xd fs=>obtain⟨mA,⟨od,es,ep,e,c⟩,r⟩:=x;exact⟨mA,⟨od,es,ep,k _ _ (.inl rfl) e,c⟩,r⟩
 | ig lo hi=>obtain⟨t,u,v,e⟩:=x;exact⟨t,u,v,k _ _ (.inl rfl) e⟩
 | jw ob u ih=>obtain⟨e,q⟩:=x;exact⟨k _ _ (.inl rfl) e,ih q⟩
 | G5 ps=>
  have e:h.get? a=some {cls:=.none,data:=.fields ps}:=x
  show h'.get? a=some {cls:=.none,data:=.fields ps}
  exact k a _ (.inl rfl) e
 | met f y=>
  have e:h.get? a=some (PySem.W.methodObj (.ref f) (.ref y)):=x
  show h'.get? a=some (PySem.W.methodObj (.ref f) (.ref y))
  exact k a _ (.inl rfl) e
 | ext φ=>obtain⟨p,⟨o,e⟩,st⟩:=x;exact⟨st _ _ p fun o q=>k _ _ (.inl rfl) q,⟨o,k _ _ (.inl rfl) e⟩,st⟩
theorem lJ.lt (x:lJ P w H h) (e:H a=some o):a < h.objs.size:=(x a o e).lt
theorem lJ.fresh (x:lJ P w H h) (e:h.objs.size<=a):H a=none:=by
 cases q:H a with
 | none=>rfl
 | some u=>exact absurd (Nat.lt_of_lt_of_le (x.lt q) e) (Nat.lt_irrefl _)
theorem lJ.kept (x:lJ P w H h) (k:∀b u,h.get? b=some u->h'.get? b=some u):lJ P w H h':=fun a o e=>
 (x a o e).stay (fun b u _ q=>k b u q) (fun _ q=>q) fun _ _ q=>q
theorem lJ.laid (x:lJ P w H h) (k:∀b u,h.get? b=some u->h'.get? b=some u) (hp:h.objs.size<=a) (new:ff P w (upd H a o) h' a o):lJ P w (upd H a o) h':=fun b u e=>by
 have hn:=x.fresh hp
 by_cases hb:b=a
 ·subst hb;rw[aL] at e;cases e;exact new
 ·rw[aE hb] at e
  exact(x b u e).stay (fun c v _ q=>k c v q) (fun c q=>by rw[aE (bu q hn)];exact q) fun c xs q=>by rw[aE (bu q hn)];exact q
end
noncomputable def Rd (H:Hp) (a:Addr) (u:HO):Prop:=H a=some u\/∃o,H a=some (.jw o u)
theorem Rd.of {H:Hp}{a:Addr}{u:HO}(h:H a=some u):Rd H a u:=.inl h
theorem Rd.ok {P:Program}{w:World}{H:Hp}{h:Heap}{a:Addr}{u:HO}(r:Rd H a u) (x:lJ P w H h):ff P w H h a u:=by
 rcases r with r | ⟨o,r⟩
 ·exact x a u r
 ·obtain⟨_,q⟩:=x a _ r
  exact q
noncomputable def Kw:Option HO->Prop
 | some (.lst _)=>True
 | some (.dK _)=>True
 | some (.dT _)=>True
 | some (.set _ _)=>True
 | some (.ins _ _ _)=>True
 | some (.ext _)=>True
 | _=>False
section
variable {P:Program}{w:World}{H:Hp}{h h':Heap}{x e:Addr}{o':HO}
theorem lJ.write (ok : lJ P w H h) (mu : Kw (H x)) (he : e = x \/ H e = some (.own x)) (k : ∀ b u, b ≠ e -> h.get? b = some u -> h'.get? b = some u) (J3 : ∃ u, h'.get? e = some u)
    (new:ff P w (upd H x o') h' x o'):lJ P w (upd H x o') h':=fun b u q=>by
  have Ky:∀c y,H c=some (.own y)->c≠x:=fun c y r z=>by subst z;rw[r] at mu;exact mu
  have Of:∀c xs,H c=some (.tup xs)->c≠x:=fun c xs r z=>by subst z;rw[r] at mu;exact mu
  by_cases hb:b=x
  . subst hb;rw[aL] at q;cases q;exact new
  . rw[aE hb] at q
    by_cases G6:b=e
    . have q':H b=some (.own x):=by
        rcases he with z | z
        . exact absurd (G6.trans z) hb
        . rw[G6];exact z
      rw[q] at q';cases q'
      obtain⟨v,hv⟩:=J3
      exact⟨v,by rw[G6];exact hv⟩
    . refine(ok b u q).stay (fun c v hc r=>k c v ?_ r) (fun c r=>by rw[aE (Ky c b r)];exact r) fun c xs r=>by rw[aE (Of c xs r)];exact r
      rcases hc with rfl | hc
      . exact G6
      . rintro rfl
        rcases he with z | z
        . exact Ky c b hc z
        . rw[hc] at z;cases z;exact hb rfl
end
structure Un (fs ex:List Addr) (H H':Hp) (h h':Heap):Prop where
 keep:∀b o,h.get? b=some o->H b=none->b∉fs->b∉ex->h'.get? b=some o
 slot:∀b o,h.get? b=some o->H b=none->b∈fs->b∉ex->∃sl,h'.get? b=some {o with slots:=sl}
 free:∀b o,h.get? b=some o->H b=none->b∉ex->H' b=none
 there:∀b o,h.get? b=some o->b∉ex->∃o',h'.get? b=some o'
 tups:∀b xs,H b=some (.tup xs)->H' b=some (.tup xs)
 rG:∀b o u,H b=some (.jw o u)->H' b=some (.jw o u)
 tL:∀b ps,H b=some (.G5 ps)->∃more,H' b=some (.G5 (ps++more))
section
variable {fs fs' ex ex':List Addr}{H H1 H2:Hp}{h h1 h2 h':Heap}{a x e:Addr}{o:HO}
theorem Un.any (u:Un fs ex H H1 h h1){b:Addr}{ob:Obj}(q:h.get? b=some ob) (n:H b=none) (hx:b∉ex):∃sl,h1.get? b=some {ob with slots:=sl}:=by
 by_cases hb:b∈fs
 ·exact u.slot b ob q n hb hx
 ·exact⟨ob.slots,u.keep b ob q n hb hx⟩
theorem Un.kept (k:∀b u,h.get? b=some u->h'.get? b=some u):Un fs ex H H h h':=
 ⟨fun b ob q _ _ _=>k b ob q,fun b ob q _ _ _=>⟨ob.slots,k b ob q⟩,fun _ _ _ n _=>n,fun b ob q _=>⟨ob,k b ob q⟩,fun _ _ q=>q,fun _ _ _ q=>q,fun _ ps q=>⟨#[],by rw[q];simp⟩⟩
theorem Un.refl:Un fs ex H H h h:=Un.kept fun _ _ q=>q
theorem Un.laid (k:∀b u,h.get? b=some u->h'.get? b=some u) (hp:h.objs.size<=a) (hn:H a=none):Un fs ex H (upd H a o) h h' where
 keep:=fun b u q _ _ _=>k b u q
 slot:=fun b u q _ _ _=>⟨u.slots,k b u q⟩
 free:=fun b u q n _=>by rw[aE (Nat.ne_of_lt (Nat.lt_of_lt_of_le (Heap.lt_size q) hp))];exact n
 there:=fun b u q _=>⟨u,k b u q⟩
 tups:=fun b xs q=>by rw[aE (bu q hn)];exact q
 rG:=fun b u xs q=>by rw[aE (bu q hn)];exact q
 tL:=fun b ps q=>⟨#[],by rw[aE (bu q hn),q];simp⟩
theorem Un.write (mu:Kw (H x)) (he:e=x\/H e=some (.own x)) (k:∀b u,b≠e->h.get? b=some u->h'.get? b=some u) (J3:∃u,h'.get? e=some u):Un fs ex H (upd H x o) h h':=by
 have hx:∀b,H b=none->b≠x:=fun b n z=>by subst z;rw[n] at mu;exact mu
 have hb:∀b,H b=none->b≠e:=fun b n z=>by
  subst z
  rcases he with r | r
  ·exact hx b n r
  ·rw[n] at r;cases r
 have hm:∀b u,H b=some u->¬Kw (some u)->b≠x:=fun b u q nm z=>by subst z;rw[q] at mu;exact nm mu
 refine⟨fun b u q n _ _=>k b u (hb b n) q,fun b u q n _ _=>⟨u.slots,k b u (hb b n) q⟩,fun b u q n _=>by rw[aE (hx b n)];exact n,fun b u q _=>?_,
  fun b xs q=>by rw[aE (hm b _ q fun z=>z)];exact q,fun b u xs q=>by rw[aE (hm b _ q fun z=>z)];exact q,fun b ps q=>⟨#[],by rw[aE (hm b _ q fun z=>z),q];simp⟩⟩
 by_cases G6:b=e
 ·subst G6;exact J3
 ·exact⟨u,k b u G6 q⟩
end
noncomputable def M3 (h:Heap) (H:Hp):List Addr:=(List.range h.objs.size).filter fun a=>(H a).isSome
noncomputable def uZ (h:Heap) (H:Hp):Heap:=PySem.W.hideAll h (M3 h H)
theorem AQ (h:Heap) (H:Hp):(uZ h H).objs.size=h.objs.size:=PySem.W.hideAll_size _ _
theorem BR {h:Heap}{H:Hp}{b:Addr}{o:Obj}(e:h.get? b=some o) (n:H b=none):(uZ h H).get? b=some o:=
 PySem.W.hideAll_get _ e fun hm=>by
  have q:(H b).isSome=true:=(List.mem_filter.mp hm).2
  rw[n] at q;simp at q
theorem Ei {h:Heap}{H:Hp}{b:Addr}{o:Obj}(e:(uZ h H).get? b=some o):h.get? b=some o/\H b=none:=by
 have e':h.get? b=some o:=PySem.W.of_hideAll (M3 h H) e
 refine⟨e',?_⟩
 cases q:H b with
 | none=>rfl
 | some x=>
  have hm:b∈M3 h H:=List.mem_filter.mpr ⟨List.mem_range.mpr (Heap.lt_size e'),by simp[q]⟩
  have z:(uZ h H).get? b=none:=PySem.W.hideAll_none (M3 h H) hm
  rw[z] at e;cases e
noncomputable def Ej (g h:Heap) (L:Addr):List (Addr×Obj):=(List.range h.objs.size).filterMap fun a=>if a=L\/(g.get? a).isSome=true then none else(h.get? a).map fun o=>(a,o)
noncomputable def rest (g h:Heap) (L d:Addr):List (Addr×Obj):=(Ej g h L).filter fun p=>decide (p.1≠d)
structure Mod (K:PySem.W.Frag) (mg:Str->Option Value) (base:Heap):Prop where
 Og:K.In base
 glob:base.Ns mainGlobals mg
 blt:∃mb,base.Ns builtinsNs mb/\∀x:Str,x≠"__name__"->mb x=bootBuiltins x
 nolimit:base.NoLimit
structure Cx where
 prog:Program
 w:World
 K:PySem.W.Frag
 mg:Str->Option Value
 base:Heap
 A:Around
 N:List Str
 s₀:Shared
 H₀:Hp
 env:Env
 outer:List Env
 stack:List Env
 ex:List Addr
 fn:Str->Bool
 calm:Bool
 pn:List (Addr×Obj)
 xe:Value->Shared->Prop
noncomputable def frs (l:List Env):List Addr:=l.filterMap (·.frame)
noncomputable abbrev Cx.fs (X:Cx):List Addr:=frs X.outer
noncomputable def AR (sc:Scope) (x:Str):Prop:=sc.names.lookup x=some .local\/sc.names.lookup x=some .cell\/sc.names.lookup x=some .free
noncomputable def Loc (sc:Scope) (x:Str):Prop:=sc.names.lookup x=some .local\/sc.names.lookup x=some .cell
noncomputable def Look (env:Env) (h:Heap) (m:Str->Option Value) (x:Str) (u:Value):Prop:=
 (env.kindOf x=some .local/\m x=some u)\/((env.kindOf x=some .cell\/env.kindOf x=some .free)/\∃c,env.cells.lookup x=some c/\h.IsCell c (some u))
structure Cx.Ok (X:Cx):Prop where
 mod:Mod X.K X.mg X.base
 kind:X.env.scope.kind= .function
 glob:X.env.globals=mainGlobals
 blt:X.env.builtins=builtinsNs
 above:X.s₀.heap.objs.size<=X.env.locals
 inj:∀x y c,X.env.cells.lookup x=some c->X.env.cells.lookup y=some c->x=y
 has:∀x,(X.env.kindOf x=some .cell\/X.env.kindOf x=some .free)->∃c,X.env.cells.lookup x=some c
 Kz:∀x c,X.fn x=true->X.env.cells.lookup x=some c->X.s₀.heap.objs.size<=c
 hd:X.calm=true->X.A.handled=none
 frames:X.A.frames=some X.stack
 stk:X.stack=X.outer\/(X.stack=X.env :: X.outer/\X.env.frame=some X.env.locals)
 M4:∀b∈X.ex,b≠X.env.locals/\∀x c,X.env.cells.lookup x=some c->c≠b
 bs:∀b o,X.base.get? b=some o->X.s₀.heap.get? b=some o/\X.H₀ b=none
 Ec:X.base.objs.size<=X.s₀.heap.objs.size
 AS:∀b o,X.base.get? b=some o->b∉X.ex
 AU:∀b∈X.ex,b∉X.fs
 rH:X.s₀.heap.FunFrames X.base X.outer
 J4:∀b∈X.fs,X.H₀ b=none
structure Inv (X:Cx) (pins:List (Addr×Obj)) (σ:List (Option V)) (H:Hp) (s:Shared):Prop where
 ok:X.Ok
 os:s.os=X.s₀.os
 bare:AllBare s.gens
 base:Un X.fs X.ex X.H₀ H X.s₀.heap s.heap
 loc:∃m,s.heap.Ns X.env.locals m/\∀(i:Nat) (x:Str) (v:V),X.N[i]? =some x->σ[i]? =some (some v)->AR X.env.scope x->∃u,RelV v u/\Look X.env s.heap m x u
 cell:∀x c,X.env.cells.lookup x=some c->∃v,s.heap.IsCell c v
 free:H X.env.locals=none
 lK:∀x c,X.env.cells.lookup x=some c->H c=none
 pin:∀p∈X.pn++pins,s.heap.get? p.1=some p.2/\H p.1=none/\p.1≠X.env.locals/\p.1∉X.fs/\∀v,p.2.data≠.cell v
 hok:lJ X.prog X.w H s.heap
 len:σ.length=X.N.length
section
variable {X:Cx}{pins:List (Addr×Obj)}{σ:List (Option V)}{H H':Hp}{s:Shared}{h':Heap}
theorem Cx.Ok.iE (ok:X.Ok){b:Addr}{o:Obj}(e:X.base.get? b=some o):b∉X.fs:=fun hb=>by
 have:=(ok.rH.mem hb).1
 rw[e] at this;cases this
theorem Inv.bs (I:Inv X pins σ H s):∀b o,X.base.get? b=some o->s.heap.get? b=some o/\H b=none:=fun b o e=>
 ⟨I.base.keep b o (I.ok.bs b o e).1 (I.ok.bs b o e).2 (I.ok.iE e) (I.ok.AS b o e),I.base.free b o (I.ok.bs b o e).1 (I.ok.bs b o e).2 (I.ok.AS b o e)⟩
theorem Inv.bk (I:Inv X pins σ H s):∀b o,X.base.get? b=some o->s.heap.get? b=some o:=fun b o e=>(I.bs b o e).1
theorem Inv.mod (I:Inv X pins σ H s):Mod X.K X.mg X.base:=I.ok.mod
theorem Inv.BS (I:Inv X pins σ H s):X.K.In s.heap:=I.ok.mod.Og.keeps I.bk
theorem Inv.lt (I:Inv X pins σ H s):X.env.locals < s.heap.objs.size:=let⟨_,hn,_⟩:=I.loc;hn.lt
theorem Inv.sz (I:Inv X pins σ H s):X.s₀.heap.objs.size<=s.heap.objs.size:=Nat.le_trans I.ok.above (Nat.le_of_lt I.lt)
theorem Inv.G7 (I:Inv X pins σ H s){a:Addr}(h:s.heap.objs.size<=a):a∉X.fs:=fun hb=>by
 obtain⟨_,o,ho,_⟩:=I.ok.rH.mem hb
 exact absurd (Nat.lt_of_lt_of_le (Heap.lt_size ho) (Nat.le_trans I.sz h)) (Nat.lt_irrefl _)
theorem Inv.G8 (I:Inv X pins σ H s):∀x c,X.env.cells.lookup x=some c->c≠X.env.locals:=fun x c e z=>by
 obtain⟨v,o,ho,hd⟩:=I.cell x c e
 obtain⟨m,⟨o',es,ep,ho',hd',_⟩,_⟩:=I.loc
 rw[z,ho'] at ho;cases ho;rw[hd'] at hd;cases hd
theorem Inv.rH (I:Inv X pins σ H s):s.heap.FunFrames X.base X.outer:=by
 have all:∀(l:List Env),(∀b∈frs l,b∈X.fs)->X.s₀.heap.FunFrames X.base l->s.heap.FunFrames X.base l:=by
  intro l
  induction l with
  | nil=>intro _ _;trivial
  | cons env r ih=>
   intro hs hl
   obtain⟨hk,⟨L,o,hf,hn,ho,hd⟩,hr⟩:=hl
   have hL:L∈X.fs:=hs L (by unfold frs;rw[List.filterMap_cons,hf];exact List.mem_cons_self)
   obtain⟨sl,e⟩:=I.base.slot L o ho (I.ok.J4 L hL) hL fun z=>I.ok.AU L z hL
   exact⟨hk,⟨L,_,hf,hn,e,hd⟩,ih (fun b hb=>hs b (by unfold frs;rw[List.filterMap_cons,hf];exact List.mem_cons_of_mem _ hb)) hr⟩
 exact all X.outer (fun _ hb=>hb) I.ok.rH
theorem Inv.stack (I:Inv X pins σ H s):s.heap.FunFrames X.base X.stack:=by
 rcases I.ok.stk with e | ⟨e,hf⟩
 ·rw[e];exact I.rH
 ·rw[e]
  obtain⟨m,hn,_⟩:=I.loc
  refine .cons (by rw[I.ok.kind];decide) hf hn ?_ I.rH
  exact Heap.get?_none_of_le (Nat.le_trans I.ok.Ec I.ok.above)
theorem Inv.pA (I:Inv X pins σ H s):∀b∈frs X.stack,b∈X.env.locals :: X.fs:=fun b hb=>by
 rcases I.ok.stk with e | ⟨e,hf⟩
 ·rw[e] at hb;exact List.mem_cons_of_mem _ hb
 ·rw[e] at hb
  unfold frs at hb
  rw[List.filterMap_cons,hf] at hb
  exact hb
theorem Inv.u5 (I:Inv X pins σ H s):∀b∈frs X.stack,H b=none:=fun b hb=>by
 rcases List.mem_cons.mp (I.pA b hb) with e | hb
 ·rw[e];exact I.free
 ·obtain⟨_,o,ho,_⟩:=I.ok.rH.mem hb
  exact I.base.free b o ho (I.ok.J4 b hb) fun z=>I.ok.AU b z hb
theorem Inv.step {g':Array GenState}{t':Nat}{d':Drawn}{ch:List Addr}(I:Inv X pins σ H s)
  (hch:∀b∈ch,(b∈X.ex\/X.s₀.heap.objs.size<=b)/\b≠X.env.locals/\(∀x c,X.env.cells.lookup x=some c->c≠b)/\∀p∈X.pn++pins,p.1≠b)
  (keep:∀b o,b≠X.env.locals->b∉X.fs->b∉ch->s.heap.get? b=some o->H b=none->h'.get? b=some o)
  (slot:∀b o,b≠X.env.locals->b∈X.fs->b∉ch->s.heap.get? b=some o->H b=none->∃sl,h'.get? b=some {o with slots:=sl}) (free:∀b o,b∉ch->s.heap.get? b=some o->H b=none->H' b=none)
  (there:∀b o,b∉ch->s.heap.get? b=some o->∃o',h'.get? b=some o')
  (tups:∀b xs,H b=some (.tup xs)->H' b=some (.tup xs)) (rG:∀b o u,H b=some (.jw o u)->H' b=some (.jw o u)) (tL:∀b ps,H b=some (.G5 ps)->∃more,H' b=some (.G5 (ps++more)))
  (ns:∀m,s.heap.Ns X.env.locals m->h'.Ns X.env.locals m) (hok:lJ X.prog X.w H' h') (hg:AllBare g'):
  Inv X pins σ H' {s with heap:=h',gens:=g',drawn:=d',toks:=t'}:=by
 have SJ:∀b o,X.s₀.heap.get? b=some o->b≠X.env.locals:=fun b o e=>Nat.ne_of_lt (Nat.lt_of_lt_of_le (Heap.lt_size e) I.ok.above)
 have M5:∀b o,X.s₀.heap.get? b=some o->b∉X.ex->b∉ch:=fun b o e hx hb=>by
  rcases(hch b hb).1 with z | z
  ·exact hx z
  ·exact absurd (Nat.lt_of_lt_of_le (Heap.lt_size e) z) (Nat.lt_irrefl _)
 have cellK:∀x c,X.env.cells.lookup x=some c->∀v,s.heap.IsCell c v->h'.IsCell c v:=fun x c e v ⟨o,ho,hd⟩=>by
  have KA:c∉ch:=fun z=>(hch c z).2.2.1 x c e rfl
  by_cases hc:c∈X.fs
  ·obtain⟨sl,q⟩:=slot c o (I.G8 x c e) hc KA ho (I.lK x c e)
   exact⟨_,q,hd⟩
  ·exact⟨o,keep c o (I.G8 x c e) hc KA ho (I.lK x c e),hd⟩
 refine⟨I.ok,I.os,hg,⟨fun b o e n hb hx=>?_,fun b o e n hb hx=>?_,fun b o e n hx=>?_,fun b o e hx=>?_,fun b xs e=>tups b xs (I.base.tups b xs e),fun b o xs e=>rG b o xs (I.base.rG b o xs e),fun b ps e=>?_⟩,?_,fun x c e=>?_,?_,fun x c e=>?_,fun p hp=>?_,hok,I.len⟩
 ·exact keep b o (SJ b o e) hb (M5 b o e hx) (I.base.keep b o e n hb hx) (I.base.free b o e n hx)
 ·obtain⟨sl,e1⟩:=I.base.slot b o e n hb hx
  obtain⟨Ud,e2⟩:=slot b _ (SJ b o e) hb (M5 b o e hx) e1 (I.base.free b o e n hx)
  exact⟨Ud,e2⟩
 ·obtain⟨o',e1⟩:=I.base.there b o e hx
  exact free b o' (M5 b o e hx) e1 (I.base.free b o e n hx)
 ·obtain⟨o',e1⟩:=I.base.there b o e hx
  exact there b o' (M5 b o e hx) e1
 ·obtain⟨m1,e1⟩:=I.base.tL b ps e
  obtain⟨m2,e2⟩:=tL b _ e1
  exact⟨m1++m2,by rw[e2,Array.append_assoc]⟩
 ·obtain⟨m,hn,hl⟩:=I.loc
  refine⟨m,ns m hn,fun i x v e1 e2 e3=>?_⟩
  obtain⟨u,r,l⟩:=hl i x v e1 e2 e3
  refine⟨u,r,?_⟩
  rcases l with l | ⟨k,c,e,z⟩
  ·exact .inl l
  ·exact .inr ⟨k,c,e,cellK x c e _ z⟩
 ·obtain⟨v,z⟩:=I.cell x c e
  exact⟨v,cellK x c e v z⟩
 ·obtain⟨m,⟨o,_,_,ho,_⟩,_⟩:=I.loc
  exact free _ o (fun z=>(hch _ z).2.1 rfl) ho I.free
 ·obtain⟨v,o,ho,hd⟩:=I.cell x c e
  exact free c o (fun z=>(hch c z).2.2.1 x c e rfl) ho (I.lK x c e)
 ·obtain⟨e,n,ne,nf,d⟩:=I.pin p hp
  have KA:p.1∉ch:=fun z=>(hch p.1 z).2.2.2 p hp rfl
  exact⟨keep p.1 p.2 ne nf KA e n,free p.1 p.2 KA e n,ne,nf,d⟩
theorem Inv.un {t':Nat}(I:Inv X pins σ H s) (u:Un X.fs [] H H' s.heap h') (hok:lJ X.prog X.w H' h'):Inv X pins σ H' {s with heap:=h',toks:=t'}:=by
 obtain⟨m,⟨o,es,ep,ho,r⟩,_⟩:=id I.loc
 obtain⟨sl,hL⟩:=u.any ho I.free (by simp)
 exact I.step (g':=s.gens) (d':=s.drawn) (ch:=[]) (fun _ z=>nomatch z) (fun b o _ hb _ e n=>u.keep b o e n hb (by simp)) (fun b o _ hb _ e n=>u.slot b o e n hb (by simp)) (fun b o _ e n=>u.free b o e n (by simp)) (fun b o _ e=>u.there b o e (by simp)) u.tups u.rG u.tL (fun m' hm=>by
  obtain⟨o',es',Oh,ho',r'⟩:=hm
  rw[ho] at ho';cases ho'
  exact⟨_,es',Oh,hL,r'⟩) hok I.bare
theorem Inv.call {g':Array GenState}{t':Nat}{d':Drawn}{ch:List Addr}(I:Inv X pins σ H s) (u:Un (frs X.stack) ch H H' s.heap h') (hok:lJ X.prog X.w H' h') (hg:AllBare g')
  (hch:∀b∈ch,(b∈X.ex\/X.s₀.heap.objs.size<=b)/\b≠X.env.locals/\(∀x c,X.env.cells.lookup x=some c->c≠b)/\∀p∈X.pn++pins,p.1≠b):
  Inv X pins σ H' {s with heap:=h',gens:=g',drawn:=d',toks:=t'}:=by
 obtain⟨m,⟨o,es,ep,ho,r⟩,_⟩:=id I.loc
 obtain⟨sl,hL⟩:=u.any ho I.free fun z=>(hch _ z).2.1 rfl
 exact I.step (ch:=ch) hch (fun b o hL hb hc e n=>u.keep b o e n (fun z=>(List.mem_cons.mp (I.pA b z)).elim hL hb) hc) (fun b o _ _ hc e n=>u.any e n hc) (fun b o hc e n=>u.free b o e n hc) (fun b o hc e=>u.there b o e hc) u.tups u.rG u.tL (fun m' hm=>by
  obtain⟨o',es',Oh,ho',r'⟩:=hm
  rw[ho] at ho';cases ho'
  exact⟨_,es',Oh,hL,r'⟩) hok hg
theorem Inv.turned {t':Nat}{it:Addr}(I:Inv X pins σ H s) (k:∀b o,b≠it->s.heap.get? b=some o->h'.get? b=some o) (hn:H it=none) (hL:it≠X.env.locals)
  (h1:it∈X.ex\/X.s₀.heap.objs.size<=it) (h2:∀x c,X.env.cells.lookup x=some c->c≠it) (h3:∀p∈X.pn++pins,p.1≠it):Inv X pins σ H {s with heap:=h',toks:=t'}:=by
 have KC:∀b u,H b=some u->b≠it:=fun b u e z=>by rw[z,hn] at e;cases e
 refine I.step (g':=s.gens) (d':=s.drawn) (ch:=[it]) (fun b hb=>?_) (fun b o _ _ hc e _=>k b o (fun z=>hc (by simp[z])) e) (fun b o _ _ hc e _=>⟨o.slots,k b o (fun z=>hc (by simp[z])) e⟩) (fun _ _ _ _ n=>n)
  (fun b o hc e=>⟨o,k b o (fun z=>hc (by simp[z])) e⟩) (fun _ _ e=>e) (fun _ _ _ e=>e) (fun b ps e=>⟨#[],by rw[e];simp⟩) (fun m hm=>?_) (fun b u e=>?_) I.bare
 ·have e:b=it:=by simpa using hb
  subst e
  exact⟨h1,hL,h2,h3⟩
 ·obtain⟨o,es,ep,ho,r⟩:=hm
  exact⟨o,es,ep,k _ o (Ne.symm hL) ho,r⟩
 ·refine(I.hok b u e).stay (fun c v hc q=>k c v ?_ q) (fun _ q=>q) fun _ _ q=>q
  rcases hc with z | z
  ·rw[z];exact KC b u e
  ·exact KC c _ z
theorem Inv.tok (I:Inv X pins σ H s) (t:Nat):Inv X pins σ H {s with toks:=t}:=I.un (h':=s.heap) (t':=t) Un.refl I.hok
theorem Inv.kept {t':Nat}(I:Inv X pins σ H s) (k:∀b u,s.heap.get? b=some u->h'.get? b=some u):Inv X pins σ H {s with heap:=h',toks:=t'}:=I.un (Un.kept k) (I.hok.kept k)
theorem Inv.laid {a:Addr}{o:HO}{t':Nat}(I:Inv X pins σ H s) (k:∀b u,s.heap.get? b=some u->h'.get? b=some u) (hp:s.heap.objs.size<=a) (new:ff X.prog X.w (upd H a o) h' a o):
  Inv X pins σ (upd H a o) {s with heap:=h',toks:=t'}:=I.un (Un.laid k hp (I.hok.fresh hp)) (I.hok.laid k hp new)
theorem Inv.write {x e:Addr}{o:HO}{t':Nat}(I:Inv X pins σ H s) (mu:Kw (H x)) (he:e=x\/H e=some (.own x)) (k:∀b u,b≠e->s.heap.get? b=some u->h'.get? b=some u) (J3:∃u,h'.get? e=some u)
  (new:ff X.prog X.w (upd H x o) h' x o):Inv X pins σ (upd H x o) {s with heap:=h',toks:=t'}:=I.un (Un.write mu he k J3) (I.hok.write mu he k J3 new)
theorem Inv.zK {Gr:List (Addr×Obj)}(I:Inv X pins σ H s) (h:∀p∈Gr,s.heap.get? p.1=some p.2/\H p.1=none/\p.1≠X.env.locals/\p.1∉X.fs/\∀v,p.2.data≠.cell v):Inv X Gr σ H s:=
 ⟨I.ok,I.os,I.bare,I.base,I.loc,I.cell,I.free,I.lK,fun p hp=>(List.mem_append.mp hp).elim (fun z=>I.pin p (List.mem_append_left _ z)) (h p),I.hok,I.len⟩
theorem wB {N:List Str}(hN:N.Nodup){i j:Nat}{x:Str}(a:N[i]? =some x) (b:N[j]? =some x):i=j:=by
 obtain⟨h1,e1⟩:=List.getElem?_eq_some_iff.mp a
 obtain⟨h2,e2⟩:=List.getElem?_eq_some_iff.mp b
 exact(List.getElem_inj hN).mp (e1.trans e2.symm)
theorem uz {M : Model} {A : Around} {E : Value -> Shared -> Prop} {i : Nat} {x : Str} {v : V} {u : Value} {Q : Unit -> Shared -> Prop} (I : Inv X pins σ H s) (hN : X.N.Nodup) (hi : X.N[i]? = some x) (hx : Loc X.env.scope x) (r : RelV v u)
    (h:∀s',Inv X pins (σ.set i (some v)) H s'->(∃a,Heap.SameBut a s.heap s'.heap/\(a=X.env.locals\/X.env.cells.lookup x=some a))->Q () s') (hf:X.fn x=true\/X.env.scope.names.lookup x=some .local:=by first | exact .inl rfl | exact .inr rfl | assumption):wpAny M A (storeName X.env x u) Q E s:=by
  obtain⟨m,hn,hl⟩:=id I.loc
  have hcls:(X.env.scope.kind == .class || (X.env.scope.kind == .module && X.env.locals != X.env.globals))=false:=by rw[I.ok.kind];rfl
  have KD:i < σ.length:=by rw[I.len];exact(List.getElem?_eq_some_iff.mp hi).1
  have G8:=I.G8
  have tracked:∀{a:Addr}{h':Heap},(∃o,s.heap.get? a=some o/\H a=none)->Heap.SameBut a s.heap h'->lJ X.prog X.w H h':=fun {a h'} ha hs b ob e=>by
    obtain⟨_,_,hfree⟩:=ha
    refine(I.hok b ob e).stay (fun c w' hc q=>(hs.2 c ?_).trans q) (fun _ q=>q) fun _ _ q=>q
    rintro rfl
    rcases hc with rfl | hc
    . rw[hfree] at e;cases e
    . rw[hfree] at hc;cases hc
  rcases hx with hk | hk
  . refine wpAny_storeName_local hk hn (fun h' hn' hs=>?_) hcls
    obtain⟨oL,_,_,Ue,_⟩:=id hn
    refine h _ ⟨I.ok,I.os,I.bare,⟨fun b o e n hb hx=>?_,fun b o e n hb hx=>?_,I.base.free,fun b o e hx=>?_,I.base.tups,I.base.rG,I.base.tL⟩,⟨_,hn',fun j y v' e1 e2 e3=>?_⟩,fun y c e=>?_,I.free,I.lK,fun p hp=>?_,tracked ⟨oL,Ue,I.free⟩ hs,by simpa using I.len⟩ ⟨_,hs,.inl rfl⟩
    . exact(hs.2 b (Nat.ne_of_lt (Nat.lt_of_lt_of_le (Heap.lt_size e) I.ok.above))).trans (I.base.keep b o e n hb hx)
    . obtain⟨sl,e1⟩:=I.base.slot b o e n hb hx
      exact⟨sl,(hs.2 b (Nat.ne_of_lt (Nat.lt_of_lt_of_le (Heap.lt_size e) I.ok.above))).trans e1⟩
    . obtain⟨o',e1⟩:=I.base.there b o e hx
      exact⟨o',(hs.2 b (Nat.ne_of_lt (Nat.lt_of_lt_of_le (Heap.lt_size e) I.ok.above))).trans e1⟩
    . by_cases hj:j=i
      . subst hj
        rw[hi] at e1;cases e1
        rw[List.getElem?_set_self KD] at e2
        cases e2
        exact⟨u,r,.inl ⟨hk,by simp⟩⟩
      . rw[List.getElem?_set_ne (Ne.symm hj)] at e2
        obtain⟨u',r',q⟩:=hl j y v' e1 e2 e3
        refine⟨u',r',?_⟩
        rcases q with⟨k,e⟩ | ⟨k,c,e,z⟩
        . refine .inl ⟨k,?_⟩
          have:y≠x:=fun e=>hj (wB hN e1 (e▸hi))
          simp[this,e]
        . exact .inr ⟨k,c,e,z.sameBut hs (G8 y c e)⟩
    . obtain⟨w',z⟩:=I.cell y c e
      exact⟨w',z.sameBut hs (G8 y c e)⟩
    . obtain⟨e,n,ne,nf,d⟩:=I.pin p hp
      exact⟨(hs.2 p.1 ne).trans e,n,ne,nf,d⟩
  . have hfn:X.fn x=true:=by
      rcases hf with z | z
      . exact z
      . rw[z] at hk;cases hk
    obtain⟨c,hc⟩:=I.ok.has x (.inl hk)
    obtain⟨w',z⟩:=I.cell x c hc
    refine wpAny_storeName_cell I.ok.kind hk hc z (fun h' hc' hs=>?_)
    obtain⟨oc,hoc,Oi⟩:=id z
    refine h {s with heap:=h'} ⟨I.ok,I.os,I.bare,⟨fun b o e n hb hx=>?_,fun b o e n hb hx=>?_,I.base.free,fun b o e hx=>?_,I.base.tups,I.base.rG,I.base.tL⟩,⟨m,hn.sameBut hs (Ne.symm (G8 x c hc)),fun j y v' e1 e2 e3=>?_⟩,fun y c' e=>?_,I.free,I.lK,fun p hp=>?_,tracked ⟨oc,hoc,I.lK x c hc⟩ hs,by simpa using I.len⟩ ⟨c,hs,.inr hc⟩
    . exact(hs.2 b (Nat.ne_of_lt (Nat.lt_of_lt_of_le (Heap.lt_size e) (I.ok.Kz x c hfn hc)))).trans (I.base.keep b o e n hb hx)
    . obtain⟨sl,e1⟩:=I.base.slot b o e n hb hx
      exact⟨sl,(hs.2 b (Nat.ne_of_lt (Nat.lt_of_lt_of_le (Heap.lt_size e) (I.ok.Kz x c hfn hc)))).trans e1⟩
    . obtain⟨o',e1⟩:=I.base.there b o e hx
      exact⟨o',(hs.2 b (Nat.ne_of_lt (Nat.lt_of_lt_of_le (Heap.lt_size e) (I.ok.Kz x c hfn hc)))).trans e1⟩
    . by_cases hj:j=i
      . subst hj
        rw[hi] at e1;cases e1
        rw[List.getElem?_set_self KD] at e2
        cases e2
        exact⟨u,r,.inr ⟨.inl hk,c,hc,hc'⟩⟩
      . rw[List.getElem?_set_ne (Ne.symm hj)] at e2
        obtain⟨u',r',q⟩:=hl j y v' e1 e2 e3
        refine⟨u',r',?_⟩
        rcases q with q | ⟨k,c',e,z'⟩
        . exact .inl q
        . refine .inr ⟨k,c',e,z'.sameBut hs ?_⟩
          rintro rfl
          exact hj (wB hN e1 (I.ok.inj _ _ _ e hc▸hi))
    . by_cases hcc:c'=c
      . subst hcc;exact⟨_,hc'⟩
      . obtain⟨w2,z2⟩:=I.cell y c' e
        exact⟨w2,z2.sameBut hs hcc⟩
    . obtain⟨e,n,ne,nf,d⟩:=I.pin p hp
      refine⟨(hs.2 p.1 ?_).trans e,n,ne,nf,d⟩
      intro q
      rw[q,hoc] at e
      have q':oc=p.2:=Option.some.inj e
      exact d w' (by rw[<-q'];exact Oi)
theorem rJ {M:Model}{A:Around}{E:Value->Shared->Prop}{i:Nat}{x:Str}{v:V}{u:Value}{Q:Unit->Shared->Prop}(I:Inv X pins σ H s) (hN:X.N.Nodup) (hi:X.N[i]? =some x) (hx:Loc X.env.scope x) (r:RelV v u)
  (h:∀s',Inv X pins (σ.set i (some v)) H s'->Q () s') (hf:X.fn x=true\/X.env.scope.names.lookup x=some .local:=by first | exact .inl rfl | exact .inr rfl | assumption):wpAny M A (storeName X.env x u) Q E s:=
 uz I hN hi hx r (fun s' I' _=>h s' I') hf
theorem Inv.Gs {s':Shared}{ch:List Addr}(I:Inv X pins σ H s) (ho:s'.os=s.os) (u:Un (frs X.stack) ch H H' s.heap s'.heap) (hok:lJ X.prog X.w H' s'.heap) (hg:AllBare s'.gens)
  (hch:∀b∈ch,(b∈X.ex\/X.s₀.heap.objs.size<=b)/\b≠X.env.locals/\(∀x c,X.env.cells.lookup x=some c->c≠b)/\∀p∈X.pn++pins,p.1≠b):Inv X pins σ H' s':=by
 obtain⟨h',g',d',t',o'⟩:=s'
 have e:o'=s.os:=ho
 subst e
 exact I.call (g':=g') (t':=t') (d':=d') u hok hg hch
end
noncomputable abbrev XK:=Value->Option Addr->Hp->Prop
noncomputable abbrev St:=List (Option V)
noncomputable abbrev VK:=V->Hp->Prop
noncomputable abbrev TE:=St->Hp->VK->Prop
noncomputable abbrev TT:=St->Hp->(Bool->Hp->Prop)->Prop
noncomputable abbrev TA:=St->Hp->(List V->Hp->Prop)->Prop
structure Ends where
 nx:St->Hp->Prop
 rt:VK
 bk:St->Hp->Prop:=fun _ _=>False
 ct:St->Hp->Prop:=fun _ _=>False
noncomputable abbrev TS:=Ends->St->Hp->Prop
noncomputable def EP (X:Cx) (pins:List (Addr×Obj)) (σ:St) (Q:VK) (u:Value) (s':Shared):Prop:=∃v H',Inv X pins σ H' s'/\RelV v u/\Q v H'
noncomputable def TP (X:Cx) (pins:List (Addr×Obj)) (σ:St) (Q:Bool->Hp->Prop) (b:Bool) (s':Shared):Prop:=∃H',Inv X pins σ H' s'/\Q b H'
noncomputable def AP (X:Cx) (pins:List (Addr×Obj)) (σ:St) (Q:List V->Hp->Prop) (us:List Value) (s':Shared):Prop:=∃vs H',Inv X pins σ H' s'/\Vals vs us/\Q vs H'
noncomputable def SP (X:Cx) (pins:List (Addr×Obj)) (D:Ends) (f:Flow) (s':Shared):Prop:=
 match f with
 | .next=>∃σ' H',Inv X pins σ' H' s'/\D.nx σ' H'
 | .brk=>∃σ' H',Inv X pins σ' H' s'/\D.bk σ' H'
 | .cont=>∃σ' H',Inv X pins σ' H' s'/\D.ct σ' H'
 | .ret u=>∃v σ' H',Inv X pins σ' H' s'/\RelV v u/\D.rt v H'
noncomputable def PE (X:Cx) (e:Expr) (t:TE):Prop:=
 ∀(pins:List (Addr×Obj)) (s:Shared) (σ:St) (H:Hp) (Q:VK),Inv X pins σ H s->t σ H Q->wpAny (model X.prog X.w) X.A (eval e X.env) (EP X pins σ Q) X.xe s
noncomputable def PT (X:Cx) (e:Expr) (t:TT):Prop:=
 ∀(pins:List (Addr×Obj)) (s:Shared) (σ:St) (H:Hp) (Q:Bool->Hp->Prop),Inv X pins σ H s->t σ H Q->wpAny (model X.prog X.w) X.A (isTrue e X.env (eval e X.env)) (TP X pins σ Q) X.xe s
noncomputable def PW (X:Cx) (e:Expr) (t:TT):Prop:=
 ∀(whole:Sem Value) (pins:List (Addr×Obj)) (s:Shared) (σ:St) (H:Hp) (Q:Bool->Hp->Prop),Inv X pins σ H s->t σ H Q->wpAny (model X.prog X.w) X.A (isTrue e X.env whole) (TP X pins σ Q) X.xe s
theorem PW.pt {X:Cx}{e:Expr}{t:TT}(h:PW X e t):PT X e t:=h _
noncomputable def PA (X:Cx) (es:List Expr) (t:TA):Prop:=
 ∀(pos:Pos) (pins:List (Addr×Obj)) (s:Shared) (σ:St) (H:Hp) (Q:List V->Hp->Prop),Inv X pins σ H s->t σ H Q->wpAny (model X.prog X.w) X.A (spliced (backTo pos (starEach es X.env))) (AP X pins σ Q) X.xe s
noncomputable def PS (X:Cx) (st:Stmt) (t:TS):Prop:=
 ∀(pins:List (Addr×Obj)) (s:Shared) (σ:St) (H:Hp) (D:Ends),Inv X pins σ H s->t D σ H->wpAny (model X.prog X.w) X.A (exec st X.env) (SP X pins D) X.xe s
noncomputable def wC (X:Cx) (st:List Stmt) (t:TS):Prop:=
 ∀(pins:List (Addr×Obj)) (s:Shared) (σ:St) (H:Hp) (D:Ends),Inv X pins σ H s->t D σ H->wpAny (model X.prog X.w) X.A (execs st X.env) (SP X pins D) X.xe s
theorem fM {α:Type}{t:Sem α}{Q Q':α->Shared->Prop}{M:Model}{A:Around}{E:Value->Shared->Prop}{s:Shared}(h:wpAny M A t Q E s) (hQ:∀a s,Q a s->Q' a s):wpAny M A t Q' E s:=wpAny_mono h hQ fun _ _ x=>x
section
variable {X:Cx}
theorem bin {a b:Expr}{ta tb:TE}(ha:PE X a ta) (hb:PE X b tb){pins:List (Addr×Obj)}{s:Shared}{σ:St}{H:Hp}{R:V->V->Hp->Prop}(I:Inv X pins σ H s) (h:ta σ H fun x H1=>tb σ H1 fun y H2=>R x y H2)
  {α:Type}{Q:α->Shared->Prop}{f:Value->Value->Sem α}
  (hf:∀v u s2 x y H2,Inv X pins σ H2 s2->RelV x v->RelV y u->R x y H2->wpAny (model X.prog X.w) X.A (f v u) Q X.xe s2):
  wpAny (model X.prog X.w) X.A (eval a X.env) (fun v s₁=>wpAny (model X.prog X.w) X.A (eval b X.env) (fun u s₂=>wpAny (model X.prog X.w) X.A (f v u) Q X.xe s₂) X.xe s₁) X.xe s:=by
 refine fM (ha pins s σ H _ I h) fun v s1 ⟨x,H1,I1,r1,q1⟩=>?_
 refine fM (hb pins s1 σ H1 _ I1 q1) fun u s2 ⟨y,H2,I2,r2,q2⟩=>?_
 exact hf v u s2 x y H2 I2 r1 r2 q2
noncomputable def Ek (i:Nat):TE:=fun σ H Q=>∃v,σ[i]? =some (some v)/\Q v H
noncomputable def tC (v:V):TE:=fun _ H Q=>Q v H
theorem iF {i:Nat}{x:Str}{pos:Pos}(hN:X.N[i]? =some x) (hv:AR X.env.scope x) (hd:(x == ("__debug__":Str))=false:=by decide) (hcd:(x == ("__classdict__":Str))=false:=by decide):PE X (.Name x pos) (Ek i):=by
 intro pins s σ H Q I h
 obtain⟨v,e,h⟩:=h
 obtain⟨m,hn,hl⟩:=I.loc
 obtain⟨u,r,l⟩:=hl i x v hN e hv
 have fin:EP X pins σ Q u s:=⟨v,H,I,r,h⟩
 rcases l with⟨hk,hm⟩ | ⟨hk,c,hc,hcell⟩
 ·exact wpAny_Name (wpAny_loadName_local I.ok.kind hk hn hm fin) hd
 ·rcases hk with hk | hk
  ·exact wpAny_Name (wpAny_loadName_cell I.ok.kind hk hc hcell fin) hd
  ·exact wpAny_Name (wpAny_loadName_free I.ok.kind hk hc hcell fin hcd) hd
theorem G9 {i j pos}:PE X (.Constant (.int i) j pos) (tC (.int i)):=fun _ _ _ H _ I h=>wpAny_Constant_int ⟨.int i,H,I.tok _,⟨_,rfl⟩,h⟩
theorem KG {b j pos}:PE X (.Constant (.bool b) j pos) (tC (.bl b)):=fun _ _ _ H _ I h=>Constant_bool ⟨.bl b,H,I,rfl,h⟩
theorem Hf {j pos}:PE X (.Constant .none j pos) (tC .cH):=fun _ _ _ H _ I h=>Constant_none ⟨.cH,H,I,rfl,h⟩
theorem Hg {x j pos}:PE X (.Constant (.str x) j pos) (tC (.str x)):=fun _ _ _ H _ I h=>Calls.Constant_str ⟨.str x,H,I.tok _,⟨_,rfl⟩,h⟩
noncomputable def Gl (X:Cx) (x:Str):Prop:=X.env.kindOf x=some .globalImplicit
theorem El {E:Value->Shared->Prop}{pins:List (Addr×Obj)}{s:Shared}{σ:St}{H:Hp}{x:Str}{u:Value}{pos:Pos}{Q:Value->Shared->Prop}(I:Inv X pins σ H s) (hg:Gl X x) (hm:X.mg x=some u) (h:Q u s)
  (hd:(x == ("__debug__":Str))=false:=by decide):wpAny (model X.prog X.w) X.A (eval (.Name x pos) X.env) Q E s:=
 Calls.Name_function_global I.ok.kind hg (Calls.loadGlobal_global (by rw[I.ok.glob];exact I.mod.glob.keeps I.bk) hm h) hd
theorem rK {E:Value->Shared->Prop}{pins:List (Addr×Obj)}{s:Shared}{σ:St}{H:Hp}{x:Str}{u:Value}{pos:Pos}{Q:Value->Shared->Prop}(I:Inv X pins σ H s) (hg:Gl X x) (hm:X.mg x=none) (hv:bootBuiltins x=some u) (h:Q u s)
  (hn:x≠"__name__":=by decide) (hd:(x == ("__debug__":Str))=false:=by decide):wpAny (model X.prog X.w) X.A (eval (.Name x pos) X.env) Q E s:=by
 obtain⟨mb,h1,h2⟩:=I.mod.blt
 exact Calls.Name_function_global I.ok.kind hg (Calls.loadGlobal_builtin (by rw[I.ok.glob];exact I.mod.glob.keeps I.bk) hm (by rw[I.ok.blt];exact h1.keeps I.bk) ((h2 x hn).trans hv) h) hd
variable {a b:Expr}{ta tb:TE}{pos:Pos}
noncomputable def PC (X:Cx) (op:CmpOp) (a b:Expr) (t:TE):Prop:=
 ∀(pins:List (Addr×Obj)) (s:Shared) (σ:St) (H:Hp) (Q:VK),Inv X pins σ H s->t σ H Q->
  wpAny (model X.prog X.w) X.A (eval a X.env) (fun v s₁=>wpAny (model X.prog X.w) X.A (eval b X.env) (fun u s₂=>wpAny (model X.prog X.w) X.A (compareOp op v u) (EP X pins σ Q) X.xe s₂) X.xe s₁) X.xe s
theorem BU (b:Expr){op:CmpOp}(h:op≠.In) (h2:op≠.NotIn):behindInMarks op b=false:=by
 have e1:(op == CmpOp.In)=false:=by cases op <;> first | rfl | exact absurd rfl h
 have e2:(op == CmpOp.NotIn)=false:=by cases op <;> first | rfl | exact absurd rfl h2
 cases b <;> simp[behindInMarks,e1,e2]
noncomputable def tB (t:TE):TT:=fun σ H Q=>t σ H fun x H1=>∃c,x= .bl c/\Q c H1
theorem Hh {op:CmpOp}{t:TE}(h:PC X op a b t) (h1:behindInMarks op b=false:=by first | exact BU _ (by decide) (by decide) | rfl):PT X (.Compare a [op] [b] pos) (tB t):=by
 intro pins s σ H Q I hw
 refine wpAny_isTrue_Compare1 (fM (h pins s σ H _ I hw) fun v s1 h1=>fM h1 fun u s2 h2=>fM h2 fun c s3 ⟨x,H1,I1,r1,q1⟩=>?_) h1
 obtain⟨d,rfl,q⟩:=q1
 cases r1
 exact wpAny_truthy_bool ⟨H1,I1,q⟩
variable {tA SK:TT}{rest:List Expr}
noncomputable def Oj (t u:TT):TT:=fun σ H Q=>t σ H fun c H1=>if c=true then u σ H1 Q else Q false H1
theorem pw_and1 (ha:PT X a tA):PW X (.BoolOp .And [a] pos) tA:=by
 intro wh pins s σ H Q I h
 refine isTrue_and (fM (ha pins s σ H Q I h) fun c s1 e=>?_)
 cases c with
 | true=>exact isTrue_and_nil e
 | false=>exact e
theorem pw_and (ha:PT X a tA) (hb:PW X (.BoolOp .And (b :: rest) pos) SK):PW X (.BoolOp .And (a :: b :: rest) pos) (Oj tA SK):=by
 intro wh pins s σ H Q I h
 refine isTrue_and (fM (ha pins s σ H _ I h) fun c s1 ⟨H1,I1,q1⟩=>?_)
 cases c with
 | true=>exact hb wh pins s1 σ H1 Q I1 q1
 | false=>exact⟨H1,I1,q1⟩
end
noncomputable def nB (K:PySem.W.Frag) (H:Hp) (a:Addr) (xs:List V):Prop:=
 Rd H a (.lst xs)\/
  ∃(o:Obj) (its:Array Value) (n:Nat),K.lookup a=some o/\o.cls= .type "list"/\o.dict=none/\o.data= .seq its n/\its.size<=sizeLine/\Vals xs its.toList
noncomputable def u6 (K:PySem.W.Frag) (H:Hp) (a:Addr) (xs:List V):Prop:=
 Rd H a (.tup xs)\/
  ∃(o:Obj) (its:Array Value) (n:Nat),K.lookup a=some o/\o.cls= .type "tuple"/\o.data= .seq its n/\its.size<=sizeLine/\Vals xs its.toList
noncomputable def Ol:Value->Option V
 | .none=>some .cH
 | .bool b=>some (.bl b)
 | .int i _=>some (.int i)
 | .str x _=>some (.str x)
 | .bytes b _=>some (.Oe b)
 | .float b _=>some (.flt b)
 | .ref a=>some (.ref a)
 | .type n=>some (.ty n)
 | _=>none
theorem RelV.abs {x:V}{u:Value}(r:RelV x u):Ol u=some x:=by
 cases x with
 | cH=>cases r;rfl
 | bl _=>cases r;rfl
 | int _=>obtain⟨t,rfl⟩:=r;rfl
 | str _=>obtain⟨t,rfl⟩:=r;rfl
 | Oe _=>obtain⟨t,rfl⟩:=r;rfl
 | flt _=>obtain⟨t,rfl⟩:=r;rfl
 | ref _=>cases r;rfl
 | ty _=>cases r;rfl
theorem RelV.inj {x y:V}{u:Value}(r:RelV x u) (q:RelV y u):x=y:=Option.some.inj (r.abs.symm.trans q.abs)
theorem Vals.inj:∀{xs ys:List V}{us:List Value},Vals xs us->Vals ys us->xs=ys
 | _,_,_,.nil,.nil=>rfl
 | _,_,_,.cons r t,.cons r' t'=>by rw[r.inj r',Vals.inj t t']
section
variable {X:Cx}{pins:List (Addr×Obj)}{σ:St}{H:Hp}{s:Shared}{a:Addr}{xs ys:List V}
theorem nB.of {K:PySem.W.Frag}(h:H a=some (.lst xs)):nB K H a xs:=.inl (.inl h)
theorem Inv.list (I:Inv X pins σ H s) (h:nB X.K H a xs):∃its:List Value,Vals xs its/\PlainL s.heap a its.toArray/\xs.length<=sizeLine:=by
 rcases h with h | ⟨o,its,n,hk,hc,hd,hs,hz,r⟩
 ·obtain⟨z,its,n,r,e⟩:=h.ok I.hok
  exact⟨its,r,⟨_,n,e,rfl,rfl,rfl⟩,z⟩
 ·refine⟨its.toList,r,⟨o,n,I.BS a o hk,hc,hd,by simpa using hs⟩,?_⟩
  have e:=r.length
  simp only[Array.length_toList] at e
  omega
theorem Inv.tuple (I:Inv X pins σ H s) (h:u6 X.K H a xs):∃its:List Value,Vals xs its/\IsTup s.heap a its.toArray/\xs.length<=sizeLine:=by
 rcases h with h | ⟨o,its,n,hk,hc,hs,hz,r⟩
 ·obtain⟨z,its,r,p⟩:=h.ok I.hok
  exact⟨its,r,p,z⟩
 ·refine⟨its.toList,r,⟨o,I.BS a o hk,hc,n,by simpa using hs⟩,?_⟩
  have e:=r.length
  simp only[Array.length_toList] at e
  omega
theorem Inv.wF (I:Inv X pins σ H s) (h:nB X.K H a xs) (h':nB X.K H a ys):xs=ys:=by
 obtain⟨its,r,⟨o,n,e,_,_,d⟩,_⟩:=I.list h
 obtain⟨its',r',⟨o',n',e',_,_,d'⟩,_⟩:=I.list h'
 rw[e] at e';cases e'
 rw[d] at d'
 injection d' with d1 _
 have:its=its':=by simpa using congrArg Array.toList d1
 subst this
 exact r.inj r'
theorem Inv.uA (I:Inv X pins σ H s) (h:u6 X.K H a xs) (h':u6 X.K H a ys):xs=ys:=by
 obtain⟨its,r,⟨o,e,_,n,d⟩,_⟩:=I.tuple h
 obtain⟨its',r',⟨o',e',_,n',d'⟩,_⟩:=I.tuple h'
 rw[e] at e';cases e'
 rw[d] at d'
 injection d' with d1 _
 have:its=its':=by simpa using congrArg Array.toList d1
 subst this
 exact r.inj r'
end
noncomputable abbrev Cx.tM (X:Cx) (E:Value->Shared->Prop):Cx:={X with xe:=E}
noncomputable abbrev Cx.KH (X:Cx):Cx:=X.tM fun _ _=>False
theorem Cx.Ok.tM {X:Cx}(ok:X.Ok) (E:Value->Shared->Prop):(X.tM E).Ok:=
 ⟨ok.mod,ok.kind,ok.glob,ok.blt,ok.above,ok.inj,ok.has,ok.Kz,ok.hd,ok.frames,ok.stk,ok.M4,ok.bs,ok.Ec,ok.AS,ok.AU,ok.rH,ok.J4⟩
theorem Cx.Ok.lM {X:Cx}{E:Value->Shared->Prop}(ok:(X.tM E).Ok):X.Ok:=
 ⟨ok.mod,ok.kind,ok.glob,ok.blt,ok.above,ok.inj,ok.has,ok.Kz,ok.hd,ok.frames,ok.stk,ok.M4,ok.bs,ok.Ec,ok.AS,ok.AU,ok.rH,ok.J4⟩
section
variable {X:Cx}{pins:List (Addr×Obj)}{σ:St}{H:Hp}{s:Shared}{E:Value->Shared->Prop}
theorem Inv.tM (I:Inv X pins σ H s) (E:Value->Shared->Prop):Inv (X.tM E) pins σ H s:=⟨I.ok.tM E,I.os,I.bare,I.base,I.loc,I.cell,I.free,I.lK,I.pin,I.hok,I.len⟩
theorem Inv.lM (I:Inv (X.tM E) pins σ H s):Inv X pins σ H s:=⟨I.ok.lM,I.os,I.bare,I.base,I.loc,I.cell,I.free,I.lK,I.pin,I.hok,I.len⟩
theorem SP.lM {D:Ends}{f:Flow}{s':Shared}(h:SP (X.tM E) pins D f s'):SP X pins D f s':=by
 cases f with
 | next=>obtain⟨σ',H',I,q⟩:=h;exact⟨σ',H',I.lM,q⟩
 | brk=>obtain⟨σ',H',I,q⟩:=h;exact⟨σ',H',I.lM,q⟩
 | cont=>obtain⟨σ',H',I,q⟩:=h;exact⟨σ',H',I.lM,q⟩
 | ret u=>obtain⟨v,σ',H',I,r,q⟩:=h;exact⟨v,σ',H',I.lM,r,q⟩
theorem wC.KH {st:List Stmt}{t:TS}(h:wC X.KH st t):wC X st t:=fun pins s σ H D I hw=>
 wpAny_mono (h pins s σ H D (I.tM _) hw) (fun _ _ q=>q.lM) fun _ _ z=>False.elim z
end
section
variable {X:Cx}{st:Stmt}{rest:List Stmt}{t u:TS}{e:Expr}{te:TE}{pos:Pos}
noncomputable def KI:TS:=fun D σ H=>D.nx σ H
noncomputable def Om (t u:TS):TS:=fun D σ H=>t {D with nx:=u D} σ H
theorem Em:wC X [] KI:=fun _ _ σ H _ I h=>wpAny_execs_nil ⟨σ,H,I,h⟩
theorem rL (h1:PS X st t) (h2:wC X rest u):wC X (st :: rest) (Om t u):=by
 intro pins s σ H D I h
 refine wpAny_execs_cons (fM (h1 pins s σ H {D with nx:=u D} I h) fun f s1 q=>?_)
 cases f with
 | next=>
  obtain⟨σ',H',I',q⟩:=q
  exact h2 pins s1 σ' H' D I' q
 | ret v=>exact q
 | brk=>exact q
 | cont=>exact q
theorem zL (h1:PS X st t):wC X [st] t:=by
 intro pins s σ H D I h
 refine wpAny_execs_cons (fM (h1 pins s σ H D I h) fun f s1 q=>?_)
 cases f with
 | next=>exact wpAny_execs_nil q
 | ret v=>exact q
 | brk=>exact q
 | cont=>exact q
theorem Inv.quiet {pins:List (Addr×Obj)}{σ:St}{H:Hp}{s:Shared}(I:Inv X pins σ H s):interactive X.env=false:=by simp[interactive,I.ok.kind]
noncomputable def KJ (te:TE):TS:=fun D σ H=>te σ H fun _ H1=>D.nx σ H1
theorem zM (he:PE X e te) (hs:swapsWith e none pos.line X.env=pure false:=by rfl):PS X (.Expr e pos) (KJ te):=by
 intro pins s σ H D I h
 exact wpAny_Expr_any (fM (he pins s σ H _ I h) fun v s1 ⟨x,H1,I1,r1,q1⟩=>⟨σ,H1,I1,q1⟩) I.quiet hs
noncomputable def Oo (te:TE):TS:=fun D σ H=>te σ H D.rt
theorem Hi (he:PE X e te):PS X (.Return (some e) pos) (Oo te):=by
 intro pins s σ H D I h
 exact wpAny_Return_some (fM (he pins s σ H _ I h) fun v s1 ⟨x,H1,I1,r1,q1⟩=>⟨x,σ,H1,I1,r1,q1⟩)
noncomputable def Oq (c:TT) (t u:TS):TS:=fun D σ H=>c σ H fun b H1=>if b=true then t D σ H1 else u D σ H1
theorem KL {c:Expr}{a b:List Stmt}{tc:TT}(hc:PT X c tc) (ha:wC X a t) (hb:wC X b u):PS X (.If c a b pos) (Oq tc t u):=by
 intro pins s σ H D I h
 refine wpAny_If (fM (hc pins s σ H _ I h) fun d s1 ⟨H1,I1,q1⟩=>?_)
 cases d with
 | true=>exact ha pins s1 σ H1 D I1 q1
 | false=>exact hb pins s1 σ H1 D I1 q1
end
noncomputable abbrev TG:=V->St->Hp->(St->Hp->Prop)->Prop
noncomputable abbrev En:=List V->St->Hp->(St->Hp->Prop)->Prop
noncomputable def PG (X:Cx) (target:Expr) (t:TG):Prop:=
 ∀(pins:List (Addr×Obj)) (s:Shared) (σ:St) (H:Hp) (v:V) (u:Value) (Q:St->Hp->Prop),Inv X pins σ H s->RelV v u->t v σ H Q->
  wpAny (model X.prog X.w) X.A (assign target X.env u) (fun _ s'=>∃σ' H',Inv X pins σ' H' s'/\Q σ' H') X.xe s
noncomputable def Gu (X:Cx) (ts:List Expr) (t:En):Prop:=
 ∀(pins:List (Addr×Obj)) (s:Shared) (σ:St) (H:Hp) (vs:List V) (us:List Value) (Q:St->Hp->Prop),Inv X pins σ H s->Vals vs us->t vs σ H Q->
  wpAny (model X.prog X.w) X.A (assignInOrder ((assignEach ts X.env).map (·.2)) us) (fun _ s'=>∃σ' H',Inv X pins σ' H' s'/\Q σ' H') X.xe s
noncomputable abbrev Hj:=V->V->V->Hp->(Hp->Prop)->Prop
noncomputable def KN (X:Cx) (t:Hj):Prop:=
 ∀(pins:List (Addr×Obj)) (s:Shared) (σ:St) (H:Hp) (o i v:V) (ov iv u:Value) (Q:Hp->Prop),Inv X pins σ H s->RelV o ov->RelV i iv->RelV v u->t o i v H Q->
  wpAny (model X.prog X.w) X.A (setItem ov iv u) (fun _ s'=>∃H',Inv X pins σ H' s'/\Q H') X.xe s
noncomputable abbrev M6:=V->V->Hp->VK->Prop
noncomputable def Ot (X:Cx) (op:Operator) (t:M6):Prop:=
 ∀(pins:List (Addr×Obj)) (s:Shared) (σ:St) (H:Hp) (x y:V) (v u:Value) (Q:VK),Inv X pins σ H s->RelV x v->RelV y u->t x y H Q->
  wpAny (model X.prog X.w) X.A (inplaceOp op v u) (EP X pins σ Q) X.xe s
section
variable {X:Cx}{pos:Pos}
noncomputable def qk (i:Nat):TG:=fun v σ H Q=>Q (σ.set i (some v)) H
theorem qX {i:Nat}{x:Str}(hN:X.N.Nodup) (hi:X.N[i]? =some x) (hx:Loc X.env.scope x) (hf:X.fn x=true\/X.env.scope.names.lookup x=some .local:=by first | exact .inl rfl | exact .inr rfl | assumption):PG X (.Name x pos) (qk i):=by
 intro pins s σ H v u Q I r h
 exact wpAny_assign_Name (rJ I hN hi hx r (fun s' I'=>⟨_,H,I',h⟩) hf)
noncomputable def KO:En:=fun vs σ H Q=>vs=[]/\Q σ H
noncomputable def BV (t:TG) (u:En):En:=fun vs σ H Q=>∃v r,vs=v :: r/\t v σ H fun σ' H'=>u r σ' H' Q
theorem zN:Gu X [] KO:=by
 intro pins s σ H vs us Q I r h
 obtain⟨e,h⟩:=h
 subst e
 cases r
 exact assignInOrder_nil ⟨σ,H,I,h⟩
theorem rM {e:Expr}{es:List Expr}{t:TG}{u:En}(h1:PG X e t) (h2:Gu X es u)
  (hs:(assignEach (e :: es) X.env).map (·.2)=assign e X.env :: (assignEach es X.env).map (·.2):=by rfl):Gu X (e :: es) (BV t u):=by
 intro pins s σ H vs us Q I r h
 obtain⟨v,vr,e1,h⟩:=h
 subst e1
 cases r with
 | cons r rr=>
  rw[hs]
  refine assignInOrder_cons (fM (h1 pins s σ H _ _ _ I r h) fun _ s1 ⟨σ1,H1,I1,q1⟩=>?_)
  exact h2 pins s1 σ1 H1 _ _ Q I1 rr q1
noncomputable def KP (K:PySem.W.Frag) (n:Nat) (t:En):TG:=fun v σ H Q=>∃a xs,v= .ref a/\u6 K H a xs/\xs.length=n/\t xs σ H Q
theorem BW {es:List Expr}{k:Nat}{t:En}{n:Nat}(hc:X.calm=true) (h:Gu X es t)
  (hn:(assignEach es X.env).length=n:=by rfl) (hst:(assignEach es X.env).findIdx? (·.1)=none:=by rfl):PG X (.Tuple es k pos) (KP X.K n t):=by
 intro pins s σ H v u Q I r hw
 obtain⟨a,xs,e1,hq,hl,hw⟩:=hw
 subst e1
 cases r
 obtain⟨its,rv,ht,hz⟩:=I.tuple hq
 refine assign_Tuple_tuple (I.ok.hd hc) ht (by simp[hn,<-hl,rv.length]) hst fun h' hx=>?_
 have I1:Inv X pins σ H {s with heap:=h'}:=I.kept (t':=s.toks) fun b o e=>hx b o (Nat.ne_of_lt (Heap.lt_size e)) e
 exact h pins _ σ H xs _ Q I1 (by simpa using rv) hw
noncomputable def Ou (to ti:TE) (t:Hj):TG:=fun v σ H Q=>to σ H fun o H1=>ti σ H1 fun i H2=>t o i v H2 fun H3=>Q σ H3
theorem Hl {o i:Expr}{to ti:TE}{t:Hj}(ho:PE X o to) (hi:PE X i ti) (hs:KN X t)
  (ha:∀v,assign (.Subscript o i pos) X.env v=(do
   let ov <-holding [v] (eval o X.env)
   let iv <-holding [v,ov] (eval i X.env)
   standAt pos
   holding [v,ov,iv] (setItem ov iv v)
   release [v,ov,iv] []):=by intro _;rfl):PG X (.Subscript o i pos) (Ou to ti t):=by
 intro pins s σ H v u Q I r h
 rw[ha]
 refine wpAny_bind (wpAny_holding (fM (ho pins s σ H _ I h) fun ov s1 ⟨x,H1,I1,r1,q1⟩=>?_))
 refine wpAny_bind (wpAny_holding (fM (hi pins s1 σ H1 _ I1 q1) fun iv s2 ⟨y,H2,I2,r2,q2⟩=>?_))
 refine wpAny_bind (wpAny_standAt (wpAny_bind (wpAny_holding (fM (hs pins s2 σ H2 x y v ov iv u _ I2 r1 r2 r q2) fun _ s3 ⟨H3,I3,q3⟩=>?_))))
 exact wpAny_release ⟨σ,H3,I3,q3⟩
noncomputable def Eo (te:TE) (g:TG):TS:=fun D σ H=>te σ H fun x H1=>g x σ H1 D.nx
theorem BX {tg e:Expr}{te:TE}{g:TG}(he:PE X e te) (hg:PG X tg g) (hs:swapsWithSole [tg] e pos.line X.env=pure false:=by rfl) (hw:swappedStores [tg] e X.env=pure none:=by rfl)
  (h1:(assignEach [tg] X.env).map (·.2)=[assign tg X.env]:=by rfl):PS X (.Assign [tg] e pos) (Eo te g):=by
 intro pins s σ H D I h
 refine wpAny_Assign_stores (fM (he pins s σ H _ I h) fun v s1 ⟨x,H1,I1,r1,q1⟩=>?_) hs hw
 rw[h1]
 exact fM (hg pins s1 σ H1 x v _ I1 r1 q1) fun _ s2 q=>q
theorem Ho {i:Nat}{x:Str}{e:Expr}{te:TE}{pos':Pos}(hN:X.N.Nodup) (hi:X.N[i]? =some x) (hx:Loc X.env.scope x) (he:PE X e te) (hs:swapsWith e (some (.Name x pos')) pos.line X.env=pure false:=by rfl) (hf:X.fn x=true\/X.env.scope.names.lookup x=some .local:=by first | exact .inl rfl | exact .inr rfl | assumption):
  PS X (.Assign [.Name x pos'] e pos) (Eo te (qk i)):=by
 intro pins s σ H D I h
 refine wpAny_Assign_Name (fM (he pins s σ H _ I h) fun v s1 ⟨y,H1,I1,r1,q1⟩=>?_) hs
 exact rJ I1 hN hi hx r1 (fun s2 I2=>⟨_,H1,I2,q1⟩) hf
noncomputable def Ov (i:Nat) (te:TE) (ti:M6):TS:=fun D σ H=>∃x,σ[i]? =some (some x)/\te σ H fun y H1=>ti x y H1 fun z H2=>D.nx (σ.set i (some z)) H2
theorem Hq {i : Nat} {x : Str} {e : Expr} {te : TE} {op : Operator} {ti : M6} {pos' : Pos} (hN : X.N.Nodup) (hi : X.N[i]? = some x) (hx : Loc X.env.scope x) (he : PE X e te) (ho : Ot X op ti) (hf : X.fn x = true \/ X.env.scope.names.lookup x = some .local := by first | exact .inl rfl | exact .inr rfl | assumption) :
    PS X (.AugAssign (.Name x pos') op e pos) (Ov i te ti):=by
  intro pins s σ H D I h
  obtain⟨v,e1,h⟩:=h
  obtain⟨m,hn,hl⟩:=I.loc
  have vis:AR X.env.scope x:=by rcases hx with k | k;exact .inl k;exact .inr (.inl k)
  obtain⟨u,r,l⟩:=hl i x v hi e1 vis
  refine wpAny_AugAssign_Name ?_
  have go:wpAny (model X.prog X.w) X.A (eval e X.env) (fun w s₂=>wpAny (model X.prog X.w) X.A (inplaceOp op u w) (fun r s₃=>wpAny (model X.prog X.w) X.A (storeName X.env x r) (fun _=>SP X pins D .next) X.xe s₃) X.xe s₂) X.xe s:=by
    refine fM (he pins s σ H _ I h) fun w s1 ⟨y,H1,I1,r1,q1⟩=>?_
    refine fM (ho pins s1 σ H1 v y u w _ I1 r r1 q1) fun z s2 ⟨zv,H2,I2,r2,q2⟩=>?_
    exact rJ I2 hN hi hx r2 (fun s3 I3=>⟨_,H2,I3,q2⟩) hf
  rcases l with⟨hk,hm⟩ | ⟨hk,c,hc,hcell⟩
  . exact wpAny_loadName_local I.ok.kind hk hn hm go
  . rcases hk with hk | hk
    . exact wpAny_loadName_cell I.ok.kind hk hc hcell go
    . rcases hx with k | k
      . have:X.env.scope.names.lookup x=some .free:=hk
        rw[k] at this;cases this
      . have:X.env.scope.names.lookup x=some .free:=hk
        rw[k] at this;cases this
noncomputable def SM (f:Int->Int->Int):M6:=fun x y H Q=>∃i j,x= .int i/\y= .int j/\Q (.int (f i j)) H
theorem Hr:Ot X .Add (SM fun i j=>i+j):=by
 intro pins s σ H x y v u Q I r1 r2 h
 obtain⟨i,j,e1,e2,q⟩:=h
 subst e1;subst e2
 obtain⟨t,rfl⟩:=r1
 obtain⟨t',rfl⟩:=r2
 exact iadd_int ⟨.int _,H,I.tok _,⟨_,rfl⟩,q⟩
end
section
variable {X:Cx}{pos:Pos}
noncomputable def Hs (c:TT) (tb:TS):TS:=fun D σ H=>∃W:Nat->St->Hp->Prop,(∃m,W m σ H)/\∀m σ H,W m σ H->
 c σ H fun b H1=>if b=true then ∃N:St->Hp->Prop,(∀σ' H',N σ' H'->∃m',m' < m/\W m' σ' H')/\tb {D with nx:=N,ct:=N,bk:=D.nx} σ H1 else D.nx σ H1
theorem BY {c:Expr}{body:List Stmt}{tc:TT}{tb:TS}(hp:PassesOwn (model X.prog X.w) X.A X.env X.xe) (hc:PT X c tc) (hb:wC X body tb):PS X (.While c body [] pos) (Hs tc tb):=by
 intro pins s σ H D I h
 obtain⟨W,⟨m0,w0⟩,turn⟩:=h
 refine wpAny_While (codeAny_whileLoop (fun n s'=>∃σ' H',Inv X pins σ' H' s'/\W n σ' H') ?_ m0 ⟨σ,H,I,w0⟩)
 rintro n s1 ⟨σ1,H1,I1,w1⟩
 refine wpAny_passesOwn hp (fM (hc pins s1 σ1 H1 _ I1 (turn n σ1 H1 w1)) fun b s2 ⟨H2,I2,q2⟩=>?_)
 cases b with
 | true=>
  obtain⟨N,hN,q2⟩:=q2
  rw[if_pos rfl]
  refine wpAny_passesOwn hp (fM (hb pins s2 σ1 H2 _ I2 q2) fun f s3 q3=>?_)
  cases f with
  | next=>
   obtain⟨σ3,H3,I3,n3⟩:=q3
   obtain⟨m',hm,w3⟩:=hN σ3 H3 n3
   exact⟨m',hm,σ3,H3,I3,w3⟩
  | cont=>
   obtain⟨σ3,H3,I3,n3⟩:=q3
   obtain⟨m',hm,w3⟩:=hN σ3 H3 n3
   exact⟨m',hm,σ3,H3,I3,w3⟩
  | brk=>exact q3
  | ret v=>exact q3
 | false=>
  rw[if_neg Bool.false_ne_true]
  exact wpAny_execs_nil ⟨σ1,H2,I2,q2⟩
end
structure It where
 go:Nat->Hp->Prop
 J5:Nat->Hp->V->Hp->Prop
 stop:Nat->Hp->Prop
noncomputable def lE (X:Cx) (pins:List (Addr×Obj)) (H:Hp) (b:Addr):Prop:=
 H b=none/\b≠X.env.locals/\b∉X.fs/\(b∈X.ex\/X.s₀.heap.objs.size<=b)/\(∀x c,X.env.cells.lookup x=some c->c≠b)/\∀p∈X.pn++pins,p.1≠b
theorem Inv.yG {X:Cx}{pins:List (Addr×Obj)}{σ:St}{H H':Hp}{s:Shared}{b:Addr}(I:Inv X pins σ H s) (hb:s.heap.objs.size<=b) (hn:H' b=none):lE X pins H' b:=by
 refine⟨hn,Nat.ne_of_gt (Nat.lt_of_lt_of_le I.lt hb),I.G7 hb,.inr (Nat.le_trans I.sz hb),fun x c e z=>?_,fun p hp z=>?_⟩
 ·obtain⟨v,q⟩:=I.cell x c e
  exact absurd (Nat.lt_of_lt_of_le q.lt (by rw[z];exact hb)) (Nat.lt_irrefl _)
 ·exact absurd (Nat.lt_of_lt_of_le (Heap.lt_size (I.pin p hp).1) (by rw[z];exact hb)) (Nat.lt_irrefl _)
structure Turn (P:Program) (w:World) (K:PySem.W.Frag) (tg:Expr) (J:It) (fp:List Addr) (it:Addr) (tn:Nat->Heap->Prop):Prop where
 mem:it∈fp
 obj:∀i h,tn i h->∀b∈fp,∃o,h.get? b=some o/\∀v,o.data≠.cell v
 keep:∀i h h',tn i h->(∀b∈fp,∀o,h.get? b=some o->h'.get? b=some o)->tn i h'
 item:∀(X:Cx),X.prog=P->X.w=w->X.K=K->X.calm=true->∀(i:Nat) (pins:List (Addr×Obj)) (s:Shared) (σ:St) (H:Hp) (E:Value->Shared->Prop),Inv X pins σ H s->(∀b∈fp,lE X pins H b)->tn i s.heap->J.go i H->
  wpAny (model P w) X.A (pyNext (.ref it)) (fun r s1=>∃u,r=some u/\
   wpAny (model P w) X.A (letOwnedTupleGo tg (.ref it) u) (fun _ s2=>∃x H',Inv X pins σ H' s2/\RelV x u/\J.J5 i H x H'/\tn (i+1) s2.heap/\∀b∈fp,H' b=none) E s1) E s
 done:∀(X:Cx),X.prog=P->X.w=w->X.K=K->X.calm=true->∀(i:Nat) (pins:List (Addr×Obj)) (s:Shared) (σ:St) (H:Hp) (E:Value->Shared->Prop),Inv X pins σ H s->(∀b∈fp,lE X pins H b)->tn i s.heap->J.stop i H->
  wpAny (model P w) X.A (pyNext (.ref it)) (fun r s1=>r=none/\Inv X pins σ H s1) E s
 self:∀(A:Around) (i:Nat) (s:Shared) (Q:Value->Shared->Prop) (E:Value->Shared->Prop),tn i s.heap->Q (.ref it) s->wpAny (model P w) A (pyIter (.ref it)) Q E s
noncomputable abbrev TI:=St->Hp->(It->Hp->Prop)->Prop
noncomputable def Ow (X:Cx) (pins:List (Addr×Obj)) (σ:St) (tg:Expr) (R:It->Hp->Prop) (itv:Value) (s2:Shared):Prop:=
 ∃(it:Addr) (fp:List Addr) (tn:Nat->Heap->Prop) (J:It) (H':Hp),itv= .ref it/\Inv X pins σ H' s2/\Turn X.prog X.w X.K tg J fp it tn/\tn 0 s2.heap/\(∀b∈fp,lE X pins H' b)/\R J H'
noncomputable def PI (X:Cx) (tg iter:Expr) (wi:TI):Prop:=
 ∀(pins:List (Addr×Obj)) (s:Shared) (σ:St) (H:Hp) (R:It->Hp->Prop),Inv X pins σ H s->wi σ H R->
  wpAny (model X.prog X.w) X.A (eval iter X.env) (fun v s1=>wpAny (model X.prog X.w) X.A (pyIter v) (Ow X pins σ tg R) X.xe s1) X.xe s
theorem BZ {M : Model} {A : Around} {E : Value -> Shared -> Prop} {s : Shared} {tg : Expr} {it : Addr} {u : Value} {o : Obj} {n : String} {vs : Array Value} {Q : Unit -> Shared -> Prop} (ho : s.heap.get? it = some o) (hc : o.cls = .type n) (hd : o.data = .fields vs)
    (hn:["enumerate","zip","dict_itemiterator","dict_reverseitemiterator","odict_iterator","itertools.zip_longest","itertools.pairwise"].contains n=false) (hQ:Q () s):wpAny M A (letOwnedTupleGo tg (.ref it) u) Q E s:=by
  unfold letOwnedTupleGo
  cases tg <;> first
    | exact wpAny_pure hQ
    | (cases u <;> first
        | exact wpAny_pure hQ
        | (refine wpAny_bind (wpAny_load ho ?_)
           rw[hc,hd]
           show wpAny M A (if(["enumerate","zip","dict_itemiterator","dict_reverseitemiterator","odict_iterator","itertools.zip_longest","itertools.pairwise"].contains n && vs[0]? == some (rawInt _))=true then _ else _) Q E s
           rw[if_neg (by intro h;rw[hn,Bool.false_and] at h;cases h)]
           exact wpAny_pure hQ))
noncomputable def Ox (K:PySem.W.Frag) (a:Addr):It:=
 ⟨fun i H=>∃xs x,nB K H a xs/\xs[i]? =some x,fun i H x H'=>H'=H/\∀xs,nB K H a xs->xs[i]? =some x,fun i H=>∃xs,nB K H a xs/\xs.length<=i⟩
noncomputable def Oz (K:PySem.W.Frag) (a:Addr):It:=
 ⟨fun i H=>∃xs x,u6 K H a xs/\xs[i]? =some x,fun i H x H'=>H'=H/\∀xs,u6 K H a xs->xs[i]? =some x,fun i H=>∃xs,u6 K H a xs/\xs.length<=i⟩
noncomputable def M7 (lo:Int) (n:Nat):It:=⟨fun i _=>i < n,fun i H x H'=>H'=H/\x= .int (lo+i),fun i _=>n<=i⟩
theorem AV {P:Program}{w:World}{K:PySem.W.Frag}{tg:Expr}(a it:Addr):Turn P w K tg (Ox K a) [it] it (fun i h=>h.IsListIter it a i) where
 mem:=by simp
 obj:=fun i h st b hb=>by
  have e:b=it:=by simpa using hb
  subst e
  obtain⟨o,e,c,d⟩:=st
  exact⟨o,e,fun v z=>by rw[d] at z;cases z⟩
 keep:=fun i h h' st k=>st.at fun o e=>k it (by simp) o e
 item:=by
  intro X hP hw hK hc i pins s σ H E I hf st hg
  subst hP hw hK
  obtain⟨xs,x,hq,hx⟩:=hg
  obtain⟨its,rv,p,hz⟩:=I.list hq
  obtain⟨u,hu,ru⟩:=rv.get hx
  obtain⟨f0,f1,f2,f3,f4,f5⟩:=hf it (by simp)
  refine wpAny_pyNext_list_item st p.isList (x:=u) (by simpa using hu) fun h' st' sb=>?_
  have I1:Inv X pins σ H {s with heap:=h'}:=I.turned (t':=s.toks) (fun b o hb e=>(sb.2 b hb).trans e) f0 f1 f3 f4 f5
  obtain⟨o,e,c,d⟩:=id st'
  exact⟨u,rfl,BZ (s:={s with heap:=h'}) e c d (by decide) ⟨x,H,I1,ru,⟨rfl,fun ys hy=>by rw[I.wF hy hq];exact hx⟩,st',fun b hb=>(hf b hb).1⟩⟩
 done:=by
  intro X hP hw hK hc i pins s σ H E I hf st hg
  subst hP hw hK
  obtain⟨xs,hq,hx⟩:=hg
  obtain⟨its,rv,p,hz⟩:=I.list hq
  obtain⟨f0,f1,f2,f3,f4,f5⟩:=hf it (by simp)
  have hl:=rv.length
  exact wpAny_pyNext_list_end (I.ok.hd hc) st p.isList (by simp;omega) fun h' eb=>⟨rfl,I.turned (t':=s.toks) (fun b o hb e=>eb b o hb e) f0 f1 f3 f4 f5⟩
 self:=fun _ _ _ _ _ st h=>wpAny_pyIter_listiter st h
theorem yH {P:Program}{w:World}{K:PySem.W.Frag}{tg:Expr}(a it:Addr):Turn P w K tg (Oz K a) [it] it (fun i h=>h.IsTupleIter it a i) where
 mem:=by simp
 obj:=fun i h st b hb=>by
  have e:b=it:=by simpa using hb
  subst e
  obtain⟨o,e,c,d⟩:=st
  exact⟨o,e,fun v z=>by rw[d] at z;cases z⟩
 keep:=fun i h h' st k=>st.at fun o e=>k it (by simp) o e
 item:=by
  intro X hP hw hK hc i pins s σ H E I hf st hg
  subst hP hw hK
  obtain⟨xs,x,hq,hx⟩:=hg
  obtain⟨its,rv,p,hz⟩:=I.tuple hq
  obtain⟨u,hu,ru⟩:=rv.get hx
  obtain⟨f0,f1,f2,f3,f4,f5⟩:=hf it (by simp)
  refine wpAny_pyNext_tuple_item st (show s.heap.IsTuple a its.toArray from p) (x:=u) (by simpa using hu) fun h' st' sb=>?_
  have I1:Inv X pins σ H {s with heap:=h'}:=I.turned (t':=s.toks) (fun b o hb e=>(sb.2 b hb).trans e) f0 f1 f3 f4 f5
  obtain⟨o,e,c,d⟩:=id st'
  exact⟨u,rfl,BZ (s:={s with heap:=h'}) e c d (by decide) ⟨x,H,I1,ru,⟨rfl,fun ys hy=>by rw[I.uA hy hq];exact hx⟩,st',fun b hb=>(hf b hb).1⟩⟩
 done:=by
  intro X hP hw hK hc i pins s σ H E I hf st hg
  subst hP hw hK
  obtain⟨xs,hq,hx⟩:=hg
  obtain⟨its,rv,p,hz⟩:=I.tuple hq
  obtain⟨f0,f1,f2,f3,f4,f5⟩:=hf it (by simp)
  have hl:=rv.length
  exact wpAny_pyNext_tuple_end (I.ok.hd hc) st (show s.heap.IsTuple a its.toArray from p) (by simp;omega) fun h' eb=>⟨rfl,I.turned (t':=s.toks) (fun b o hb e=>eb b o hb e) f0 f1 f3 f4 f5⟩
 self:=fun _ _ _ _ _ st h=>wpAny_pyIter_tupleiter st h
theorem yJ {P:Program}{w:World}{K:PySem.W.Frag}{tg:Expr}(it:Addr) (lo:Int) (n:Nat):Turn P w K tg (M7 lo n) [it] it (fun i h=>IsRangeIter h it (lo+(i:Nat) * 1) ((n:Int) - (i:Nat)) 1) where
  mem:=by simp
  obj := fun i h st b hb => by
    have e:b=it:=by simpa using hb
    subst e
    exact⟨_,st,fun v z=>by
      have z':Data.fields _=Data.cell v:=z
      cases z'⟩
  keep:=fun i h h' st k=>k it (by simp) _ st
  item:=by
    intro X hP hw hK hc i pins s σ H E I hf st hg
    subst hP hw hK
    obtain⟨f0,f1,f2,f3,f4,f5⟩:=hf it (by simp)
    have W:=Walks.range (prog:=X.prog) (w:=X.w) (I.ok.hd hc) it lo 1 n
    refine W.item i s _ _ hg st fun v h' tk hv st' kk=>?_
    obtain⟨t,rfl⟩:=hv
    have I1:Inv X pins σ H {s with heap:=h',toks:=tk}:=I.turned (fun b o hb e=>kk b o (by simpa using hb) e) f0 f1 f3 f4 f5
    refine⟨_,rfl,BZ (s:={s with heap:=h',toks:=tk}) (n:="range_iterator") st' rfl rfl (by decide) ⟨.int (lo+i),H,I1,⟨t,?_⟩,⟨rfl,rfl⟩,st',fun b hb=>(hf b hb).1⟩⟩
    rw[Int.mul_one]
  done:=by
    intro X hP hw hK hc i pins s σ H E I hf st hg
    subst hP hw hK
    obtain⟨f0,f1,f2,f3,f4,f5⟩:=hf it (by simp)
    exact wpAny_pyNext_range_end (I.ok.hd hc) st (by have:n<=i:=hg;omega) fun h' eb=>⟨rfl,I.turned (t':=s.toks) (fun b o hb e=>eb b o hb e) f0 f1 f3 f4 f5⟩
  self:=fun _ _ _ _ _ st h=>wpAny_pyIter_rangeiter st h
section
variable {X:Cx}{tg:Expr}
noncomputable def KQ (K:PySem.W.Frag) (tl:TE):TI:=fun σ H R=>tl σ H fun x H1=>∃a,x= .ref a/\(∃xs,nB K H1 a xs)/\R (Ox K a) H1
noncomputable def OA (K:PySem.W.Frag) (tl:TE):TI:=fun σ H R=>tl σ H fun x H1=>∃a,x= .ref a/\(∃xs,u6 K H1 a xs)/\R (Oz K a) H1
theorem zO {l:Expr}{tl:TE}(hl:PE X l tl):PI X tg l (KQ X.K tl):=by
 intro pins s σ H R I h
 refine fM (hl pins s σ H _ I h) fun v s1 ⟨x,H1,I1,r1,q1⟩=>?_
 obtain⟨a,e,⟨xs,hq⟩,q⟩:=q1
 subst e
 cases r1
 obtain⟨its,rv,p,hz⟩:=I1.list hq
 refine wpAny_pyIter_list p.isList ?_
 refine⟨s1.heap.objs.size,[s1.heap.objs.size],_,_,H1,rfl,I1.kept (t':=s1.toks) fun b o e=>Heap.get?_push_of_some _ e,AV a _,⟨_,Heap.get?_push_size _ rfl,rfl,rfl⟩,fun b hb=>?_,q⟩
 have e:b=s1.heap.objs.size:=by simpa using hb
 subst e
 exact I1.yG (Nat.le_refl _) (I1.hok.fresh (Nat.le_refl _))
theorem B0 {l:Expr}{tl:TE}(hl:PE X l tl):PI X tg l (OA X.K tl):=by
 intro pins s σ H R I h
 refine fM (hl pins s σ H _ I h) fun v s1 ⟨x,H1,I1,r1,q1⟩=>?_
 obtain⟨a,e,⟨xs,hq⟩,q⟩:=q1
 subst e
 cases r1
 obtain⟨its,rv,p,hz⟩:=I1.tuple hq
 refine wpAny_pyIter_tuple (show s1.heap.IsTuple a its.toArray from p) ?_
 refine⟨s1.heap.objs.size,[s1.heap.objs.size],_,_,H1,rfl,I1.kept (t':=s1.toks) fun b o e=>Heap.get?_push_of_some _ e,yH a _,⟨_,Heap.get?_push_size _ rfl,rfl,rfl⟩,fun b hb=>?_,q⟩
 have e:b=s1.heap.objs.size:=by simpa using hb
 subst e
 exact I1.yG (Nat.le_refl _) (I1.hok.fresh (Nat.le_refl _))
theorem B3 {pins:List (Addr×Obj)}{σ:St}{H:Hp}{s:Shared}{R:It->Hp->Prop}{E:Value->Shared->Prop}{lo hi:Int}{t u v:Tok}{tk:Nat}(I:Inv X pins σ H s) (h1:-(2 ^ 62)<=lo) (h2:lo < 2 ^ 62) (h3:-(2 ^ 62)<=hi) (h4:hi < 2 ^ 62)
  (q:R (M7 lo (hi - lo).toNat) H):wpAny (model X.prog X.w) X.A (pyIter (.ref s.heap.objs.size)) (Ow X pins σ tg R) E {s with heap:=s.heap.push {cls:=.type "range",data:=.fields #[.int lo t,.int hi u,.int 1 v]},toks:=tk}:=by
 refine wpAny_pyIter_range (IsRange.new ..) (small_one h1 h2 h3 h4) ?_
 have I1:Inv X pins σ H {s with heap:=s.heap.push {cls:=.type "range",data:=.fields #[.int lo t,.int hi u,.int 1 v]},toks:=tk}:=I.kept fun b o e=>Heap.get?_push_of_some _ e
 refine⟨(s.heap.push {cls:=.type "range",data:=.fields #[.int lo t,.int hi u,.int 1 v]}).objs.size,[(s.heap.push {cls:=.type "range",data:=.fields #[.int lo t,.int hi u,.int 1 v]}).objs.size],_,_,H,rfl,
  I1.kept (t':=tk) fun b o e=>Heap.get?_push_of_some _ e,yJ _ lo (hi - lo).toNat,?_,fun b hb=>?_,q⟩
 ·have e1:lo+((0:Nat):Int) * 1=lo:=by simp
  have e2:(((hi - lo).toNat:Nat):Int) - ((0:Nat):Int)=Builtin.Range.rangeSize lo hi 1:=by rw[rangeSize_one];split <;> omega
  show IsRangeIter _ _ (lo+((0:Nat):Int) * 1) ((((hi - lo).toNat:Nat):Int) - ((0:Nat):Int)) 1
  rw[e1,e2]
  exact Heap.get?_push_size _ rfl
 ·have e:b=(s.heap.push {cls:=.type "range",data:=.fields #[.int lo t,.int hi u,.int 1 v]}).objs.size:=by simpa using hb
  subst e
  exact I1.yG (Nat.le_refl _) (I1.hok.fresh (Nat.le_refl _))
noncomputable def KR (ta:TA):TI:=fun σ H R=>ta σ H fun vs H1=>∃j:Int,vs=[.int j]/\-(2 ^ 62)<=j/\j < 2 ^ 62/\R (M7 0 j.toNat) H1
theorem AW {a:Expr}{ta:TA}{p pos:Pos}(hg:Gl X "range") (hm:X.mg "range" =none) (ha:PA X [a] ta) (hs:starEach [a] X.env=[(false,eval a X.env)]:=by rfl):PI X tg (.Call (.Name "range" p) [a] [] pos) (KR ta):=by
 intro pins s σ H R I h
 refine Call_ (rK I hg hm boot_range (PyProof.Rows.callWith_type1 (fM (ha pos pins s σ H _ I h) fun us s1 ⟨vs,H1,I1,r1,q1⟩=>?_) hs rfl))
 obtain⟨j,e,q1,q2,q⟩:=q1
 subst e
 cases r1 with
 | cons r rr=>
  cases rr
  obtain⟨t,rfl⟩:=r
  exact call_range_1 (B3 I1 (by omega) (by omega) q1 q2 (by simpa using q))
noncomputable def OB (wi:TI) (g:TG) (tb:TS):TS:=fun D σ H=>wi σ H fun J H1=>∃W:Nat->Nat->St->Hp->Prop,(∃m,W 0 m σ H1)/\∀i m σ H,W i m σ H->
 (J.stop i H/\D.nx σ H)\/(J.go i H/\∃N:St->Hp->Prop,(∀σ' H',N σ' H'->∃m',m' < m/\W (i+1) m' σ' H')/\∀x H',J.J5 i H x H'->g x σ H' fun σ2 H2=>tb {D with nx:=N,ct:=N,bk:=D.nx} σ2 H2)
noncomputable def j6 (fp:List Addr) (h:Heap):List (Addr×Obj):=fp.filterMap fun b=>(h.get? b).map fun o=>(b,o)
theorem cV {fp:List Addr}{h:Heap}{b:Addr}{o:Obj}(hb:b∈fp) (e:h.get? b=some o):(b,o)∈j6 fp h:=List.mem_filterMap.mpr ⟨b,hb,by rw[e];rfl⟩
theorem kj {fp:List Addr}{h:Heap}{p:Addr×Obj}(hp:p∈j6 fp h):p.1∈fp/\h.get? p.1=some p.2:=by
 obtain⟨b,hb,e⟩:=List.mem_filterMap.mp hp
 cases q:h.get? b with
 | none=>rw[q] at e;cases e
 | some o=>
  rw[q] at e
  have e':(b,o)=p:=Option.some.inj e
  subst e'
  exact⟨hb,q⟩
theorem Inv.pinned {pins:List (Addr×Obj)}{σ:St}{H:Hp}{s:Shared}{fp:List Addr}(I:Inv X pins σ H s) (hf:∀b∈fp,lE X pins H b) (ho:∀b∈fp,∃o,s.heap.get? b=some o/\∀v,o.data≠.cell v):Inv X (pins++j6 fp s.heap) σ H s:=
 I.zK fun p hp=>(List.mem_append.mp hp).elim (fun z=>I.pin p (List.mem_append_right _ z)) fun z=>by
  obtain⟨hb,e⟩:=kj z
  obtain⟨f0,f1,f2,_⟩:=hf p.1 hb
  obtain⟨o,e',d⟩:=ho p.1 hb
  rw[e] at e';cases e'
  exact⟨e,f0,f1,f2,d⟩
theorem Inv.jG {pins pl:List (Addr×Obj)}{σ:St}{H:Hp}{s:Shared}(I:Inv X (pins++pl) σ H s):Inv X pins σ H s:=I.zK fun p hp=>I.pin p (List.mem_append_right _ (List.mem_append_left _ hp))
theorem yK {iter:Expr}{body:List Stmt}{wi:TI}{g:TG}{tb:TS}{pos:Pos}(hp:PassesOwn (model X.prog X.w) X.A X.env X.xe) (hc:X.calm=true) (hi:PI X tg iter wi) (hg:PG X tg g) (hb:wC X body tb)
  (hs:∀x,foldedSetIterable iter X.env x=pure x:=by intro _;rfl):PS X (.For tg iter body [] pos) (OB wi g tb):=by
 intro pins s σ H D I h
 refine wpAny_For (fM (hi pins s σ H _ I h) fun v s1 h1=>fM h1 fun itv s2 h2=>?_) hs
 obtain⟨it,fp,tn,J,H2,e,I2,T,st2,f2,W,⟨m0,w0⟩,turn⟩:=h2
 subst e
 have Ht:∀{H':Hp},(∀b∈fp,H' b=none)->∀b∈fp,lE X pins H' b:=fun hn b hb=>⟨hn b hb,(f2 b hb).2⟩
 refine codeAny_forLoop_any (fun n s'=>∃i σ' H',Inv X pins σ' H' s'/\tn i s'.heap/\(∀b∈fp,H' b=none)/\W i n σ' H') ?_ m0 ⟨0,σ,H2,I2,st2,fun b hb=>(f2 b hb).1,w0⟩
 rintro n s3 ⟨i,σ3,H3,I3,st3,SN,w3⟩
 rcases turn i n σ3 H3 w3 with⟨stop,qn⟩ | ⟨go,N,hN,step⟩
 ·refine wpAny_passesOwn hp (fM (T.done X rfl rfl rfl hc i pins s3 σ3 H3 X.xe I3 (Ht SN) st3 stop) fun r s4 ⟨hr,I4⟩=>?_)
  subst hr
  exact wpAny_execs_nil ⟨σ3,H3,I4,qn⟩
 ·refine wpAny_passesOwn hp (fM (T.item X rfl rfl rfl hc i pins s3 σ3 H3 X.xe I3 (Ht SN) st3 go) fun r s4 ⟨u,hr,h4⟩=>?_)
  subst hr
  refine wpAny_passesOwn hp (fM h4 fun _ s5 ⟨x,H5,I5,r5,y5,OC,Ug⟩=>?_)
  have Uh:=I5.pinned (Ht Ug) (T.obj _ _ OC)
  refine wpAny_passesOwn hp (fM (hg _ s5 σ3 H5 x u _ Uh r5 (step x H5 y5)) fun _ s6 ⟨Ui,H6,I6,q6⟩=>?_)
  refine wpAny_passesOwn hp (fM (hb _ s6 Ui H6 _ I6 q6) fun f s7 q7=>?_)
  have again:∀{B4:St}{H7:Hp},Inv X (pins++j6 fp s5.heap) B4 H7 s7->N B4 H7->∃m,m < n/\∃i σ' H',Inv X pins σ' H' s7/\tn i s7.heap/\(∀b∈fp,H' b=none)/\W i m σ' H':=fun {B4 H7} I7 n7=>by
   obtain⟨m',hm,w7⟩:=hN B4 H7 n7
   refine⟨m',hm,i+1,B4,H7,I7.jG,T.keep _ _ _ OC fun b hb o e=>(I7.pin (b,o) (List.mem_append_right _ (List.mem_append_right _ (cV hb e)))).1,fun b hb=>?_,w7⟩
   obtain⟨o,e,d⟩:=T.obj _ _ OC b hb
   exact(I7.pin (b,o) (List.mem_append_right _ (List.mem_append_right _ (cV hb e)))).2.1
  cases f with
  | next=>obtain⟨B4,H7,I7,n7⟩:=q7;exact again I7 n7
  | cont=>obtain⟨B4,H7,I7,n7⟩:=q7;exact again I7 n7
  | brk=>obtain⟨B4,H7,I7,q7⟩:=q7;exact⟨B4,H7,I7.jG,q7⟩
  | ret v=>obtain⟨x7,B4,H7,I7,r7,q7⟩:=q7;exact⟨x7,B4,H7,I7.jG,r7,q7⟩
end
noncomputable abbrev R2:=V->V->Hp->VK->Prop
noncomputable def tR (X:Cx) (f:Value->Value->Sem Value) (r:R2):Prop:=
 ∀(pins:List (Addr×Obj)) (s:Shared) (σ:St) (H:Hp) (x y:V) (v u:Value) (Q:VK),Inv X pins σ H s->RelV x v->RelV y u->r x y H Q->
  wpAny (model X.prog X.w) X.A (f v u) (EP X pins σ Q) X.xe s
noncomputable def iG (X:Cx) (f:Value) (r:List V->Hp->VK->Prop):Prop:=
 ∀(pins:List (Addr×Obj)) (s:Shared) (σ:St) (H:Hp) (xs:List V) (us:List Value) (Q:VK),Inv X pins σ H s->Vals xs us->r xs H Q->
  wpAny (model X.prog X.w) X.A (call f us) (EP X pins σ Q) X.xe s
noncomputable def J6 (r:R2) (ta tb:TE):TE:=fun σ H Q=>ta σ H fun x H1=>tb σ H1 fun y H2=>r x y H2 Q
noncomputable def rI (C:Int->Int->Prop) (g:Int->Int->V):R2:=fun x y H Q=>∃i j,x= .int i/\y= .int j/\C i j/\Q (g i j) H
noncomputable def Hu (g:Int->Int->V):R2:=fun x y H Q=>∃i j,x= .int i/\y= .int j/\Q (g i j) H
section
variable {X:Cx}{a b c:Expr}{ta tb tc:TE}{pos:Pos}
theorem Hv (ha:PE X a ta) (hb:PE X b tb){pins:List (Addr×Obj)}{s:Shared}{σ:St}{H:Hp}{R:V->V->Hp->Prop}(I:Inv X pins σ H s)
  (h:ta σ H fun x H1=>tb σ H1 fun y H2=>R x y H2){Q:Value->Shared->Prop}{f:Value->Value->Sem Value}
  (hf:∀v u s2 x y H2,Inv X pins σ H2 s2->RelV x v->RelV y u->R x y H2->wpAny (model X.prog X.w) X.A (f v u) Q X.xe s2):
  wpAny (model X.prog X.w) X.A (eval a X.env) (fun v s₁=>wpAny (model X.prog X.w) X.A (eval b X.env) (fun u s₂=>wpAny (model X.prog X.w) X.A (f v u) Q X.xe s₂) X.xe s₁) X.xe s:=by
 refine fM (ha pins s σ H _ I h) fun v s1 ⟨x,H1,I1,r1,q1⟩=>?_
 refine fM (hb pins s1 σ H1 _ I1 q1) fun u s2 ⟨y,H2,I2,r2,q2⟩=>?_
 exact hf v u s2 x y H2 I2 r1 r2 q2
theorem KS {op:Operator}{r:R2}(ho:tR X (binaryOp op) r) (ha:PE X a ta) (hb:PE X b tb):PE X (.BinOp a op b pos) (J6 r ta tb):=by
 intro pins s σ H Q I h
 exact wpAny_BinOp (Hv ha hb I h fun v u s2 x y H2 I2 rx ry q=>ho pins s2 σ H2 x y v u Q I2 rx ry q)
theorem M8 {f:Value->Value->Sem Value}{C:Int->Int->Prop}{g:Int->Int->Int}
  (rule:∀(i j:Int) (t u:Tok) (s:Shared) (Q:Value->Shared->Prop) (E:Value->Shared->Prop),C i j->Q (.int (g i j) s.toks) {s with toks:=s.toks+1}->wpAny (model X.prog X.w) X.A (f (.int i t) (.int j u)) Q E s):
  tR X f (rI C fun i j=>.int (g i j)):=by
 intro pins s σ H x y v u Q I rx ry h
 obtain⟨i,j,rfl,rfl,hc,q⟩:=h
 obtain⟨t,rfl⟩:=rx
 obtain⟨t',rfl⟩:=ry
 exact rule i j t t' s _ _ hc ⟨.int (g i j),H,I.tok _,⟨_,rfl⟩,q⟩
theorem KU {f:Value->Value->Sem Value}{g:Int->Int->Int}
  (rule:∀(i j:Int) (t u:Tok) (s:Shared) (Q:Value->Shared->Prop) (E:Value->Shared->Prop),Q (.int (g i j) s.toks) {s with toks:=s.toks+1}->wpAny (model X.prog X.w) X.A (f (.int i t) (.int j u)) Q E s):
  tR X f (Hu fun i j=>.int (g i j)):=by
 intro pins s σ H x y v u Q I rx ry h
 obtain⟨i,j,rfl,rfl,q⟩:=h
 obtain⟨t,rfl⟩:=rx
 obtain⟨t',rfl⟩:=ry
 exact rule i j t t' s _ _ ⟨.int (g i j),H,I.tok _,⟨_,rfl⟩,q⟩
theorem Hw {f:Value->Value->Sem Value}{g:Int->Int->Bool}
  (rule:∀(i j:Int) (t u:Tok) (s:Shared) (Q:Value->Shared->Prop) (E:Value->Shared->Prop),Q (.bool (g i j)) s->wpAny (model X.prog X.w) X.A (f (.int i t) (.int j u)) Q E s):
  tR X f (Hu fun i j=>.bl (g i j)):=by
 intro pins s σ H x y v u Q I rx ry h
 obtain⟨i,j,rfl,rfl,q⟩:=h
 obtain⟨t,rfl⟩:=rx
 obtain⟨t',rfl⟩:=ry
 exact rule i j t t' s _ _ ⟨.bl (g i j),H,I,rfl,q⟩
noncomputable def KW (i j:Int):Prop:=0 < j/\j < 1073741824
noncomputable def OD (i j:Int):Prop:=0<=j/\j<=1000000/\i.natAbs < 2 ^ 64
noncomputable def Hx (i j:Int):Prop:=(-(2 ^ 64) < i/\i < 2 ^ 64)\/(-(2 ^ 64) < j/\j < 2 ^ 64)
theorem Hx.ok {i j:Int}(h:Hx i j):IntMulOk i j:=by
 rcases h with⟨h1,h2⟩ | ⟨h1,h2⟩
 ·exact .of_left (intBits_le_64 h1 h2)
 ·exact .of_right (intBits_le_64 h1 h2)
theorem Hy:tR X (binaryOp .Add) (Hu fun i j=>.int (i+j)):=KU fun _ _ _ _ _ _ _ q=>add_int q
theorem Hz:tR X (binaryOp .Sub) (Hu fun i j=>.int (i - j)):=KU fun _ _ _ _ _ _ _ q=>sub_int q
theorem HA:tR X (binaryOp .Mult) (rI Hx fun i j=>.int (i * j)):=M8 fun _ _ _ _ _ _ _ hc q=>mul_int q hc.ok
theorem Ep:tR X (binaryOp .FloorDiv) (rI KW fun i j=>.int (i / j)):=M8 fun i j _ _ _ _ _ hc q=>by
 have h1:(0:Int) < j:=hc.1
 have h2:j < 1073741824:=hc.2
 exact floordiv_int (by omega) (by rw[Int.fdiv_eq_ediv_of_nonneg i (by omega)];exact q) (.inl (PyProof.noPylong_small (by omega)))
theorem HB:tR X (binaryOp .Mod) (rI (fun _ j=>0 < j) fun i j=>.int (i % j)):=M8 fun i j _ _ _ _ _ hc q=>by
 have h1:(0:Int) < j:=hc
 exact mod_int' (by omega) (by rw[Int.fmod_eq_emod_of_nonneg i (by omega)];exact q)
theorem HC:tR X (binaryOp .Pow) (rI OD fun i j=>.int (i ^ j.toNat)):=M8 fun _ _ _ _ _ _ _ hc q=>pow_int_small hc.1 hc.2.1 hc.2.2 q
end
section
variable {X:Cx}{a b c:Expr}{ta tb tc:TE}{pos:Pos}
theorem HD {pins:List (Addr×Obj)}{σ:St}{H:Hp}{s:Shared}{Q:VK}{k k':Bool}(I:Inv X pins σ H s) (q:Q (.bl k) H) (e:k=k'):EP X pins σ Q (.bool k') s:=by
 subst e
 exact⟨.bl k,H,I,rfl,q⟩
theorem KY:tR X (compareOp .Lt) (Hu fun i j=>.bl (decide (i < j))):=Hw fun _ _ _ _ _ _ _ q=>lt_int q
theorem KZ:tR X (compareOp .Gt) (Hu fun i j=>.bl (decide (j < i))):=Hw fun _ _ _ _ _ _ _ q=>gt_int q
theorem K0:tR X (compareOp .GtE) (Hu fun i j=>.bl (decide (j<=i))):=Hw fun _ _ _ _ _ _ _ q=>ge_int q
theorem Es:tR X (compareOp .IsNot) (fun x y H Q=>y= .cH/\Q (.bl (!decide (x= .cH))) H):=by
 intro pins s σ H x y v u Q I rx ry h
 obtain⟨rfl,q⟩:=h
 cases ry
 refine isnot_none_gen (HD I q ?_)
 cases x <;> first
  | (cases rx;rfl)
  | (obtain⟨t,rfl⟩:=rx;rfl)
theorem B5 (b:Expr){op:CmpOp}(h:op≠.In:=by decide) (h2:op≠.NotIn:=by decide):behindInMarks op b=false:=by
 have e1:(op == CmpOp.In)=false:=by cases op <;> first | rfl | exact absurd rfl h
 have e2:(op == CmpOp.NotIn)=false:=by cases op <;> first | rfl | exact absurd rfl h2
 cases b <;> simp[behindInMarks,e1,e2]
theorem Et {op:CmpOp}{r:R2}(ho:tR X (compareOp op) r) (ha:PE X a ta) (hb:PE X b tb) (hm:behindInMarks op b=false):PE X (.Compare a [op] [b] pos) (J6 r ta tb):=by
 intro pins s σ H Q I h
 exact wpAny_Compare1 (Hv ha hb I h fun v u s2 x y H2 I2 rx ry q=>ho pins s2 σ H2 x y v u Q I2 rx ry q) hm
noncomputable def K1 (t:TE):TT:=fun σ H Q=>t σ H fun x H'=>∃k,x= .bl k/\Q k H'
theorem Eu {op:CmpOp}{r:R2}(ho:tR X (compareOp op) r) (ha:PE X a ta) (hb:PE X b tb) (hm:behindInMarks op b=false):PT X (.Compare a [op] [b] pos) (K1 (J6 r ta tb)):=by
 intro pins s σ H Q I h
 refine wpAny_isTrue_Compare1 (fM (ha pins s σ H _ I h) fun v s1 ⟨x,H1,I1,r1,q1⟩=>fM (hb pins s1 σ H1 _ I1 q1) fun u s2 ⟨y,H2,I2,r2,q2⟩=>
  fM (ho pins s2 σ H2 x y v u _ I2 r1 r2 q2) fun c s3 ⟨z,H3,I3,r3,k,e,q3⟩=>?_) hm
 subst e
 cases r3
 exact wpAny_truthy_bool ⟨H3,I3,q3⟩
theorem pB:(sizeLine:Nat) < 2 ^ 63:=by rw[sizeLine_eq];decide
theorem yL:tR X (binaryOp .Add) (fun x y H Q=>∃i j,x= .str i/\y= .str j/\i.length+j.length<=sizeLine/\Q (.str (i++j)) H):=by
 intro pins s σ H x y v u Q I rx ry h
 obtain⟨i,j,rfl,rfl,hz,q⟩:=h
 obtain⟨t,rfl⟩:=rx
 obtain⟨t',rfl⟩:=ry
 exact add_str (fun t' tk=>⟨.str (i++j),H,I.tok _,⟨_,rfl⟩,q⟩) hz
theorem vals1 {x:V}{us:List Value}(r:Vals [x] us):∃u,us=[u]/\RelV x u:=by
 cases r with
 | cons r1 r2=>cases r2;exact⟨_,rfl,r1⟩
theorem vals2 {x y:V}{us:List Value}(r:Vals [x,y] us):∃u w',us=[u,w']/\RelV x u/\RelV y w':=by
 cases r with
 | cons r1 r2=>
  cases r2 with
  | cons r3 r4=>cases r4;exact⟨_,_,rfl,r1,r3⟩
theorem AX (hc:X.calm=true):iG X (.builtin "min") (fun xs H Q=>∃i j,xs=[.int i,.int j]/\Q (.int (if j < i then j else i)) H):=by
 intro pins s σ H xs us Q I r h
 obtain⟨i,j,rfl,q⟩:=h
 obtain⟨u,w',rfl,⟨t,rfl⟩,⟨t',rfl⟩⟩:=vals2 r
 refine min_two_ints (I.ok.hd hc) fun h' tk k=>⟨_,H,I.kept k,?_,q⟩
 by_cases hj:j < i
 ·rw[if_pos hj,if_pos hj];exact⟨_,rfl⟩
 ·rw[if_neg hj,if_neg hj];exact⟨_,rfl⟩
theorem uB:iG X (.type "int") (fun xs H Q=>(∃i,xs=[.int i]/\Q (.int i) H)\/∃k,xs=[.bl k]/\Q (.int (if k then 1 else 0)) H):=by
 intro pins s σ H xs us Q I r h
 rcases h with⟨i,rfl,q⟩ | ⟨k,rfl,q⟩
 ·obtain⟨u,rfl,t,rfl⟩:=vals1 r
  exact call_int_int ⟨.int i,H,I,⟨_,rfl⟩,q⟩
 ·obtain⟨u,rfl,r1⟩:=vals1 r
  cases r1
  exact call_int_bool ⟨.int (if k then 1 else 0),H,I.tok _,⟨_,rfl⟩,q⟩
end
section
variable {prog:Program}{w:World}{A:Around}{E:Value->Shared->Prop}{s:Shared}{K:PySem.W.Frag}{x dx C f:Addr}{mA:Str->Option Value}{name:Str}{v:Value}
end
theorem lD.some_of {v:V}{o:Option Value}(r:lD (some v) o):∃u,o=some u/\RelV v u:=by
 cases o with
 | none=>exact(show False from r).elim
 | some u=>exact⟨u,rfl,r⟩
theorem lD.none_of {o:Option Value}(r:lD none o):o=none:=by
 cases o with
 | none=>rfl
 | some u=>exact(show False from r).elim
section
variable {P:Program}{w:World}{H H':Hp}{h h':Heap}{a C dx:Addr}{fs fs':List (Str×V)}
end
section
variable {X:Cx}{pins:List (Addr×Obj)}{σ:St}{H:Hp}{s:Shared}{a C dx:Addr}{fs:List (Str×V)}{f:Str}{v:V}{A:Around}{E:Value->Shared->Prop}
end
section
variable {X:Cx}{o e value:Expr}{f:Str}{pos pos' tpos:Pos}{ta tv:TE}
end
section
variable {X:Cx}{pins:List (Addr×Obj)}{σ:St}{H:Hp}{s:Shared}{A:Around}{E:Value->Shared->Prop}{Q:Value->Shared->Prop}{c:Value}{b:Bool}
end
structure kq (k:Nat) (A:Around):Prop where
 hd:A.handled=none
 dp:A.depth+3 * k+5 < recursionLimit
 un:A.units+16 * k+200 < cLine
 gd:A.guards=some []
theorem kq.mono {j k:Nat}{A:Around}(r:kq k A) (h:j<=k):kq j A:=⟨r.hd,by have:=r.dp;omega,by have:=r.un;omega,r.gd⟩
theorem kq.deeper {k:Nat}{A:Around}(r:kq (k+1) A) (env:Env):kq k (A.deeper env):=
 ⟨r.hd,by have:=r.dp;show A.depth+1+3 * k+5 < _;omega,by have:=r.un;show A.units+3+16 * k+200 < _;omega,r.gd⟩
theorem kq.depth {k:Nat}{A:Around}(r:kq k A):A.depth < recursionLimit:=by have:=r.dp;omega
theorem kq.units {k:Nat}{A:Around}(r:kq k A):A.units+64 < cLine:=by have:=r.un;omega
noncomputable def K2:TA:=fun _ H Q=>Q [] H
noncomputable def Gv (ta:TE) (tr:TA):TA:=fun σ H Q=>ta σ H fun x H1=>tr σ H1 fun xs H2=>Q (x :: xs) H2
section
variable {X:Cx}{e:Expr}{es:List Expr}{te:TE}{t:TA}{pos:Pos}
theorem pC:PA X [] K2:=fun _ _ _ _ H Q I h=>Calls.spliced_nil ⟨[],H,I,.nil,h⟩
theorem mJ (ha:PE X e te) (hr:PA X es t) (hs:starEach (e :: es) X.env=(false,eval e X.env) :: starEach es X.env:=by rfl):PA X (e :: es) (Gv te t):=by
 intro pos pins s σ H Q I h
 rw[hs]
 show wpAny _ _ (spliced ((false,eval e X.env) :: backTo pos (starEach es X.env))) _ _ s
 refine Calls.spliced_cons (fM (ha pins s σ H _ I h) fun u s1 ⟨x,H1,I1,r1,q1⟩=>?_)
 exact fM (hr pos pins s1 σ H1 _ I1 q1) fun us s2 ⟨xs,H2,I2,r2,q2⟩=>⟨x :: xs,H2,I2,.cons r1 r2,q2⟩
noncomputable def OE (t:TA):TE:=fun σ H Q=>t σ H fun xs H1=>xs.length<=sizeLine/\∀p,H1 p=none->Q (.ref p) (upd H1 p (.tup xs))
noncomputable def OF (t:TA):TE:=fun σ H Q=>t σ H fun xs H1=>xs.length<=sizeLine/\∀p,H1 p=none->Q (.ref p) (upd H1 p (.lst xs))
theorem HE {x1}(h:PA X es t):PE X (.Tuple es x1 pos) (OE t):=by
 intro pins s σ H Q I hq
 refine wpAny_Tuple_spliced (fM (h pos pins s σ H _ I hq) fun us s1 ⟨xs,H1,I1,r,z,q⟩=>⟨by rw[<-r.length];exact z,?_⟩)
 have hf:H1 s1.heap.objs.size=none:=I1.hok.fresh (Nat.le_refl _)
 refine⟨.ref s1.heap.objs.size,upd H1 s1.heap.objs.size (.tup xs),I1.laid (t':=s1.toks) (fun b u e=>Heap.get?_push_of_some _ e) (Nat.le_refl _) ?_,rfl,q _ hf⟩
 exact⟨z,us,r,⟨_,Heap.get?_push_size _ rfl,rfl,_,rfl⟩⟩
theorem B6 (h:PA X es t):PE X (.List es pos) (OF t):=by
 intro pins s σ H Q I hq
 refine wpAny_List_spliced (fM (h pos pins s σ H _ I hq) fun us s1 ⟨xs,H1,I1,r,z,q⟩=>⟨by rw[<-r.length];exact z,?_⟩)
 have hf:H1 s1.heap.objs.size=none:=I1.hok.fresh (Nat.le_refl _)
 refine⟨.ref s1.heap.objs.size,upd H1 s1.heap.objs.size (.lst xs),I1.laid (t':=s1.toks) (fun b u e=>Heap.get?_push_of_some _ e) (Nat.le_refl _) ?_,rfl,q _ hf⟩
 exact⟨z,us,0,r,Heap.get?_push_size _ rfl⟩
end
noncomputable abbrev Sp:=List V->Hp->VK->XK->Prop
noncomputable abbrev BH:=List Env->Hp->Shared->XK->Value->Shared->Prop
structure Ew (P:Program) (w:World) (K:PySem.W.Frag) (mg:Str->Option Value) (base:Heap) (A:Around) (outer:List Env) (s:Shared) (H:Hp):Prop where
 frames:A.frames=some outer
 mod:Mod K mg base
 bs:∀b o,base.get? b=some o->s.heap.get? b=some o/\H b=none
 Ec:base.objs.size<=s.heap.objs.size
 rH:s.heap.FunFrames base outer
 J4:∀b∈frs outer,H b=none
 hok:lJ P w H s.heap
 bare:AllBare s.gens
noncomputable def CE (outer:List Env) (P:Program) (w:World) (H:Hp) (s:Shared) (Q:VK) (u:Value) (s':Shared):Prop:=
 ∃v H',s'.os=s.os/\AllBare s'.gens/\Un (frs outer) [] H H' s.heap s'.heap/\lJ P w H' s'.heap/\RelV v u/\Q v H'
noncomputable def CR (CX:BH) (outer:List Env) (P:Program) (w:World) (H:Hp) (s:Shared) (Q:VK) (E:XK) (r:Result) (s':Shared):Prop:=
 match r with
 | .ok (.ret u)=>CE outer P w H s Q u s'
 | .ok _=>False
 | .error e=>CX outer H s E e s'
structure dD (P:Program) (w:World) (K:PySem.W.Frag) (mg:Str->Option Value) (base:Heap) (CX:BH) (k:Nat) (f:Addr) (fd:FuncData) (ps:List Str) (sp:Sp):Prop where
 len:∀vs H Q E,sp vs H Q E->vs.length=ps.length
 run:∀(A:Around) (outer:List Env) (s:Shared) (H:Hp) (args:Args) (us:List Value) (vs:List V) (Q:VK) (E:XK),kq k A->Ew P w K mg base A outer s H->BindsTo s fd args (ps.zip us)->Vals vs us->sp vs H Q E->
  codeAny (model P w) A (.call (.ref f) args) (CR CX outer P w H s Q E) s
theorem dD.mono {P:Program}{w:World}{K:PySem.W.Frag}{mg:Str->Option Value}{base:Heap}{CX:BH}{j k:Nat}{f:Addr}{fd:FuncData}{ps:List Str}{sp:Sp}(F:dD P w K mg base CX j f fd ps sp) (h:j<=k):
  dD P w K mg base CX k f fd ps sp:=⟨F.len,fun A outer s H args us vs Q E hr=>F.run A outer s H args us vs Q E (hr.mono h)⟩
section
variable {X:Cx}{pins:List (Addr×Obj)}{σ:St}{H:Hp}{s s':Shared}
theorem Inv.OG (I:Inv X pins σ H s):Ew X.prog X.w X.K X.mg X.base X.A X.stack s H:=
 ⟨I.ok.frames,I.ok.mod,I.bs,Nat.le_trans I.ok.Ec I.sz,I.stack,I.u5,I.hok,I.bare⟩
theorem Inv.after {Q:VK}{u:Value}(I:Inv X pins σ H s) (h:CE X.stack X.prog X.w H s Q u s'):EP X pins σ Q u s':=by
 obtain⟨v,H',os,bare,un,hok,r,q⟩:=h
 obtain⟨hh,g,d,t,os'⟩:=s'
 obtain rfl:os'=s.os:=os
 exact⟨v,H',I.call (h':=hh) (g':=g) (d':=d) (t':=t) (ch:=[]) un hok bare (fun b z=>absurd z (by simp)),r,q⟩
end
noncomputable def K3 (sp:Sp) (Gw:List V) (E:XK) (t:TA):TE:=fun σ H Q=>t σ H fun vs H1=>sp (vs++Gw) H1 Q E
noncomputable def Binds (K:PySem.W.Frag) (fd:FuncData) (ps:List Str) (ds:List Value):Prop:=
 ∀(s:Shared) (us:List Value),K.In s.heap->(us++ds).length=ps.length->BindsTo s fd ⟨us,[]⟩ (ps.zip (us++ds))
theorem Binds.all {K:PySem.W.Frag}{fd:FuncData}{ps:List Str}(h:∀us:List Value,us.length=ps.length->bindArgs fd ⟨us,[]⟩=pure (ps.zip us)):Binds K fd ps []:=fun s us _ hl=>by
 rw[List.append_nil] at hl ⊢
 exact .of_eq (h us hl)
noncomputable def Passes (CX:BH) (X:Cx) (E:XK):Prop:=∀(pins:List (Addr×Obj)) (σ:St) (H:Hp) (s:Shared) (e:Value) (s':Shared),Inv X pins σ H s->CX X.stack H s E e s'->X.xe e s'
section
variable {X:Cx}{CX:BH}{k:Nat}{f C:Addr}{fd:FuncData}{ps:List Str}{sp:Sp}{Gw:List V}{ds:List Value}{E:XK}{x m:Str}{p pos apos:Pos}{e o:Expr}{es:List Expr}{ta:TE}{t:TA}
theorem HF {pins:List (Addr×Obj)}{σ:St}{H:Hp}{s:Shared}{Q:VK}{us:List Value}{vs:List V}(F:dD X.prog X.w X.K X.mg X.base CX k f fd ps sp) (hr:kq k X.A) (hb:Binds X.K fd ps ds) (hd:Vals Gw ds) (hx:Passes CX X E)
  (I:Inv X pins σ H s) (r:Vals vs us) (h:sp (vs++Gw) H Q E):wpAny (model X.prog X.w) X.A (call (.ref f) us) (EP X pins σ Q) X.xe s:=by
 have r2:Vals (vs++Gw) (us++ds):=r.append hd
 have hl:(us++ds).length=ps.length:=by rw[<-r2.length];exact F.len _ _ _ _ h
 refine wpAny_call (codeAny_mono (F.run X.A X.stack s H ⟨us,[]⟩ (us++ds) (vs++Gw) Q E hr I.OG (hb s us I.BS hl) r2 h) fun r s' hq=>?_)
 cases r with
 | error e=>exact hx pins σ H s e s' I hq
 | ok fl=>
  cases fl with
  | ret u=>exact I.after hq
  | next=>exact False.elim hq
  | brk=>exact False.elim hq
  | cont=>exact False.elim hq
theorem Ex (F:dD X.prog X.w X.K X.mg X.base CX k f fd ps sp) (hr:kq k X.A) (hg:Gl X x) (hm:X.mg x=some (.ref f)) (hk:PySem.W.keepIn X.K (.ref f)=true) (hb:Binds X.K fd ps ds) (hd:Vals Gw ds) (hx:Passes CX X E)
  (ha:PA X (e :: es) t) (hdb:(x == ("__debug__":Str))=false:=by decide) (he:starEach (e :: es) X.env=(false,eval e X.env) :: starEach es X.env:=by rfl) (hpl:(backTo pos (starEach es X.env)).any (·.1)=false:=by rfl):
  PE X (.Call (.Name x p) (e :: es) [] pos) (K3 sp Gw E t):=by
 intro pins s σ H Q I h
 refine wpAny_Call_Name_kw (El I hg hm ?_ hdb)
 refine PySem.W.callWith_K (h₀:=X.base) I.ok.mod.Og hk (fM (ha pos pins s σ H _ I h) fun us s1 ⟨vs,H1,I1,r,q⟩=>⟨I1.BS,?_⟩) he hpl
 exact HF F hr hb hd hx I1 r q
end
section
variable {X:Cx}{CX:BH}{k:Nat}{f C:Addr}{fd:FuncData}{ps ks:List Str}{sp:Sp}{E:XK}{x m:Str}{p pos apos kpos:Pos}{e o:Expr}{es:List Expr}{kws:List Keyword}{te ta:TE}{t tk:TA}{nm:Option Str}
variable {g:List Value->List Value->List Value}{gV:List V->List V->List V}
end
structure cR (N P:List Str) (sc:Scope):Prop where
 kind:sc.kind= .function
 co:sc.isCoroutine=false
 gen:sc.isGenerator=false
 nd:N.Nodup
 pre:N.take P.length=P
 par:∀x∈P,sc.names.lookup x=some .local\/sc.names.lookup x=some .cell
 HG:∀y∈sc.names,y.2≠.free
theorem uC {kindOf:Str->Option NameKind}{x:Str}:∀{binds:List (Str×Value)}{m:Str->Option Value},(∀v,(x,v)∉binds)->bindL kindOf binds m x=m x
 | [],_,_=>rfl
 | (n,v) :: r,m,h=>by
  unfold bindL
  rw[uC fun w hw=>h w (List.mem_cons_of_mem _ hw)]
  split
  ·have:x≠n:=by rintro rfl;exact h v List.mem_cons_self
   simp[this]
  ·rfl
theorem uD {kindOf:Str->Option NameKind}{x:Str}:∀{binds:List (Str×Value)}{m:Str->Option Value},(∀v,(x,v)∉binds)->bindC kindOf binds m x=m x
 | [],_,_=>rfl
 | (n,v) :: r,m,h=>by
  unfold bindC
  rw[uD fun w hw=>h w (List.mem_cons_of_mem _ hw)]
  split
  ·rfl
  ·have:x≠n:=by rintro rfl;exact h v List.mem_cons_self
   simp[this]
theorem uE {kindOf:Str->Option NameKind}{x:Str}{v:Value}:∀{P:List Str}{vs:List Value}{i:Nat}{m:Str->Option Value},P.Nodup->P[i]? =some x->vs[i]? =some v->kindOf x=some .local->
  bindL kindOf (P.zip vs) m x=some v
 | [],_,_,_,_,h,_,_=>by simp at h
 | _ :: _,[],_,_,_,_,h,_=>by simp at h
 | p :: P,w :: vs,0,m,nd,h1,h2,hk=>by
  simp at h1 h2;subst h1;subst h2
  show bindL kindOf ((p,w) :: P.zip vs) m p=_
  unfold bindL
  rw[uC fun v hv=>(List.nodup_cons.mp nd).1 (List.of_mem_zip hv).1,if_pos hk]
  simp
 | p :: P,w :: vs,i+1,m,nd,h1,h2,hk=>by
  show bindL kindOf ((p,w) :: P.zip vs) m x=_
  unfold bindL
  exact uE (i:=i) (List.nodup_cons.mp nd).2 (by simpa using h1) (by simpa using h2) hk
theorem uF {kindOf:Str->Option NameKind}{x:Str}{v:Value}:∀{P:List Str}{vs:List Value}{i:Nat}{m:Str->Option Value},P.Nodup->P[i]? =some x->vs[i]? =some v->kindOf x≠some .local->
  bindC kindOf (P.zip vs) m x=some v
 | [],_,_,_,_,h,_,_=>by simp at h
 | _ :: _,[],_,_,_,_,h,_=>by simp at h
 | p :: P,w :: vs,0,m,nd,h1,h2,hk=>by
  simp at h1 h2;subst h1;subst h2
  show bindC kindOf ((p,w) :: P.zip vs) m p=_
  unfold bindC
  rw[uD fun v hv=>(List.nodup_cons.mp nd).1 (List.of_mem_zip hv).1,if_neg hk]
  simp
 | p :: P,w :: vs,i+1,m,nd,h1,h2,hk=>by
  show bindC kindOf ((p,w) :: P.zip vs) m x=_
  unfold bindC
  exact uF (i:=i) (List.nodup_cons.mp nd).2 (by simpa using h1) (by simpa using h2) hk
noncomputable def start (N:List Str) (vs:List V):St:=vs.map some++List.replicate (N.length - vs.length) none
noncomputable def yM (CX:BH) (P:Program) (w:World) (K:PySem.W.Frag) (mg:Str->Option Value) (base:Heap) (N:List Str) (qual:Str) (scope:Scope) (f:Addr) (cd:Value) (A:Around) (outer:List Env) (s:Shared) (H:Hp) (E:XK):Cx where
 prog:=P
 w:=w
 K:=K
 mg:=mg
 base:=base
 A:=A.deeper (envOfC qual scope s.heap.objs.size f cd)
 N:=N
 s₀:=s
 H₀:=H
 env:=envOfC qual scope s.heap.objs.size f cd
 outer:=outer
 stack:=envOfC qual scope s.heap.objs.size f cd :: outer
 ex:=[]
 calm:=true
 fn:=fun _=>true
 pn:=[]
 xe:=fun e s'=>wpAny (model P w) (A.deeper (envOfC qual scope s.heap.objs.size f cd)) (leaving (envOfC qual scope s.heap.objs.size f cd) e) (fun _ s''=>CX outer H s E e s'') (fun e' s''=>CX outer H s E e' s'') s'
theorem wG {sc:Scope}{n:Nat}{x:Str}(h:sc.names.lookup x=some .cell):∃c,(cellsFrom n sc.names []).lookup x=some c:=by
 have q:=PySem.W.cellsFrom_some sc.names n [] (.inl h)
 exact Option.isSome_iff_exists.mp q
theorem AY {CX : BH} {P : Program} {w : World} {K : PySem.W.Frag} {mg : Str -> Option Value} {base : Heap} {N ps : List Str} {qual : Str} {scope : Scope} {f : Addr} {cd : Value} {A : Around} {outer : List Env} {s s1 : Shared} {H : Hp} {E : XK} {us : List Value} {vs : List V}
    (S:cR N ps scope) (hd:A.handled=none) (e0:Ew P w K mg base A outer s H) (hl:vs.length=ps.length) (r:Vals vs us)
    (x:InCallC s s.heap.objs.size (bindL (envOfC qual scope s.heap.objs.size f cd).kindOf (ps.zip us) fun _=>none) (cellsFrom (s.heap.objs.size+1) scope.names []) (bindC (envOfC qual scope s.heap.objs.size f cd).kindOf (ps.zip us) fun _=>none) s1):
    Inv (yM CX P w K mg base N qual scope f cd A outer s H E) [] (start N vs) H s1:=by
  have hpl:ps.length<=N.length:=by have:=congrArg List.length S.pre;rw[List.length_take] at this;omega
  obtain⟨h1,tk,rfl,hk⟩:=x.done
  have K4:∀b:Addr,b∉(yM CX P w K mg base N qual scope f cd A outer s H E).ex:=fun b z=>absurd (show b∈([]:List Addr) from z) (by simp)
  refine⟨⟨e0.mod,S.kind,rfl,rfl,Nat.le_refl _,fun y z c h1 h2=>?_,fun y hy=>?_,fun y c _ h=>?_,fun _=>hd,Around.frames_deeper e0.frames,.inr ⟨rfl,rfl⟩,fun b z=>absurd z (K4 b),e0.bs,e0.Ec,fun b _ _=>K4 b,fun b z=>absurd z (K4 b),e0.rH,e0.J4⟩,
    rfl,e0.bare,Un.kept hk,⟨_,x.toInCall.ns,fun i y v h1 h2 h3=>?_⟩,fun y c h=>⟨_,x.cell y c h⟩,e0.hok.fresh (Nat.le_refl _),fun y c h=>?_,fun p hp=>absurd (show p∈([]:List (Addr×Obj)) from hp) (by simp),e0.hok.kept hk,?_⟩
  . exact name_of_addr x.apart (PySem.mem_of_lookup h1) (PySem.mem_of_lookup h2)
  . have hy:scope.names.lookup y=some .cell\/scope.names.lookup y=some .free:=hy
    rcases hy with hy | hy
    . exact wG hy
    . exact absurd rfl (S.HG _ (PySem.mem_of_lookup hy))
  . exact Nat.le_of_lt (x.above y c (PySem.mem_of_lookup h))
  . have hi:i < vs.length:=by
      unfold start at h2
      by_cases hi:i < vs.length
      . exact hi
      . rw[List.getElem?_append_right (by simpa using hi)] at h2
        rw[List.getElem?_replicate] at h2
        split at h2 <;> cases h2
    have ha:vs[i]? =some v:=by
      unfold start at h2
      rw[List.getElem?_append_left (by simpa using hi),List.getElem?_map] at h2
      cases e:vs[i]? with
      | none=>rw[e] at h2;cases h2
      | some a=>rw[e] at h2;cases h2;rfl
    obtain⟨u,hu,rv⟩:=r.get ha
    have hp:ps[i]? =some y:=by
      rw[<-S.pre,List.getElem?_take_of_lt (by omega)];exact h1
    have SO:ps.Nodup:=by rw[<-S.pre];exact S.nd.sublist (List.take_sublist _ _)
    refine⟨u,rv,?_⟩
    rcases S.par y (List.mem_of_getElem? hp) with k | k
    . exact .inl ⟨k,uE SO hp hu k⟩
    . obtain⟨c,e⟩:=wG (n:=s.heap.objs.size+1) k
      refine .inr ⟨.inl k,c,e,?_⟩
      have q:=x.cell y c e
      rw[uF SO hp hu (by show scope.names.lookup y≠_;rw[k];decide)] at q
      exact q
  . exact e0.hok.fresh (Nat.le_of_lt (x.above y c (PySem.mem_of_lookup h)))
  . unfold start
    show _=N.length
    rw[List.length_append,List.length_map,List.length_replicate]
    omega
theorem K5 {CX:BH}{P:Program}{w:World}{K:PySem.W.Frag}{mg:Str->Option Value}{base:Heap}{k:Nat}{f:Addr}{name qual:Str}{params:Arguments}{body:List Stmt}{scope:Scope}{dV kV doc pm cdv ct oc:Value}{an od:Option Addr}
  {osl:Array (Option Value)}{N ps:List Str}{sp:Sp}(lk:K.lookup f=some ⟨oc,od,.func (PySem.W.fnOf name qual params body scope dV kV doc pm an cdv ct),osl⟩) (hcd:PySem.W.codeIn K cdv qual=true) (S:cR N ps scope)
  (len:∀vs H Q E,sp vs H Q E->vs.length=ps.length)
  (hbody:∀(A:Around) (outer:List Env) (s:Shared) (H:Hp) (vs:List V) (Q:VK) (E:XK),kq k (A.deeper (envOfC qual scope s.heap.objs.size f cdv))->sp vs H Q E->
   ∃t,wC (yM CX P w K mg base N qual scope f cdv A outer s H E) body t/\t {nx:=fun _ H'=>Q .cH H',rt:=Q} (start N vs) H):
  dD P w K mg base CX (k+1) f (PySem.W.fnOf name qual params body scope dV kV doc pm an cdv ct) ps sp:=by
 refine⟨len,fun A outer s H args us vs Q E hr e0 hb r Gx=>?_⟩
 have hl:=len _ _ _ _ Gx
 have KX:K.In s.heap:=e0.mod.Og.keeps fun b o e=>(e0.bs b o e).1
 have lim:s.heap.NoLimit:=e0.mod.nolimit.keeps fun b o e=>(e0.bs b o e).1
 have hkind:∀y∈ps.zip us,scope.names.lookup y.1=some .local\/(scope.names.lookup y.1=some .cell/\((cellsFrom (s.heap.objs.size+1) scope.names []).lookup y.1).isSome=true):=fun⟨n,v⟩ hy=>by
  rcases S.par n (List.of_mem_zip hy).1 with q | q
  ·exact .inl q
  ·exact .inr ⟨q,PySem.W.cellsFrom_some _ _ _ (.inl q)⟩
 refine codeAny_call_function hr.depth (KX _ _ lk) rfl S.co S.gen rfl (PySem.W.codeRec_of KX hcd) (hb _ _ _ _ ?_)
 refine wpAny_newFunctionEnv_cells S.kind hkind fun env he s1 x=>?_
 subst he
 refine⟨lim.keeps x.toInCall.keep,codeAny_func ?_⟩
 obtain⟨t,ht,hq⟩:=hbody A outer s H vs Q E (hr.deeper _) Gx
 have I:Inv (yM CX P w K mg base N qual scope f cdv A outer s H E) [] (start N vs) H s1:=AY S hr.hd e0 hl r x
 refine wpAny_mono (ht [] s1 (start N vs) H _ I hq) (fun fl s' hs=>?_) fun e s' hs=>hs
 have fin:∀{σ':St}{H':Hp}{v:V}{u:Value},Inv (yM CX P w K mg base N qual scope f cdv A outer s H E) [] σ' H' s'->RelV v u->Q v H'->CE outer P w H s Q u s':=
  fun {σ' H' v u} J rv q=>⟨v,H',J.os,J.bare,J.base,J.hok,rv,q⟩
 cases fl with
 | ret u=>
  obtain⟨v,σ',H',J,rv,q⟩:=hs
  exact fin J rv q
 | next=>
  obtain⟨σ',H',J,q⟩:=hs
  exact fin (v:=V.cH) (u:=Value.none) J rfl q
 | brk=>
  obtain⟨_,_,_,q⟩:=hs
  exact False.elim q
 | cont=>
  obtain⟨_,_,_,q⟩:=hs
  exact False.elim q
section
variable {X:Cx}{x:Str}{p pos:Pos}{e:Expr}{es:List Expr}{t:TA}{id T:String}{r:List V->Hp->VK->Prop}
noncomputable def SQ (r:List V->Hp->VK->Prop) (t:TA):TE:=fun σ H Q=>t σ H fun vs H1=>r vs H1 Q
theorem lN (hc:iG X (.builtin id) r) (hg:Gl X x) (hm:X.mg x=none) (hv:bootBuiltins x=some (.builtin id)) (ha:PA X (e :: es) t) (hn:x≠"__name__":=by decide) (hdb:(x == ("__debug__":Str))=false:=by decide)
  (he:starEach (e :: es) X.env=(false,eval e X.env) :: starEach es X.env:=by rfl) (hpl:(backTo pos (starEach es X.env)).any (·.1)=false:=by rfl):PE X (.Call (.Name x p) (e :: es) [] pos) (SQ r t):=by
 intro pins s σ H Q I h
 refine wpAny_Call_Name_kw (rK I hg hm hv ?_ hn hdb)
 exact PyProof.Rows.callWith_builtin1 (fM (ha pos pins s σ H _ I h) fun us s1 ⟨vs,H1,I1,r1,q1⟩=>hc pins s1 σ H1 vs us Q I1 r1 q1) he hpl
theorem AZ (hc:iG X (.type T) r) (hg:Gl X x) (hm:X.mg x=none) (hv:bootBuiltins x=some (.type T)) (ha:PA X (e :: es) t) (hn:x≠"__name__":=by decide) (hdb:(x == ("__debug__":Str))=false:=by decide)
  (he:starEach (e :: es) X.env=(false,eval e X.env) :: starEach es X.env:=by rfl) (hpl:(backTo pos (starEach es X.env)).any (·.1)=false:=by rfl):PE X (.Call (.Name x p) (e :: es) [] pos) (SQ r t):=by
 intro pins s σ H Q I h
 refine wpAny_Call_Name_kw (rK I hg hm hv ?_ hn hdb)
 exact PyProof.Rows.callWith_type1 (fM (ha pos pins s σ H _ I h) fun us s1 ⟨vs,H1,I1,r1,q1⟩=>hc pins s1 σ H1 vs us Q I1 r1 q1) he hpl
end
section
variable {κ:Type} [DecidableEq κ]
noncomputable def lF (kvs:List (κ×V)) (k:κ):Option V:=(kvs.find? fun kv=>decide (kv.1=k)).map (·.2)
noncomputable def putK (kvs:List (κ×V)) (k:κ) (v:V):List (κ×V):=
 if(kvs.any fun kv=>decide (kv.1=k))=true then kvs.map (fun kv=>if kv.1=k then(kv.1,v) else kv) else kvs++[(k,v)]
noncomputable def Gy (kvs:List (κ×V)) (k:κ):List (κ×V):=kvs.filter fun kv=>decide (kv.1≠k)
theorem nW {p:κ×V}{r:List (κ×V)}{k:κ}(e:p.1=k):lF (p :: r) k=some p.2:=by simp[lF,List.find?_cons,e]
theorem lO {p:κ×V}{r:List (κ×V)}{k:κ}(e:¬p.1=k):lF (p :: r) k=lF r k:=by simp[lF,List.find?_cons,e]
theorem wH (k:κ):∀kvs:List (κ×V),(kvs.any fun kv=>decide (kv.1=k))=(lF kvs k).isSome
 | []=>rfl
 | p :: r=>by
  rw[List.any_cons]
  by_cases e:p.1=k
  ·simp only[nW e,decide_eq_true e,Bool.true_or,Option.isSome_some]
  ·rw[lO e,decide_eq_false e,Bool.false_or];exact wH k r
theorem je (kvs:List (κ×V)) (k:κ) (v:V):(putK kvs k v).length<=kvs.length+1:=by
 unfold putK
 split
 ·rw[List.length_map];omega
 ·rw[List.length_append,List.length_cons,List.length_nil];omega
theorem lD.pD {o:Option V}{u:Option Value}(r:lD o u):o.isSome=u.isSome:=by
 cases o with
 | none=>cases u with
  | none=>rfl
  | some _=>exact(show False from r).elim
 | some _=>cases u with
  | none=>exact(show False from r).elim
  | some _=>rfl
theorem lD.getD {o:Option V}{u:Option Value}{d:V}{d':Value}(r:lD o u) (rd:RelV d d'):RelV (o.getD d) (u.getD d'):=by
 cases o with
 | none=>cases u with
  | none=>exact rd
  | some _=>exact(show False from r).elim
 | some _=>cases u with
  | none=>exact(show False from r).elim
  | some _=>exact r
theorem KV.val {kvs:List (κ×V)}{vs:List (κ×Value)}(r:KV kvs vs) (k:κ):lD (lF kvs k) (valueAt vs k):=by
 unfold KV at r
 induction r with
 | nil=>exact True.intro
 | @cons p q ps qs h t ih=>
  obtain⟨h1,h2⟩:=h
  by_cases e:p.1=k
  ·have e':q.1=k:=h1.symm.trans e
   have b:valueAt (q :: qs) k=some q.2:=by simp[valueAt,List.find?_cons,e']
   rw[nW e,b];exact h2
  ·have e':¬q.1=k:=fun z=>e (h1.trans z)
   have b:valueAt (q :: qs) k=valueAt qs k:=by simp[valueAt,List.find?_cons,e']
   rw[lO e,b];exact ih
theorem KV.any {kvs:List (κ×V)}{vs:List (κ×Value)}(r:KV kvs vs) (k:κ):(kvs.any fun kv=>decide (kv.1=k))=vs.any fun kv=>decide (kv.1=k):=by
 unfold KV at r
 induction r with
 | nil=>rfl
 | cons h t ih=>rw[List.any_cons,List.any_cons,ih,h.1]
theorem KV.repl {kvs:List (κ×V)}{vs:List (κ×Value)}(r:KV kvs vs) (k:κ){y:V}{u:Value}(ry:RelV y u):
  KV (kvs.map fun kv=>if kv.1=k then(kv.1,y) else kv) (vs.map fun kv=>if kv.1=k then(kv.1,u) else kv):=by
 unfold KV at r ⊢
 induction r with
 | nil=>exact .nil
 | @cons p q ps qs h t ih=>
  rw[List.map_cons,List.map_cons]
  refine .cons ?_ ih
  obtain⟨h1,h2⟩:=h
  by_cases e:p.1=k
  ·rw[if_pos e,if_pos (h1.symm.trans e)];exact⟨h1,ry⟩
  ·rw[if_neg e,if_neg (fun z=>e (h1.trans z))];exact⟨h1,h2⟩
theorem KV.put {kvs:List (κ×V)}{vs:List (κ×Value)}(r:KV kvs vs) (k:κ){y:V}{u:Value}(ry:RelV y u):KV (putK kvs k y) (stored vs k u):=by
 unfold putK stored
 rw[r.any k]
 by_cases e:(vs.any fun kv=>decide (kv.1=k))=true
 ·rw[if_pos e,if_pos e];exact r.repl k ry
 ·rw[if_neg e,if_neg e];exact Paired.snoc r ⟨rfl,ry⟩
theorem KV.drop {kvs:List (κ×V)}{vs:List (κ×Value)}(r:KV kvs vs) (k:κ):KV (Gy kvs k) (without vs k):=by
 unfold KV at r ⊢
 unfold Gy without
 induction r with
 | nil=>exact .nil
 | @cons p q ps qs h t ih=>
  obtain⟨h1,h2⟩:=h
  rw[List.filter_cons,List.filter_cons]
  by_cases e:p.1=k
  ·have a:¬decide (p.1≠k)=true:=by simp[e]
   have b:¬decide (q.1≠k)=true:=by simp[h1.symm.trans e]
   rw[if_neg a,if_neg b];exact ih
  ·have e':¬q.1=k:=fun z=>e (h1.trans z)
   have a:decide (p.1≠k)=true:=by simp[e]
   have b:decide (q.1≠k)=true:=by simp[e']
   rw[if_pos a,if_pos b];exact .cons ⟨h1,h2⟩ ih
theorem KV.length {kvs:List (κ×V)}{vs:List (κ×Value)}(r:KV kvs vs):kvs.length=vs.length:=Paired.length r
end
theorem Gz {P:Program}{w:World}{k:Key}{u:Value}(r:RelV (kV k) u):(fW P w).is k u=true:=by
 cases k with
 | inl i=>obtain⟨t,e⟩:=(show ∃t,u=Value.int i t from r);subst e;exact wz P w i t
 | inr x=>obtain⟨t,e⟩:=(show ∃t,u=Value.str x t from r);subst e;exact wA P w x t
theorem HH {a b:Key}(e:kV a=kV b):a=b:=by
 cases a with
 | inl i=>cases b with
  | inl j=>have e':V.int i=V.int j:=e;injection e' with e';rw[e']
  | inr y=>exact nomatch (show V.int i=V.str y from e)
 | inr x=>cases b with
  | inl j=>exact nomatch (show V.str x=V.int j from e)
  | inr y=>have e':V.str x=V.str y:=e;injection e' with e';rw[e']
noncomputable abbrev KT (H:Hp):List (D×V)->List (D×Addr×Value)->Prop:=Paired fun p q=>p.1=q.1/\Kd H q.2.1 p.1/\RelV p.2 q.2.2
theorem KT.val {H:Hp}{kvs:List (D×V)}{xs:List (D×Addr×Value)}(r:KT H kvs xs) (k:D):lD (lF kvs k) ((atKey xs k).map (·.2)):=by
 induction r with
 | nil=>exact True.intro
 | @cons p q ps qs h t ih=>
  obtain⟨h1,_,h2⟩:=h
  by_cases e:p.1=k
  ·have e':q.1=k:=h1.symm.trans e
   have b:atKey (q :: qs) k=some q.2:=by simp[atKey,List.find?_cons,e']
   rw[nW e,b];exact h2
  ·have e':¬q.1=k:=fun z=>e (h1.trans z)
   have b:atKey (q :: qs) k=atKey qs k:=by simp[atKey,List.find?_cons,e']
   rw[lO e,b];exact ih
theorem KT.repl {H:Hp}{kvs:List (D×V)}{xs:List (D×Addr×Value)}(r:KT H kvs xs) (k:D){y:V}{u:Value}(ry:RelV y u):
  KT H (kvs.map fun kv=>if kv.1=k then(kv.1,y) else kv) (xs.map (putAt k u)):=by
 induction r with
 | nil=>exact .nil
 | @cons p q ps qs h t ih=>
  rw[List.map_cons,List.map_cons]
  refine .cons ?_ ih
  obtain⟨h1,h2,h3⟩:=h
  unfold putAt
  by_cases e:p.1=k
  ·rw[if_pos e,if_pos (h1.symm.trans e)];exact⟨h1,h2,ry⟩
  ·rw[if_neg e,if_neg (fun z=>e (h1.trans z))];exact⟨h1,h2,h3⟩
theorem KT.put {H:Hp}{kvs:List (D×V)}{xs:List (D×Addr×Value)}(r:KT H kvs xs) (k:D){b:Addr}{y:V}{u:Value}(hb:Kd H b k) (ry:RelV y u):
  KT H (putK kvs k y) (storedH xs k b u):=by
 have e:(kvs.any fun kv=>decide (kv.1=k))=(atKey xs k).isSome:=by
  rw[wH,(r.val k).pD,Option.isSome_map]
 unfold putK storedH
 rw[e]
 by_cases q:(atKey xs k).isSome=true
 ·rw[if_pos q,if_pos q];exact r.repl k ry
 ·rw[if_neg q,if_neg q];exact Paired.snoc r ⟨rfl,hb,ry⟩
theorem KT.keeps {H H':Hp}{kvs:List (D×V)}{xs:List (D×Addr×Value)}(r:KT H kvs xs) (ht:∀b ys,H b=some (.tup ys)->H' b=some (.tup ys)):KT H' kvs xs:=
 Paired.AO r fun _ _ z=>⟨z.1,z.2.1.tups ht,z.2.2⟩
section
variable {P:Program}{w:World}{H:Hp}{h:Heap}{a:Addr}
theorem GC {u:HO}(ok:lJ P w H h) (e:Rd H a u):ff P w H h a u:=e.ok ok
theorem qm {kvs:List (Key×V)}(ok:lJ P w H h) (e:Rd H a (.dK kvs)):kvs.length<=sizeLine/\(a == sysModules)=false/\∃vs,KV kvs vs/\h.DictOf (fW P w) a vs:=
 show ff P w H h a (.dK kvs) from GC ok e
theorem B7 {kvs:List (Key×V)}(ok:lJ P w H h) (e:H a=some (.dK kvs)):kvs.length<=sizeLine/\(a == sysModules)=false/\∃vs,KV kvs vs/\h.DictOf (fW P w) a vs:=qm ok (.inl e)
mutual
theorem B8 (ok : lJ P w H h) : ∀ (d : D) {n : Nat} {v : V} {u : Value}, Rep H v d -> RelV v u -> fR n d = true -> tH h u (nf d)
  | .cH,n,_,_,_,_,k=>by simp[fR] at k
  | .lst _,n,_,_,_,_,k=>by simp[fR] at k
  | .bl b,n,_,_,r,q,k=>by cases r;cases q;exact .bool b
  | .int i,n,_,_,r,q,k=>by cases r;obtain⟨t,rfl⟩:=q;exact .int i t
  | .str i,n,_,_,r,q,k=>by cases r;obtain⟨t,rfl⟩:=q;exact .str i t
  | .tup ds,n,_,_,r,q,k=>by
    cases n with
    | zero=>simp[fR] at k
    | succ n=>
      cases r with
      | @tup a vs _ e rs=>
        cases q
        obtain⟨_,its,rv,o,h1,h2,m,h3⟩:=(show ff P w H h a (.tup vs) from ok a _ e)
        exact .tup ⟨o,h1,h2,m,h3⟩ (zP ok ds rs rv k)
theorem zP (ok:lJ P w H h):∀(ds:List D){n:Nat}{vs:List V}{us:List Value},bw H vs ds->Vals vs us->ds.all (fR n)=true->jX h us (Eh ds)
  | [],n,_,_,r,q,k=>by cases r;cases q;exact .nil
  | d :: ds, n, _, _, r, q, k => by
    rw[List.all_cons,Bool.and_eq_true] at k
    cases r with
    | cons r1 r2=>
      cases q with
      | cons q1 q2=>exact .cons (B8 ok d r1 q1 k.1) (zP ok ds r2 q2 k.2)
end
theorem kK {ks:D}(ok:lJ P w H h) (e:Kd H a ks):(iC P w).is h ks a:=by
 obtain⟨d,r,hk,rfl⟩:=e
 exact⟨B8 ok d r rfl hk,zJ d 8 hk⟩
theorem rN {kvs : List (D × V)} (ok : lJ P w H h) (e : Rd H a (.dT kvs)) : kvs.length <= sizeLine /\ (a == sysModules) = false /\
    ∃xs,KT H kvs xs/\h.DictOfH (iC P w) a xs:=by
  obtain⟨z,y,xs,r,o,es,ep,h1,h2,h3,h4,h5⟩:=(show ff P w H h a (.dT kvs) from GC ok e)
  refine⟨z,y,xs,r,o,es,ep,h1,h2,h3,h4,fun x hx=>?_,h5⟩
  have all:∀{l:List (D×V)}{m:List (D×Addr×Value)},KT H l m->∀x∈m,(iC P w).is h x.1 x.2.1:=by
    intro l m q
    induction q with
    | nil=>intro x hx;exact nomatch hx
    | @cons p q ps qs hq t ih=>
      intro x hx
      rcases List.mem_cons.mp hx with e | hx
      . subst e
        exact kK ok (by rw[<-hq.1];exact hq.2.1)
      . exact ih x hx
  exact all r x hx
theorem B9 {kvs:List (D×V)}(ok:lJ P w H h) (e:H a=some (.dT kvs)):kvs.length<=sizeLine/\(a == sysModules)=false/\
  ∃xs,KT H kvs xs/\h.DictOfH (iC P w) a xs:=rN ok (.inl e)
end
noncomputable def Ey (y:V) (k:Key):Prop:=y=kV k\/∃b,y= .bl b/\k= .inl (bI b)
theorem Ey.is {P:Program}{w:World}{y:V}{k:Key}{u:Value}(e:Ey y k) (r:RelV y u):(fW P w).is k u=true:=by
 rcases e with rfl | ⟨b,rfl,rfl⟩
 ·exact Gz r
 ·cases r;exact decide_eq_true rfl
noncomputable def iz (H:Hp) (a:Addr) (y:V) (r:Option V):Prop:=
 (∃kvs k,Rd H a (.dK kvs)/\Ey y k/\r=lF kvs k)\/∃kvs k b,Rd H a (.dT kvs)/\y= .ref b/\Kd H b k/\r=lF kvs k
noncomputable def rO (H:Hp) (a:Addr) (y v:V) (H':Hp):Prop:=
 (∃kvs k,H a=some (.dK kvs)/\Ey y k/\kvs.length < sizeLine/\H'=upd H a (.dK (putK kvs k v)))\/
 ∃kvs k b,H a=some (.dT kvs)/\y= .ref b/\Kd H b k/\kvs.length < sizeLine/\H'=upd H a (.dT (putK kvs k v))
theorem iz.t {H:Hp}{a b:Addr}{kvs:List (D×V)}{k:D}(e:H a=some (.dT kvs)) (eb:Kd H b k):iz H a (.ref b) (lF kvs k):=.inr ⟨kvs,k,b,.inl e,rfl,eb,rfl⟩
theorem rO.t {H:Hp}{a b:Addr}{kvs:List (D×V)}{k:D}{v:V}(e:H a=some (.dT kvs)) (eb:Kd H b k) (hl:kvs.length < sizeLine):
  rO H a (.ref b) v (upd H a (.dT (putK kvs k v))):=.inr ⟨kvs,k,b,e,rfl,eb,hl,rfl⟩
section
variable {X:Cx}{pins:List (Addr×Obj)}{σ:St}{H:Hp}{s:Shared}{a:Addr}{y v:V}{u r:Value}{o:Option V}{A:Around}{E:Value->Shared->Prop}
theorem Inv.big (I:Inv X pins σ H s):sysModules < s.heap.objs.size:=by
 have h:mainGlobals < s.heap.objs.size:=(I.mod.glob.keeps I.bk).lt
 exact Nat.lt_trans (by decide) h
theorem A0 {Q:Value->Shared->Prop}(hu:A.units+20 < cLine) (I:Inv X pins σ H s) (g:iz H a y (some v)) (ry:RelV y u) (h:∀w' s',Inv X pins σ H s'->RelV v w'->Q w' s'):
  wpAny (model X.prog X.w) A (getItem (.ref a) u) Q E s:=by
 rcases g with⟨kvs,k,e,ey,l⟩ | ⟨kvs,k,b,e,ey,eb,l⟩
 ·obtain⟨z,hd,vs,rel,dd⟩:=qm I.hok e
  obtain⟨w',hw,rw'⟩:=lD.some_of (v:=v) (o:=valueAt vs k) (by rw[l];exact rel.val k)
  exact wpAny_getItem_of (ey.is ry) dd.mapOf hw (h w' _ (I.tok _) rw')
 ·subst ey
  cases(show u=Value.ref b from ry)
  obtain⟨z,hd,xs,rel,dd⟩:=rN I.hok e
  obtain⟨w',hw,rw'⟩:=lD.some_of (v:=v) (o:=(atKey xs k).map (·.2)) (by rw[l];exact rel.val k)
  obtain⟨p,hp,hp2⟩:=Option.map_eq_some_iff.mp hw
  refine wpAny_getItem_heap (fL hu) (kK I.hok eb) dd hp ?_
  rw[hp2]
  exact h w' _ (I.tok _) rw'
theorem Ez {Q:Value->Shared->Prop}(hu:A.units+20 < cLine) (I:Inv X pins σ H s) (g:iz H a y o) (ry:RelV y u) (h:∀s',Inv X pins σ H s'->Q (.bool (!o.isSome)) s'):
  wpAny (model X.prog X.w) A (compareOp .NotIn u (.ref a)) Q E s:=by
 rcases g with⟨kvs,k,e,ey,l⟩ | ⟨kvs,k,b,e,ey,eb,l⟩
 ·obtain⟨z,hd,vs,rel,dd⟩:=qm I.hok e
  refine wpAny_notIn_of (ey.is ry) hd dd.mapOf ?_
  rw[<-(rel.val k).pD,<-l]
  exact h _ (I.tok _)
 ·subst ey
  cases(show u=Value.ref b from ry)
  obtain⟨z,hd,xs,rel,dd⟩:=rN I.hok e
  refine wpAny_notIn_heap (fL hu) (kK I.hok eb) hd dd ?_
  have q:=(rel.val k).pD
  rw[Option.isSome_map] at q
  rw[<-q,<-l]
  exact h _ (I.tok _)
theorem nX {h':Heap}{t':Nat}{ob:HO}(I:Inv X pins σ H s) (mu:Kw (H a)) (hs:Heap.SameBut a s.heap h') (he:∃q,h'.get? a=some q) (new:ff X.prog X.w (upd H a ob) h' a ob):
  Inv X pins σ (upd H a ob) {s with heap:=h',toks:=t'}:=
 I.write (x:=a) (e:=a) mu (.inl rfl) (fun b q hb z=>(hs.2 b hb).trans z) he new
theorem vd {P:Program}{w:World}{H':Hp}{h':Heap}{kvs:List (Key×V)}{vs:List (Key×Value)}(z:kvs.length<=sizeLine) (hd:(a == sysModules)=false) (rel:KV kvs vs) (dd:h'.DictOf (fW P w) a vs):
  ff P w H' h' a (.dK kvs):=⟨z,hd,vs,rel,dd⟩
theorem A1 {H':Hp}{Q:Unit->Shared->Prop}(hu:A.units+20 < cLine) (I:Inv X pins σ H s) (g:rO H a y v H') (ry:RelV y u) (rv:RelV v r) (h:∀s',Inv X pins σ H' s'->Q () s'):
  wpAny (model X.prog X.w) A (setItem (.ref a) u r) Q E s:=by
 rcases g with⟨kvs,k,e,ey,l,eH⟩ | ⟨kvs,k,b,e,ey,eb,l,eH⟩
 ·subst eH
  obtain⟨z,hd,vs,rel,dd⟩:=B7 I.hok e
  have hz:vs.length<=sizeLine:=by rw[<-rel.length];exact z
  have hl:(putK kvs k v).length<=sizeLine:=by have:=je kvs k v;omega
  refine wpAny_setItem_pairs (hsz:=hz) (ey.is ry) dd fun h' BI hs=>h _ ?_
  have he:∃q,h'.get? a=some q:=let⟨q,_,_,hq,_⟩:=BI;⟨q,hq⟩
  exact nX I (by rw[e];exact True.intro) hs he (vd hl hd (rel.put k rv) BI)
 ·subst ey eH
  cases(show u=Value.ref b from ry)
  obtain⟨z,hd,xs,rel,dd⟩:=B9 I.hok e
  have hz:xs.length<=sizeLine:=by rw[<-Paired.length rel];exact z
  have hl:(putK kvs k v).length<=sizeLine:=by have:=je kvs k v;omega
  refine wpAny_setItem_heap (hsz:=hz) (fL hu) (kK I.hok eb) dd fun h' BI hs=>h _ ?_
  obtain⟨q,es,ep,hq,h2,h3,h4,_,h5⟩:=BI
  refine nX I (by rw[e];exact True.intro) hs ⟨q,hq⟩ ⟨hl,hd,_,(rel.put k eb rv).keeps fun c ys ec=>?_,q,es,ep,hq,h2,h3,h4,h5⟩
  rw[aE (Gq ec e (fun z=>nomatch z))]
  exact ec
end
section
variable {X:Cx}{pins:List (Addr×Obj)}{σ:St}{H:Hp}{s:Shared}{a:Addr}{kvs:List (Key×V)}{k:Key}{u:Value}{A:Around}{E:Value->Shared->Prop}
theorem K6 {Q:Value->Shared->Prop}(I:Inv X pins σ H s) (e:Rd H a (.dK kvs)) (h:∀t s',Inv X pins σ H s'->Q (.int kvs.length t) s'):wpAny (model X.prog X.w) A (call (.builtin "len") [.ref a]) Q E s:=by
 obtain⟨z,hd,vs,rel,dd⟩:=qm I.hok e
 refine call_len_dict hd dd (by rw[<-rel.length];rw[sizeLine_eq] at z;omega) ?_
 rw[<-rel.length]
 exact h _ _ (I.tok _)
end
noncomputable def K7 (i:Expr):Prop:=∀ov iv,subscripted i false ov iv=operate [ov,iv] (getItem ov iv)
theorem EA {prog:Program}{w:World}{A:Around}{E:Value->Shared->Prop}{s:Shared}{env:Env}{value slice:Expr}{pos:Pos}{T id:String}{Q:Value->Shared->Prop}
  (hl:typeLookup (.type T) "__getitem__" =pure (some (.builtin id))) (hs:K7 slice)
  (h:wpAny (model prog w) A (eval value env) (fun o s₁=>wpAny (model prog w) A (eval slice env) (fun i s₂=>s₂.TypeIs o T/\wpAny (model prog w) A (getItem o i) Q E s₂) E s₁) E s):
  wpAny (model prog w) A (eval (.Subscript value slice pos) env) Q E s:=by
 refine Subscript_ (wpAny_mono h (fun o s₁ h₁=>wpAny_mono h₁ (fun i s₂ h₂=>?_) fun _ _ x=>x) fun _ _ x=>x)
 obtain⟨hT,h₂⟩:=h₂
 unfold subscriptTail
 refine wpAny_bind ?_
 rw[getitemInPython_of_ne hT.not_modules]
 refine wpAny_bind (wpAny_specialOf hT hl ?_)
 have fin:wpAny (model prog w) A (subscripted slice false o i) (fun r s₃=>wpAny (model prog w) A (letTemporaryGo value o r >>= fun _=>pure r) Q E s₃) E s₂:=by
  rw[hs o i]
  exact wpAny_operating (wpAny_mono h₂ (fun r s₃ h₃=>wpAny_bind (wpAny_letTemporaryGo (wpAny_pure h₃))) fun _ _ x=>x)
 first
  | exact wpAny_pure (wpAny_bind fin)
  | exact wpAny_bind (wpAny_pure (wpAny_bind fin))
  | exact wpAny_bind fin
theorem wI {X:Cx}{pins:List (Addr×Obj)}{σ:St}{H:Hp}{s:Shared}{a:Addr}{y:V}{o:Option V}(I:Inv X pins σ H s) (g:iz H a y o):s.TypeIs (.ref a) "dict":=by
 rcases g with⟨kvs,k,e,_,_⟩ | ⟨kvs,k,b,e,_,_,_⟩
 ·obtain⟨_,_,vs,_,dd⟩:=qm I.hok e
  exact dd.typeIs
 ·obtain⟨_,_,xs,_,dd⟩:=rN I.hok e
  exact dd.typeIs
noncomputable def K8 (td ty:TE):TE:=fun σ H Q=>td σ H fun x H1=>ty σ H1 fun y H2=>∃a v,x= .ref a/\iz H2 a y (some v)/\Q v H2
noncomputable def zQ (ty td:TE):TE:=fun σ H Q=>ty σ H fun y H1=>td σ H1 fun x H2=>∃a o,x= .ref a/\iz H2 a y o/\Q (.bl (!o.isSome)) H2
noncomputable def K9 (td ty tv:TE):TS:=fun D σ H=>tv σ H fun v H1=>td σ H1 fun x H2=>ty σ H2 fun y H3=>∃a H4,x= .ref a/\rO H3 a y v H4/\D.nx σ H4
section
variable {X:Cx}{o i e value:Expr}{pos pos' tpos:Pos}{td ty tv:TE}
theorem zR (hu:X.A.units+20 < cLine) (ho:PE X o td) (hi:PE X i ty) (hs:K7 i):PE X (.Subscript o i pos) (K8 td ty):=by
 intro pins s σ H Q I h
 refine EA PySem.F.slot_dict_getitem.lookup hs (fM (ho pins s σ H _ I h) fun u s1 ⟨x,H1,I1,rx,q1⟩=>fM (hi pins s1 σ H1 _ I1 q1) fun iv s2 ⟨y,H2,I2,ry,a,v,ex,g,q2⟩=>?_)
 subst ex
 obtain rfl:u=Value.ref a:=rx
 exact⟨wI I2 g,A0 hu I2 g ry fun w' s3 I3 rw'=>⟨v,H2,I3,rw',q2⟩⟩
theorem A2 (hu:X.A.units+20 < cLine) (hi:PE X i ty) (ho:PE X o td):PC X .NotIn i o (zQ ty td):=by
 intro pins s σ H Q I h
 refine fM (hi pins s σ H _ I h) fun iv s1 ⟨y,H1,I1,ry,q1⟩=>fM (ho pins s1 σ H1 _ I1 q1) fun u s2 ⟨x,H2,I2,rx,a,ov,ex,g,q2⟩=>?_
 subst ex
 obtain rfl:u=Value.ref a:=rx
 exact Ez hu I2 g ry fun s3 I3=>⟨.bl (!ov.isSome),H2,I3,rfl,q2⟩
theorem zS (hu:X.A.units+20 < cLine) (ho:PE X o td) (hi:PE X i ty) (hv:PE X value tv) (hs:swapsWith value (some (.Subscript o i pos')) pos.line X.env=pure false):
  PS X (.Assign [.Subscript o i pos'] value pos) (K9 td ty tv):=by
 intro pins s σ H D I h
 refine wpAny_Assign_Subscript (fM (hv pins s σ H _ I h) fun r s1 ⟨v,H1,I1,rv,q1⟩=>fM (ho pins s1 σ H1 _ I1 q1) fun u s2 ⟨x,H2,I2,rx,q2⟩=>fM (hi pins s2 σ H2 _ I2 q2) fun iv s3 ⟨y,H3,I3,ry,a,H4,ex,g,q3⟩=>?_) hs
 subst ex
 obtain rfl:u=Value.ref a:=rx
 exact A1 hu I3 g ry rv fun s4 I4=>⟨σ,H4,I4,q3⟩
end
theorem wJ {P:Program}{w:World}{H:Hp}(h:Heap) (hb:sysModules < h.objs.size):ff P w H (h.push {cls:=.type "dict",data:=.dict #[]}) h.objs.size (.dK []):=
 ⟨Nat.zero_le _,beq_eq_false_iff_ne.mpr (Ne.symm (Nat.ne_of_lt hb)),[],.nil,Heap.DictOf.new h⟩
theorem Ca {P:Program}{w:World}{H:Hp}(h:Heap) (hb:sysModules < h.objs.size):ff P w H (h.push {cls:=.type "dict",data:=.dict #[]}) h.objs.size (.dT []):=
 ⟨Nat.zero_le _,beq_eq_false_iff_ne.mpr (Ne.symm (Nat.ne_of_lt hb)),[],.nil,_,#[],0,Heap.get?_push_size _ rfl,⟨rfl,rfl,rfl⟩,rfl,rfl,List.nodup_nil⟩
noncomputable def HJ:TE:=fun _ H Q=>∀p,H p=none->Q (.ref p) (upd H p (.dK []))
noncomputable def HK:TE:=fun _ H Q=>∀p,H p=none->Q (.ref p) (upd H p (.dT []))
section
variable {X:Cx}{pos:Pos}
theorem Cb:PE X (.Dict [] [] pos) HJ:=fun pins s σ H Q I h=>
 wpAny_Dict_empty ⟨.ref s.heap.objs.size,_,I.laid (a:=s.heap.objs.size) (o:=.dK []) (t':=s.toks) (fun _ _ q=>Heap.get?_push_of_some _ q) (Nat.le_refl _) (wJ s.heap I.big),rfl,h _ (I.hok.fresh (Nat.le_refl _))⟩
theorem Cc:PE X (.Dict [] [] pos) HK:=fun pins s σ H Q I h=>
 wpAny_Dict_empty ⟨.ref s.heap.objs.size,_,I.laid (a:=s.heap.objs.size) (o:=.dT []) (t':=s.toks) (fun _ _ q=>Heap.get?_push_of_some _ q) (Nat.le_refl _) (Ca s.heap I.big),rfl,h _ (I.hok.fresh (Nat.le_refl _))⟩
end
noncomputable def yO:List (TE×TE)->St->Hp->(List (V×V)->Hp->Prop)->Prop
 | [],_,H,Q=>Q [] H
 | (tk,tv) :: r,σ,H,Q=>tk σ H fun x H1=>tv σ H1 fun y H2=>yO r σ H2 fun ps H3=>Q ((x,y) :: ps) H3
noncomputable abbrev VV:List (V×V)->List (Value×Value)->Prop:=Paired fun p q=>RelV p.1 q.1/\RelV p.2 q.2
noncomputable def M9 (X:Cx) (pos:Pos) (keys:List (Option Expr)) (values:List Expr) (EB:List (TE×TE)):Prop:=
 ∀(pins:List (Addr×Obj)) (s:Shared) (σ:St) (H:Hp) (Q:List (V×V)->Hp->Prop),Inv X pins σ H s->yO EB σ H Q->
  wpAny (model X.prog X.w) X.A (evalPairs (pairTrees keys values X.env pos)) (fun vs s'=>∃ps H',Inv X pins σ H' s'/\VV ps vs/\Q ps H') X.xe s
theorem EC {X:Cx}{pos:Pos}:M9 X pos [] [] []:=fun pins s σ H Q I h=>pairTrees_nil_walk ⟨[],H,I,.nil,h⟩
theorem Cd {X:Cx}{pos:Pos}{k v:Expr}{ks:List (Option Expr)}{vs:List Expr}{tk tv:TE}{EB:List (TE×TE)}(hk:PE X k tk) (hv:PE X v tv) (hr:M9 X pos ks vs EB):
  M9 X pos (some k :: ks) (v :: vs) ((tk,tv) :: EB):=fun pins s σ H Q I h=>
 pairTrees_cons_walk (fM (hk pins s σ H _ I h) fun u s1 ⟨x,H1,I1,rx,q1⟩=>fM (hv pins s1 σ H1 _ I1 q1) fun w2 s2 ⟨y,H2,I2,ry,q2⟩=>
  fM (hr pins s2 σ H2 _ I2 q2) fun ws s3 ⟨ps,H3,I3,rel,q3⟩=>⟨(x,y) :: ps,H3,I3,.cons ⟨rx,ry⟩ rel,q3⟩)
noncomputable def pF (kvs more:List (Key×V)):List (Key×V):=more.foldl (fun acc kv=>putK acc kv.1 kv.2) kvs
theorem KV.merge:∀{more:List (Key×V)}{rs:List (Key×Value)}{kvs:List (Key×V)}{vs:List (Key×Value)},KV more rs->KV kvs vs->KV (pF kvs more) (merged vs rs):=by
 intro more rs kvs vs r
 unfold KV at r
 induction r generalizing kvs vs with
 | nil=>intro q;exact q
 | @cons p q ps qs h t ih=>
  intro r0
  have e:KV (putK kvs p.1 p.2) (stored vs q.1 q.2):=by
   have:=r0.put p.1 h.2
   rw[<-h.1];exact this
  exact ih e
theorem m6:∀(more kvs:List (Key×V)),(pF kvs more).length<=kvs.length+more.length
 | [],kvs=>by show kvs.length<=kvs.length+0;omega
 | p :: r,kvs=>by
  have h1:=m6 r (putK kvs p.1 p.2)
  have h2:=je kvs p.1 p.2
  show(pF (putK kvs p.1 p.2) r).length<=_
  rw[List.length_cons];omega
theorem rQ {P:Program}{w:World}:∀{kvs:List (Key×V)}{ws:List (Value×Value)},VV (kvs.map fun kv=>(kV kv.1,kv.2)) ws->∃rs,Carries (fW P w) ws rs/\KV kvs rs
  | [],_,r=>by rw[List.map_nil] at r;cases r;exact⟨[],True.intro,.nil⟩
  | p :: kvs, _, r => by
    rw[List.map_cons] at r
    cases r with
    | @cons a b as bs h t=>
      obtain⟨rs,c,q⟩:=rQ (P:=P) (w:=w) t
      obtain⟨b1,b2⟩:=b
      exact⟨(p.1,b2) :: rs,⟨Gz h.1,rfl,c⟩,.cons ⟨rfl,h.2⟩ q⟩
noncomputable def La (EB:List (TE×TE)):TE:=fun σ H Q=>∀p,H p=none->yO EB σ (upd H p (.dK [])) fun ps H2=>H2 p=some (.dK [])/\∃kvs:List (Key×V),ps=kvs.map (fun kv=>(kV kv.1,kv.2))/\kvs.length<=15/\Q (.ref p) (upd H2 p (.dK (pF [] kvs)))
theorem ED {X:Cx}{pos:Pos}{keys:List (Option Expr)}{values:List Expr}{EB:List (TE×TE)}(h:M9 X pos keys values EB) (hall:keys.all (·.isSome)=true) (hl:keys.length=values.length) (h0:keys≠[])
  (Uj:keys.length<=15):PE X (.Dict keys values pos) (La EB):=by
 intro pins s σ H Q I q
 have hn:=I.hok.fresh (Nat.le_refl s.heap.objs.size)
 have I1:=I.laid (a:=s.heap.objs.size) (o:=.dK []) (h':=s.heap.push {cls:=.type "dict",data:=.dict #[]}) (t':=s.toks) (fun _ _ q=>Heap.get?_push_of_some _ q) (Nat.le_refl _) (wJ s.heap I.big)
 refine wpAny_Dict_walk (knd:=fW X.prog X.w) hall hl h0 Uj (fM (h pins _ σ _ _ I1 (q _ hn)) fun ws s2 ⟨ps,H2,I2,rel,e,kvs,ep,lk,q2⟩=>?_)
 subst ep
 obtain⟨rs,c,rk⟩:=rQ (P:=X.prog) (w:=X.w) rel
 obtain⟨z,hd,SR,r0,dd⟩:=B7 I2.hok e
 cases r0
 refine⟨rs,c,dd,fun h' BI hs=>⟨.ref s.heap.objs.size,_,?_,rfl,q2⟩⟩
 have hz:(pF [] kvs).length<=sizeLine:=by
  have h1:=m6 kvs []
  rw[List.length_nil] at h1
  rw[sizeLine_eq];omega
 have he:∃q,h'.get? s.heap.objs.size=some q:=let⟨q,_,_,hq,_⟩:=BI;⟨q,hq⟩
 exact nX I2 (by rw[e];exact True.intro) hs he (vd hz hd (rk.merge .nil) BI)
structure M2 (X:Cx) (o:Expr) (m:Str) (apos:Pos) (e f:Expr) (cpos:Pos):Prop where
 base:attributeBase o m X.env (eval o X.env)=eval o X.env
 few:((backTo cpos (starEach [e,f] X.env)).all (fun x=>!x.1) && (backToKw cpos (keywordEach [] X.env)).all (fun x=>x.1.isSome)
  && decide (([e,f]:List Expr).length+([]:List Keyword).length+(if([]:List Keyword).isEmpty then 0 else 1) < 30))=true
 line:(apos.endLine == cpos.line)=true
 trees:backTo cpos (starEach [e,f] X.env)=[(false,eval e X.env),(false,eval f X.env)]
noncomputable def Na (H:Hp) (a:Addr):Prop:=(∃kvs,Rd H a (.dK kvs))\/∃kvs,Rd H a (.dT kvs)
theorem Ce {X:Cx}{pins:List (Addr×Obj)}{σ:St}{H:Hp}{s:Shared}{a:Addr}(I:Inv X pins σ H s) (d:Na H a):
  s.TypeIs (.ref a) "dict"/\(∀b,Value.ref a= .ref b->∃ob,s.heap.get? b=some ob/\ob.dict=none)/\(a == sysModules)=false:=by
 rcases d with⟨kvs,e⟩ | ⟨kvs,e⟩
 ·obtain⟨_,hd,vs,_,dd⟩:=qm I.hok e
  refine⟨dd.typeIs,fun b q=>?_,hd⟩
  cases q
  obtain⟨ob,_,_,h1,h2,_⟩:=dd
  exact⟨ob,h1,h2.2.1⟩
 ·obtain⟨_,hd,xs,_,dd⟩:=rN I.hok e
  refine⟨dd.typeIs,fun b q=>?_,hd⟩
  cases q
  obtain⟨ob,_,_,h1,h2,_⟩:=dd
  exact⟨ob,h1,h2.2.1⟩
section
variable {X:Cx}{pins:List (Addr×Obj)}{σ:St}{H:Hp}{s:Shared}{a:Addr}{y d:V}{u r:Value}{o:Option V}{A:Around}{E:Value->Shared->Prop}
theorem HL {Q:Value->Shared->Prop}(hu:A.units+20 < cLine) (I:Inv X pins σ H s) (g:iz H a y o) (ry:RelV y u) (rd:RelV d r) (h:∀w' s',Inv X pins σ H s'->RelV (o.getD d) w'->Q w' s'):
  wpAny (model X.prog X.w) A (call (.builtin "dict.get") [.ref a,u,r]) Q E s:=by
 rcases g with⟨kvs,k,e,ey,l⟩ | ⟨kvs,k,b,e,ey,eb,l⟩
 ·obtain⟨z,hd,vs,rel,dd⟩:=qm I.hok e
  refine call_meetsIn PySem.F.slot_dict_get dd.typeIs PySem.F.entry_dict_get (PySem.F.args_dict_get_3 _ _ _) (meets_dict_get_default (fW X.prog X.w) a (ey.is ry) hd r) ⟨_,dd.mapOf,h _ _ (I.tok _) ?_⟩
  rw[l]
  exact(rel.val k).getD rd
 ·subst ey
  cases(show u=Value.ref b from ry)
  obtain⟨z,hd,xs,rel,dd⟩:=rN I.hok e
  refine call_meetsIn PySem.F.slot_dict_get dd.typeIs PySem.F.entry_dict_get (PySem.F.args_dict_get_3 _ _ _) (meetsH_dict_get_default (iC X.prog X.w) a b hd r) ⟨fL hu,k,xs,kK I.hok eb,dd,h _ _ (I.tok _) ?_⟩
  rw[l]
  exact(rel.val k).getD rd
end
noncomputable def HM (td ty tx:TE):TE:=fun σ H Q=>td σ H fun x H1=>∃a,x= .ref a/\Na H1 a/\ty σ H1 fun y H2=>tx σ H2 fun z H3=>∃o,iz H3 a y o/\Q (o.getD z) H3
section
variable {X:Cx}{o e f:Expr}{apos cpos:Pos}{td ty tx:TE}
theorem Cf (hu:X.A.units+20 < cLine) (ho:PE X o td) (he:PE X e ty) (hf:PE X f tx) (m:M2 X o "get" apos e f cpos):PE X (.Call (.Attribute o "get" apos) [e,f] [] cpos) (HM td ty tx):=by
 intro pins s σ H Q I h
 refine wpAny_Call_method m.base m.few m.line PySem.F.plainAttrs_dict PySem.F.slot_dict_get PySem.F.type_dict_get (fM (ho pins s σ H _ I h) fun u s1 ⟨x,H1,I1,rx,a,ex,d,q1⟩=>?_)
 subst ex
 obtain rfl:u=Value.ref a:=rx
 obtain⟨t1,t2,_⟩:=Ce I1 d
 refine⟨t1,t2,?_⟩
 rw[m.trees]
 refine Calls.callWith_builtin rfl (Calls.evalArgs_plain (Calls.spliced_cons (fM (he pins s1 σ H1 _ I1 q1) fun iv s2 ⟨y,H2,I2,ry,q2⟩=>
  Calls.spliced_cons (fM (hf pins s2 σ H2 _ I2 q2) fun fv s3 ⟨z,H3,I3,rz,ov,g,q3⟩=>Calls.spliced_nil ?_))))
 exact HL hu I3 g ry rz fun w' s4 I4 rw'=>⟨_,H3,I4,rw',q3⟩
end
section
variable {X:Cx}{pins:List (Addr×Obj)}{σ:St}{H:Hp}{s:Shared}{a:Addr}{kvs:List (Key×V)}{A:Around}{E:Value->Shared->Prop}
end
section
variable {X:Cx}{pins:List (Addr×Obj)}{σ:St}{H:Hp}{s:Shared}{a:Addr}{y:V}{u:Value}{A:Around}{E:Value->Shared->Prop}
end
end L2
namespace HT
open PySem PyProof.Rows
section
open PySem.SeqAt
open PySem.AutoSeq1 (wpAny_loadPart')
open PySem.MeetsSeq PySem.MeetsSeq2 PySem.MeetsSeq3
end
section
variable {prog:Program}{w:World}{A:Around}{E:Value->Shared->Prop}{s:Shared}
theorem EE {t b:Addr}{vs ws:List Value}{Q:Value->Shared->Prop}(ht:IsTup s.heap t vs.toArray) (hb:IsTup s.heap b ws.toArray) (hv:vs≠[])
  (h1:ws=[]->Q (.ref t) s) (h2:ws≠[]->Q (.ref s.heap.objs.size) {s with heap:=s.heap.push {cls:=.type "tuple",data:=.seq (vs++ws).toArray}})
  (hsz:vs.length+ws.length<=sizeLine):wpAny (model prog w) A (binaryOp .Add (.ref t) (.ref b)) Q E s:=by
 obtain⟨⟨cls,dd,data,sl⟩,ho,hc,n,hd⟩:=id ht
 obtain⟨⟨OH,dd2,data2,sl2⟩,ho2,hc2,n2,hd2⟩:=id hb
 simp only at hc hd hc2 hd2
 subst hc hd hc2 hd2
 have e:vs.toArray++ws.toArray=(vs++ws).toArray:=by simp
 by_cases hw:ws=[]
 ·exact concat_meets ⟨_,ho,rfl⟩ ⟨_,ho2,rfl⟩ noFill_tuple_add seq_tuple_add PySem.F.slot_tuple_add PySem.F.entry_tuple_add (PySem.F.args_tuple_add_2 _ _)
   (tuple_addW1 t b vs.toArray ws.toArray n n2 dd dd2 sl sl2 (by simpa using hv) (by simp[hw])) ⟨ho,ho2,h1 hw⟩
 ·refine concat_meets ⟨_,ho,rfl⟩ ⟨_,ho2,rfl⟩ noFill_tuple_add seq_tuple_add PySem.F.slot_tuple_add PySem.F.entry_tuple_add (PySem.F.args_tuple_add_2 _ _)
   (tuple_addW2 t b vs.toArray ws.toArray n n2 dd dd2 sl sl2 (by simpa using hv) (by simpa using hw) (by rw[List.size_toArray,List.size_toArray];exact hsz)) ⟨ho,ho2,?_⟩
  rw[e]
  exact h2 hw
noncomputable def yP (n d:Nat):Option Int->Nat
 | none=>d
 | some v=>if v < 0 then(v+(n:Int)).toNat else min v.toNat n
end
end HT
namespace L2
open PySem PySem.Spec PyProof.Rows
noncomputable abbrev TO:=St->Hp->(Option Int->Hp->Prop)->Prop
theorem intsAre_of {ns:List Int}:∀{us:List Value},Vals (ns.map V.int) us->IntsAre us ns:=by
 induction ns with
 | nil=>intro us r;rw[List.map_nil] at r;cases r;exact .nil
 | cons n ns ih=>
  intro us r
  rw[List.map_cons] at r
  cases r with
  | cons r1 r2=>
   obtain⟨t,e⟩:=r1
   subst e
   exact .cons n t (ih r2)
section
variable {X:Cx}{e:Expr}{te:TE}{lo hi:Option Expr}{tl th:TO}{pos p2:Pos}
noncomputable def Uk (X:Cx) (r:V->Option Int->Option Int->Hp->VK->Prop):Prop:=
 ∀(pins:List (Addr×Obj)) (s:Shared) (σ:St) (H:Hp) (x:V) (v vl vu:Value) (lo hi:Option Int) (sl:Addr) (Q:VK),Inv X pins σ H s->RelV x v->s.heap.IsSliceOf sl vl vu .none->IsPart vl lo->IsPart vu hi->r x lo hi H Q->
  ∃T id,typeLookup (.type T) "__getitem__" =pure (some (.builtin id))/\s.TypeIs v T/\wpAny (model X.prog X.w) X.A (getItem v (.ref sl)) (EP X pins σ Q) X.xe s
noncomputable def EF (xs:List V) (lo hi:Option Int):List V:=(xs.drop (HT.yP xs.length 0 lo)).take (HT.yP xs.length xs.length hi - HT.yP xs.length 0 lo)
theorem wK (xs:List V) (lo hi:Option Int):(EF xs lo hi).length<=xs.length:=by
 unfold EF
 rw[List.length_take,List.length_drop]
 omega
noncomputable def Lb (K:PySem.W.Frag):R2:=fun x y H Q=>∃a b xs ys,x= .ref a/\y= .ref b/\u6 K H a xs/\u6 K H b ys/\xs≠[]/\xs.length+ys.length<=sizeLine/\
 (ys=[]->Q (.ref a) H)/\(ys≠[]->∀p,H p=none->Q (.ref p) (upd H p (.tup (xs++ys))))
theorem Vals.ve {xs:List V}{us:List Value}(r:Vals xs us):us=[]↔xs=[]:=by
 cases r with
 | nil=>simp
 | cons _ _=>simp
theorem EG:tR X (binaryOp .Add) (Lb X.K):=by
 intro pins s σ H x y v u Q I rx ry h
 obtain⟨a,b,xs,ys,rfl,rfl,ha,hb,hx,hz,q1,q2⟩:=h
 cases rx
 cases ry
 obtain⟨its,r1,p1,_⟩:=I.tuple ha
 obtain⟨its2,r2,p2,_⟩:=I.tuple hb
 refine HT.EE p1 p2 (fun z=>hx (r1.ve.mp z)) (fun z=>⟨.ref a,H,I,rfl,q1 (r2.ve.mp z)⟩) (fun z=>?_) (by rw[<-r1.length,<-r2.length];exact hz)
 refine⟨.ref s.heap.objs.size,_,I.laid (t':=s.toks) (o:=.tup (xs++ys)) (fun b ob q=>Heap.get?_push_of_some _ q) (Nat.le_refl _) ?_,rfl,q2 (fun w=>z (r2.ve.mpr w)) _ (I.hok.fresh (Nat.le_refl _))⟩
 exact⟨by rw[List.length_append];exact hz,_,r1.append r2,IsTup.new _ _⟩
end
noncomputable def wL (n:Nat) (i:Int):Option Nat:=if 0<=i then(if i < n then some i.toNat else none) else if -(n:Int)<=i then some (i+n).toNat else none
noncomputable def fC {α:Type}(xs:List α) (i:Int):Option α:=(wL xs.length i).bind fun j=>xs[j]?
theorem zT {n:Nat}{i:Int}{j:Nat}(h:wL n i=some j):seqIndex? i n=some j/\j < n/\-(n:Int)<=i/\i < n:=by
 unfold wL at h
 by_cases h0:0<=i
 ·rw[if_pos h0] at h
  by_cases h1:i < n
  ·rw[if_pos h1] at h
   have e:i.toNat=j:=Option.some.inj h
   exact⟨by rw[seqIndex_of h0 h1,e],by omega,by omega,h1⟩
  ·rw[if_neg h1] at h;cases h
 ·rw[if_neg h0] at h
  by_cases h1:-(n:Int)<=i
  ·rw[if_pos h1] at h
   have e:(i+n).toNat=j:=Option.some.inj h
   exact⟨by rw[seqIndex_neg (by omega) h1,e],by omega,h1,by omega⟩
  ·rw[if_neg h1] at h;cases h
theorem vf {α:Type}{xs:List α}{i:Int}{v:α}(h:fC xs i=some v):∃j,seqIndex? i xs.length=some j/\xs[j]? =some v/\j < xs.length/\-(xs.length:Int)<=i/\i < xs.length:=by
 unfold fC at h
 cases e:wL xs.length i with
 | none=>rw[e] at h;cases h
 | some j=>
  rw[e] at h
  obtain⟨h1,h2,h3,h4⟩:=zT e
  exact⟨j,h1,h,h2,h3,h4⟩
noncomputable def qY (b:Expr):Prop:=∀o i,subscripted b false o i=operate [o,i] (getItem o i)
noncomputable def Cg (X:Cx) (r:R2):Prop:=
 ∀(value slice:Expr) (pins:List (Addr×Obj)) (s:Shared) (σ:St) (H:Hp) (x y:V) (v u:Value) (Q:VK),Inv X pins σ H s->RelV x v->RelV y u->r x y H Q->
  subscripted slice false v u=operate [v,u] (getItem v u)->wpAny (model X.prog X.w) X.A (subscriptTail value slice v u) (EP X pins σ Q) X.xe s
noncomputable def OI (X:Cx) (id:String) (r:V->List V->Hp->VK->Prop):Prop:=
 ∀(pins:List (Addr×Obj)) (s:Shared) (σ:St) (H:Hp) (x:V) (xs:List V) (v:Value) (us:List Value) (Q:VK),Inv X pins σ H s->RelV x v->Vals xs us->r x xs H Q->
  wpAny (model X.prog X.w) X.A (call (.builtin id) (v :: us)) (EP X pins σ Q) X.xe s
section
variable {X:Cx}{a b:Expr}{ta tb:TE}{pos:Pos}
theorem Cg.or {r r':R2}(h:Cg X r) (h':Cg X r'):Cg X (fun x y H Q=>r x y H Q\/r' x y H Q):=by
 intro value slice pins s σ H x y v u Q I rx ry q hs
 rcases q with q | q
 ·exact h value slice pins s σ H x y v u Q I rx ry q hs
 ·exact h' value slice pins s σ H x y v u Q I rx ry q hs
theorem zU {r:R2}(hr:Cg X r) (ha:PE X a ta) (hb:PE X b tb) (hs:qY b):PE X (.Subscript a b pos) (J6 r ta tb):=by
 intro pins s σ H Q I h
 exact Subscript_ (Hv ha hb I h fun v u s2 x y H2 I2 rx ry q=>hr a b pins s2 σ H2 x y v u Q I2 rx ry q (hs _ _))
noncomputable def Lc (K:PySem.W.Frag):R2:=fun x y H Q=>∃p xs i v,x= .ref p/\y= .int i/\nB K H p xs/\fC xs i=some v/\Q v H
noncomputable def Ld (K:PySem.W.Frag):R2:=fun x y H Q=>∃p xs i v,x= .ref p/\y= .int i/\u6 K H p xs/\fC xs i=some v/\Q v H
noncomputable def Le:R2:=fun x y H Q=>∃z i c,x= .str z/\y= .int i/\z.length<=sizeLine/\fC z.cps.toList i=some c/\Q (.str ⟨#[c]⟩) H
theorem vg:Cg X (Lc X.K):=by
 intro value slice pins s σ H x y v u Q I rx ry h hs
 obtain⟨p,xs,i,z,rfl,rfl,hq,he,q⟩:=h
 cases rx
 obtain⟨t,rfl⟩:=ry
 obtain⟨its,r,pl,hz⟩:=I.list hq
 obtain⟨j,h1,h2,h3,h4,h5⟩:=vf he
 obtain⟨w,ew,rw'⟩:=r.get h2
 have hl:=r.length
 have hn:=pB
 have fin:EP X pins σ Q w s:=⟨z,H,I,rw',q⟩
 by_cases h0:0<=i
 ·have hj:i.toNat=j:=by
   rw[seqIndex_of h0 h5] at h1
   exact Option.some.inj h1
  exact item_listR pl.isList h0 (by omega) (by rw[hj];simpa using ew) fin hs
 ·have hj:(i+(its.toArray.size:Int)).toNat=j:=by
   rw[seqIndex_neg (by omega) h4] at h1
   rw[List.size_toArray,<-hl]
   exact Option.some.inj h1
  exact subscriptTail_builtinR (x:=w) pl.isList.typeIs slot_list_getitem.lookup
   (wpAny_getItem_list_neg (Q:=fun r s'=>r=w/\EP X pins σ Q r s') pl.isList (by omega) (by rw[List.size_toArray] <;> omega) (by omega) (by rw[hj];simpa using ew) ⟨rfl,fin⟩) hs
theorem Ci:Cg X (Ld X.K):=by
 intro value slice pins s σ H x y v u Q I rx ry h hs
 obtain⟨p,xs,i,z,rfl,rfl,hq,he,q⟩:=h
 cases rx
 obtain⟨t,rfl⟩:=ry
 obtain⟨its,r,pl,hz⟩:=I.tuple hq
 obtain⟨j,h1,h2,h3,h4,h5⟩:=vf he
 obtain⟨w,ew,rw'⟩:=r.get h2
 have hl:=r.length
 have hn:=pB
 have fin:EP X pins σ Q w s:=⟨z,H,I,rw',q⟩
 exact subscriptTail_builtinR (x:=w) pl.typeIs slot_tuple_getitem.lookup
  (getItem_tuple (j:=j) (Q:=fun r s'=>r=w/\EP X pins σ Q r s') pl (by omega) (by omega) (by rw[List.size_toArray,<-hl];exact h1) (by simpa using ew) ⟨rfl,fin⟩) hs
theorem Cj:Cg X Le:=by
 intro value slice pins s σ H x y v u Q I rx ry h hs
 obtain⟨z,i,c,rfl,rfl,hz,he,q⟩:=h
 obtain⟨t,rfl⟩:=rx
 obtain⟨t',rfl⟩:=ry
 obtain⟨j,h1,h2,h3,h4,h5⟩:=vf he
 have hl:z.cps.toList.length=z.length:=by simp[Str.length]
 rw[hl] at h1 h4 h5
 have hn:=pB
 exact tail_any (typeIs_str s z t) slot_str_getitem.lookup (getItem_str (c:=c) (by
  have e1:decide (i < -(2 ^ 63:Int))=false:=decide_eq_false (by omega)
  have e2:decide (i≥2 ^ 63)=false:=decide_eq_false (by omega)
  rw[e1,e2,Bool.or_false]) (by rw[h1];simpa using h2) ⟨.str ⟨#[c]⟩,H,I.tok _,⟨_,rfl⟩,q⟩) hs
noncomputable def Ul (K:PySem.W.Frag):R2:=fun x y H Q=>Lc K x y H Q\/Ld K x y H Q\/Le x y H Q
theorem Ck:Cg X (Ul X.K):=vg.or (Ci.or Cj)
theorem yQ (its:List Value) (n j:Nat) (u:Value):Obj.mapSeq (·.setIfInBounds j u) {cls:=.type "list",data:=.seq its.toArray n}={cls:=.type "list",data:=.seq (its.set j u).toArray n}:=by
 simp[Obj.mapSeq]
theorem Inv.lst {pins:List (Addr×Obj)}{σ:St}{H:Hp}{s:Shared}{p:Addr}{xs:List V}(I:Inv X pins σ H s) (h:H p=some (.lst xs)):
  ∃(its:List Value) (n:Nat),Vals xs its/\s.heap.get? p=some {cls:=.type "list",data:=.seq its.toArray n}/\xs.length<=sizeLine:=by
 obtain⟨z,its,n,r,e⟩:=I.hok p _ h
 exact⟨its,n,r,e,z⟩
theorem Inv.HN {pins:List (Addr×Obj)}{σ:St}{H:Hp}{s:Shared}{p:Addr}{xs ys:List V}{its its':List Value}{n n':Nat}{f:Obj->Obj}(I:Inv X pins σ H s) (h:H p=some (.lst xs))
  (ho:s.heap.get? p=some {cls:=.type "list",data:=.seq its.toArray n}) (hf:f {cls:=.type "list",data:=.seq its.toArray n}={cls:=.type "list",data:=.seq its'.toArray n'}) (r:Vals ys its') (hz:ys.length<=sizeLine) (t:Nat):
  Inv X pins σ (upd H p (.lst ys)) {s with heap:=s.heap.update p f,toks:=t}:=by
 have e:(s.heap.update p f).get? p=some {cls:=.type "list",data:=.seq its'.toArray n'}:=by
  rw[Heap.get?_update_self f ho (by rw[hf] <;> rfl),hf]
 refine I.write (x:=p) (e:=p) (by rw[h];trivial) (.inl rfl) (fun b u hb q=>(Heap.get?_update_other _ _ (Ne.symm hb)).trans q) ⟨_,e⟩ ?_
 exact⟨hz,its',n',r,e⟩
noncomputable def Lf:V->V->V->Hp->(Hp->Prop)->Prop:=fun o i v H Q=>∃p xs k j,o= .ref p/\i= .int k/\H p=some (.lst xs)/\wL xs.length k=some j/\Q (upd H p (.lst (xs.set j v)))
theorem set_list:KN X Lf:=by
 intro pins s σ H o i v ov iv u Q I ro ri rv h
 obtain⟨p,xs,k,j,rfl,rfl,hp,hj,q⟩:=h
 cases ro
 obtain⟨t,rfl⟩:=ri
 obtain⟨its,n,r,ho,hz⟩:=I.lst hp
 obtain⟨h1,h2,h3,h4⟩:=zT hj
 have hl:=r.length
 have hn:=pB
 have I':Inv X pins σ (upd H p (.lst (xs.set j v))) {s with heap:=s.heap.update p (Obj.mapSeq (·.setIfInBounds j u))}:=
  I.HN hp ho (yQ its n j u) (r.set rv j) (by rw[List.length_set];exact hz) s.toks
 by_cases h0:0<=k
 ·have hk:k.toNat=j:=by
   rw[seqIndex_of h0 h4] at h1
   exact Option.some.inj h1
  exact PySem.W.ki_setAt ho h0 (by omega) (by rw[List.size_toArray,<-hl];exact h4) (by rw[hk];exact⟨_,I',q⟩)
 ·have hk:(k+(its.toArray.size:Int)).toNat=j:=by
   rw[seqIndex_neg (by omega) h3] at h1
   rw[List.size_toArray,<-hl]
   exact Option.some.inj h1
  exact PySem.W.ki_setBack ho (by omega) (by rw[List.size_toArray,<-hl];exact h3) (by omega) (by rw[hk];exact⟨_,I',q⟩)
theorem vh (lo hi:Option Int) (n:Nat):(sliceBounds lo hi none n).1=((HT.yP n 0 lo:Nat):Int)/\(sliceBounds lo hi none n).2.1=((HT.yP n n hi:Nat):Int)/\(sliceBounds lo hi none n).2.2=1:=by
 refine⟨?_,?_,rfl⟩
 ·cases lo with
  | none=>simp[sliceBounds,HT.yP]
  | some i=>
   simp only[sliceBounds,HT.yP,Option.getD_none,show(1:Int) > 0 by decide,if_true]
   by_cases h:i < 0
   ·simp only[h,if_true] <;> omega
   ·simp only[h,if_false] <;> omega
 ·cases hi with
  | none=>simp[sliceBounds,HT.yP]
  | some i=>
   simp only[sliceBounds,HT.yP,Option.getD_none,show(1:Int) > 0 by decide,if_true]
   by_cases h:i < 0
   ·simp only[h,if_true] <;> omega
   ·simp only[h,if_false] <;> omega
theorem tT (its:List Value) (lo hi:Option Int):slicePick its.toArray lo hi none=((its.drop (HT.yP its.length 0 lo)).take (HT.yP its.length its.length hi - HT.yP its.length 0 lo)).toArray:=by
 obtain⟨h1,h2,h3⟩:=vh lo hi its.toArray.size
 unfold slicePick
 rw[h1,h2,h3]
 simp only[sliceRange_one,pick_run,List.size_toArray] <;> rfl
noncomputable def OJ (K:PySem.W.Frag):V->Option Int->Option Int->Hp->VK->Prop:=fun x lo hi H Q=>∃a xs,x= .ref a/\nB K H a xs/\∀p,H p=none->Q (.ref p) (upd H p (.lst (EF xs lo hi)))
theorem Nb:Uk X (OJ X.K):=by
 intro pins s σ H x v vl vu lo hi sl Q I rx hs pl pu h
 obtain⟨a,xs,rfl,hx,q⟩:=h
 cases rx
 obtain⟨its,r,ht,hz⟩:=I.list hx
 have hlen:=r.length
 refine⟨"list",_,slot_list_getitem.lookup,ht.isList.typeIs,?_⟩
 refine wpAny_getItem_list_slice ht.isList hs pl pu .none (by simp) ?_ (by rw[List.size_toArray] <;> omega)
 rw[tT,<-hlen]
 refine⟨.ref s.heap.objs.size,_,I.laid (t':=s.toks) (o:=.lst (EF xs lo hi)) (fun b ob q=>Heap.get?_push_of_some _ q) (Nat.le_refl _) ?_,rfl,q _ (I.hok.fresh (Nat.le_refl _))⟩
 exact⟨Nat.le_trans (wK xs lo hi) hz,_,0,(r.drop (HT.yP xs.length 0 lo)).take (HT.yP xs.length xs.length hi - HT.yP xs.length 0 lo),Heap.get?_push_size _ rfl⟩
theorem kM:iG X (.builtin "len") (fun xs H Q=>∃p ys,xs=[.ref p]/\(nB X.K H p ys\/u6 X.K H p ys)/\Q (.int ys.length) H):=by
 intro pins s σ H xs us Q I r h
 obtain⟨p,ys,rfl,hq,q⟩:=h
 obtain⟨u,rfl,rx⟩:=vals1 r
 cases rx
 have hn:=pB
 rcases hq with hq | hq
 ·obtain⟨its,r',pl,hz⟩:=I.list hq
  have hlen:=r'.length
  exact Calls.call_len_list pl.isList (by simp only[List.size_toArray] <;> omega) ⟨.int ys.length,H,I.tok _,⟨s.toks+1,by rw[List.size_toArray,hlen]⟩,q⟩
 ·obtain⟨its,r',pl,hz⟩:=I.tuple hq
  have hlen:=r'.length
  exact len_tuple pl (by simp only[List.size_toArray] <;> omega) ⟨.int ys.length,H,I.tok _,⟨s.toks+1,by rw[List.size_toArray,hlen]⟩,q⟩
theorem nY:iG X (.builtin "len") (fun xs H Q=>∃z,xs=[.str z]/\z.length<=sizeLine/\Q (.int z.length) H):=by
 intro pins s σ H xs us Q I r h
 obtain⟨z,rfl,hz,q⟩:=h
 obtain⟨u,rfl,t,rfl⟩:=vals1 r
 have hn:=pB
 exact len_str (by omega) ⟨.int z.length,H,I.tok _,⟨_,rfl⟩,q⟩
theorem nZ:iG X (.type "list") (fun xs H Q=>∃p ys,xs=[.ref p]/\(nB X.K H p ys\/u6 X.K H p ys)/\∀l,H l=none->Q (.ref l) (upd H l (.lst ys))):=by
 intro pins s σ H xs us Q I r h
 obtain⟨p,ys,rfl,hq,q⟩:=h
 obtain⟨u,rfl,rx⟩:=vals1 r
 cases rx
 have fin:∀(its:List Value),Vals ys its->ys.length<=sizeLine->∀(h':Heap) (c':Nat),(∀b o',s.heap.get? b=some o'->h'.get? b=some o')->
   h'.get? s.heap.objs.size=some {cls:=.type "list",dict:=none,data:=.seq its.toArray c',slots:=#[]}->EP X pins σ Q (.ref s.heap.objs.size) {s with heap:=h'}:=fun its r' hz h' c' kp e=>
  ⟨.ref s.heap.objs.size,_,I.laid (t':=s.toks) kp (Nat.le_refl _) (show ff X.prog X.w _ h' _ (.lst ys) from⟨hz,its,c',r',e⟩),rfl,q _ (I.hok.fresh (Nat.le_refl _))⟩
 rcases hq with hq | hq
 ·obtain⟨its,r',pl,hz⟩:=I.list hq
  have hlen:=r'.length
  obtain⟨o,ho,hc,n,hd⟩:=pl.isList
  exact call_list_seq p (.inl rfl) ho hc hd (fun h' c' kp e=>fin its r' hz h' c' kp e) (by simp only[List.size_toArray] <;> omega)
 ·obtain⟨its,r',pl,hz⟩:=I.tuple hq
  have hlen:=r'.length
  obtain⟨o,ho,hc,n,hd⟩:=pl
  exact call_list_seq p (.inr rfl) ho hc hd (fun h' c' kp e=>fin its r' hz h' c' kp e) (by simp only[List.size_toArray] <;> omega)
theorem m8:iG X (.type "tuple") (fun xs H Q=>∃p ys,xs=[.ref p]/\((nB X.K H p ys/\∀l,H l=none->Q (.ref l) (upd H l (.tup ys)))\/(u6 X.K H p ys/\Q (.ref p) H))):=by
 intro pins s σ H xs us Q I r h
 obtain⟨p,ys,rfl,h⟩:=h
 obtain⟨u,rfl,rx⟩:=vals1 r
 cases rx
 rcases h with⟨hq,q⟩ | ⟨hq,q⟩
 ·obtain⟨its,r',pl,hz⟩:=I.list hq
  have hlen:=r'.length
  refine call_tuple_list pl.isList (fun h' kp=>?_) (by simp only[List.size_toArray] <;> omega)
  have I1:Inv X pins σ H {s with heap:=h'}:=I.kept (t':=s.toks) kp
  have I2:Inv X pins σ (upd H h'.objs.size (.tup ys)) {s with heap:=h'.push {cls:=.type "tuple",data:=.seq its.toArray}}:=
   I1.laid (t':=s.toks) (fun b o e=>Heap.get?_push_of_some _ e) (Nat.le_refl _) (show ff X.prog X.w _ _ _ (.tup ys) from⟨hz,its,r',IsTup.new _ _⟩)
  exact⟨.ref h'.objs.size,_,I2,rfl,q _ (I1.hok.fresh (Nat.le_refl _))⟩
 ·obtain⟨its,r',pl,hz⟩:=I.tuple hq
  exact call_tuple_same pl ⟨.ref p,H,I,rfl,q⟩
noncomputable def SV (K:PySem.W.Frag) (T:String) (x:V) (H:Hp):Prop:=match x with
 | .str _=>T="str"
 | .int _=>T="int"
 | .ref p=>(T="list"/\∃xs,nB K H p xs)\/(T="tuple"/\∃o,K.lookup p=some o/\o.cls= .type "tuple"/\o.dict=none)\/
   (T="dict"/\((∃kvs,H p=some (.dK kvs))\/∃kvs,H p=some (.dT kvs)))\/(T="set"/\∃S n,H p=some (.set S n))
 | _=>False
theorem HP {pins : List (Addr × Obj)} {σ : St} {H : Hp} {s : Shared} {T : String} {x : V} {v : Value} (I : Inv X pins σ H s) (r : RelV x v) (ty : SV X.K T x H) :
    s.TypeIs v T/\∀a,v= .ref a->∃ob,s.heap.get? a=some ob/\ob.dict=none:=by
  cases x with
  | str z=>
    obtain⟨t,rfl⟩:=r
    cases(show T="str" from ty)
    exact⟨typeIs_str s z t,fun _ e=>nomatch e⟩
  | int i=>
    obtain⟨t,rfl⟩:=r
    cases(show T="int" from ty)
    exact⟨typeIs_int s i t,fun _ e=>nomatch e⟩
  | ref p =>
    cases r
    rcases ty with⟨rfl,xs,hq⟩ | ⟨rfl,o,hk,hc,hd⟩ | ⟨rfl,hk⟩ | ⟨rfl,S,n,hk⟩
    . obtain⟨its,_,pl,_⟩:=I.list hq
      refine⟨pl.isList.typeIs,fun a e=>?_⟩
      cases e
      obtain⟨o,n,e,c,hd,_⟩:=pl
      exact⟨o,e,hd⟩
    . refine⟨⟨o,I.BS p o hk,hc⟩,fun a e=>?_⟩
      cases e
      exact⟨o,I.BS _ o hk,hd⟩
    . have z:∃o,s.heap.get? p=some o/\o.ExactDict:=by
        rcases hk with⟨kvs,hk⟩ | ⟨kvs,hk⟩
        . obtain⟨_,_,_,_,o,_,_,e,ex,_⟩:=I.hok p _ hk
          exact⟨o,e,ex⟩
        . obtain⟨_,_,_,_,o,_,_,e,ex,_⟩:=I.hok p _ hk
          exact⟨o,e,ex⟩
      obtain⟨o,e,ex⟩:=z
      refine⟨⟨o,e,ex.1⟩,fun a e2=>?_⟩
      cases e2
      exact⟨o,e,ex.2.1⟩
    . obtain⟨o,_,_,_,e,ex,_⟩:=I.hok p _ hk
      refine⟨⟨o,e,ex.1⟩,fun a e2=>?_⟩
      cases e2
      exact⟨o,e,ex.2.1⟩
  | _=>exact False.elim ty
noncomputable def Um (K:PySem.W.Frag) (T:String) (r:V->List V->Hp->VK->Prop) (to:TE) (t:TA):TE:=fun σ H Q=>to σ H fun x H1=>SV K T x H1/\t σ H1 fun xs H2=>r x xs H2 Q
variable {o e:Expr}{es:List Expr}{to:TE}{t:TA}{name:Str}{apos cpos:Pos}{T id:String}{r:V->List V->Hp->VK->Prop}
theorem GF (pa:PlainAttrs T) (slot:Slot T name id) (hty:typeOf (.builtin id)=pure (.type "method_descriptor")) (hm:OI X id r) (ho:PE X o to) (ha:PA X (e :: es) t)
  (hbase:attributeBase o name X.env (eval o X.env)=eval o X.env:=by rfl)
  (hfew:((backTo cpos (starEach (e :: es) X.env)).all (fun x=>!x.1) && (backToKw cpos (keywordEach [] X.env)).all (fun x=>x.1.isSome)
   && decide ((e :: es).length+([]:List Keyword).length+(if([]:List Keyword).isEmpty then 0 else 1) < 30))=true:=by rfl)
  (hline:(apos.endLine == cpos.line)=true:=by rfl) (hs:starEach (e :: es) X.env=(false,eval e X.env) :: starEach es X.env:=by rfl) (hplain:(backTo cpos (starEach es X.env)).any (·.1)=false:=by rfl):
  PE X (.Call (.Attribute o name apos) (e :: es) [] cpos) (Um X.K T r to t):=by
 intro pins s σ H Q I h
 refine wpAny_Call_method_late hbase hfew hline rfl (fM (ho pins s σ H _ I h) fun v s1 ⟨x,H1,I1,r1,ty,q1⟩=>?_)
 obtain⟨h1,h2⟩:=HP I1 r1 ty
 refine⟨T,id,pa,slot,hty,h1,h2,?_⟩
 have hA:=ha cpos pins s1 σ H1 _ I1 q1
 rw[hs] at hA ⊢
 refine Calls.callWith_builtin (by show(false || (backTo cpos (starEach es X.env)).any (·.1))=false;rw[hplain] <;> rfl) (Calls.evalArgs_plain ?_)
 exact fM hA fun us s2 ⟨vs,H2,I2,r2,q2⟩=>hm pins s2 σ H2 x vs v us Q I2 r1 r2 q2
end
noncomputable def Uo (X:Cx) (id:String) (r:V->List V->Hp->VK->Prop):Prop:=
 ∀(pins:List (Addr×Obj)) (s:Shared) (σ:St) (H:Hp) (x:V) (xs:List V) (v:Value) (us:List Value) (Q:VK),Inv X pins σ H s->RelV x v->Vals xs us->r x xs H Q->
  wpAny (model X.prog X.w) X.A (call (.builtin id) (v :: us)) (EP X pins σ Q) X.xe s
theorem Vals.one:∀{x:V}{us:List Value},Vals [x] us->∃u,us=[u]/\RelV x u
 | _,_,.cons r .nil=>⟨_,rfl,r⟩
theorem Vals.dropLast {xs:List V}{us:List Value}(h:Vals xs us):Vals xs.dropLast us.dropLast:=by
 induction h with
 | nil=>exact .nil
 | cons r t ih=>
  cases t with
  | nil=>exact .nil
  | cons q t'=>exact .cons r ih
theorem Vals.rep {xs:List V}{us:List Value}(h:Vals xs us):∀k:Nat,Vals (List.replicate k xs).flatten (List.replicate k us).flatten
 | 0=>.nil
 | k+1=>by
  rw[List.replicate_succ,List.replicate_succ,List.flatten_cons,List.flatten_cons]
  exact Vals.append h (Vals.rep h k)
theorem foldl_rep (its:List Value):∀(k:Nat) (acc:List Value),
    List.foldl (fun x1 x2=>x1++x2) acc.toArray (List.replicate k its.toArray)=(acc++(List.replicate k its).flatten).toArray
  | 0,acc=>by simp
  | k + 1, acc => by
    have e:acc.toArray++its.toArray=(acc++its).toArray:=by simp
    have e2:(acc++its)++(List.replicate k its).flatten=acc++(List.replicate (k+1) its).flatten:=by
      rw[List.replicate_succ,List.flatten_cons,List.append_assoc]
    rw[<-e2,<-foldl_rep its k (acc++its),<-e,List.replicate_succ,List.foldl_cons]
section
variable {X:Cx}{pins:List (Addr×Obj)}{σ:St}{H:Hp}{s:Shared}{l b:Addr}{xs ys zs:List V}
theorem Inv.Lg {its its':List Value}{n:Nat}{f:Array Value->Array Value}{t':Nat}(I:Inv X pins σ H s) (hH:H l=some (.lst xs))
  (e:s.heap.get? l=some {cls:=.type "list",data:=.seq its.toArray n}) (hf:f its.toArray=its'.toArray) (hv:Vals ys its') (hz:ys.length<=sizeLine):
  Inv X pins σ (upd H l (.lst ys)) {s with heap:=s.heap.update l (Obj.mapSeq f),toks:=t'}:=by
 have q:=PySem.IsL.update e f
 rw[hf] at q
 refine I.write (x:=l) (e:=l) (by rw[hH];exact trivial) (.inl rfl) (fun b' u hb hu=>(Heap.get?_update_other s.heap (Obj.mapSeq f) (Ne.symm hb)).trans hu) ⟨_,q⟩ ?_
 exact⟨hz,its',_,hv,q⟩
theorem Inv.Lh {its:List Value}{t':Nat}(I:Inv X pins σ H s) (hv:Vals ys its) (hz:ys.length<=sizeLine):
  Inv X pins σ (upd H s.heap.objs.size (.lst ys)) {s with heap:=s.heap.push {cls:=.type "list",data:=.seq its.toArray},toks:=t'}:=
 I.laid (fun _ _ q=>Heap.get?_push_of_some _ q) (Nat.le_refl _) ⟨hz,its,0,hv,Heap.get?_push_size _ rfl⟩
theorem Inv.fresh (I:Inv X pins σ H s):H s.heap.objs.size=none:=I.hok.fresh (Nat.le_refl _)
theorem Inv.yR (I:Inv X pins σ H s) (hH:H l=some (.lst xs)):xs.length<=sizeLine/\∃(its:List Value) (n:Nat),Vals xs its/\xs.length=its.length/\s.heap.get? l=some {cls:=.type "list",data:=.seq its.toArray n}:=by
 obtain⟨z,its,n,r,e⟩:=I.hok l _ hH
 exact⟨z,its,n,r,r.length,e⟩
theorem wM {n:Nat}(h:n<=sizeLine):Builtin.List.listTooLong n=false:=by
 unfold Builtin.List.listTooLong
 exact decide_eq_false (by omega)
end
section
variable {X:Cx}
noncomputable def zV:V->List V->Hp->VK->Prop:=fun x vs H Q=>∃l xs y,x= .ref l/\vs=[y]/\H l=some (.lst xs)/\xs.length < sizeLine/\Q .cH (upd H l (.lst (xs++[y])))
theorem iO:Uo X "list.append" zV:=by
 intro pins s σ H x vs v us Q I rx rv h
 obtain⟨l,xs,y,rfl,rfl,hH,hz,q⟩:=h
 cases rx
 obtain⟨u,rfl,ru⟩:=rv.one
 obtain⟨z,its,n,r,hl,e⟩:=I.yR hH
 refine call_meets F.slot_list_append ⟨_,e,rfl⟩ F.entry_list_append (F.args_list_append_2 _ _) (PySem.list_append l its.toArray n u (by rw[List.size_toArray];omega)) ⟨e,?_⟩
 refine⟨.cH,_,I.Lg (its':=its++[u]) hH e (by simp) (r.append (.cons ru .nil)) ?_,rfl,q⟩
 rw[List.length_append,List.length_singleton]
 omega
theorem len_rep {α:Type}(xs:List α) (k:Nat):(List.replicate k xs).flatten.length=k * xs.length:=by
 induction k with
 | zero=>simp
 | succ k ih=>rw[List.replicate_succ,List.flatten_cons,List.length_append,ih,Nat.succ_mul,Nat.add_comm]
end
section
variable {prog:Program}{w:World}{A:Around}{E:Value->Shared->Prop}{s:Shared}
end
section
variable {X:Cx}
end
end L2
namespace SW
open PySem PySem.W PySem.Calls PyProof.Rows
theorem qI {P:Params}{h:Heap}:∀(ns:List Int) (vs:List Value),WellAll P h vs (ns.map WData.int)->IntsAre vs ns:=by
 intro ns
 induction ns with
 | nil=>
  intro vs w
  rw[List.map_nil] at w
  cases w
  exact .nil
 | cons n ns ih=>
  intro vs w
  rw[List.map_cons] at w
  cases w with
  | cons a b=>
   cases a
   exact .cons _ _ (ih _ b)
theorem A3 {l:OpenLaw}{n:Nat}(hn:l.most=some n){P:Params}{h:Heap}{args:List WData}{vals:List Value}
  (hpre:l.row.toRowW.claim.pre args=true) (hwl:WellAll P h vals args):
  ∃a vs ns,vals=[Value.ref a]/\args=[WData.list (ns.map WData.int)]/\h.get? a=some {cls:=.type "list",data:=.seq vs.toArray}/\IntsAre vs ns/\ns.length<=n:=by
 have hsh:WShape.hasAll [] args [.list .int]=true:=(pre_splitW hpre).1
 have hc:l.pre.holds [] {args:=args}=true:=(pre_splitW hpre).2
 obtain⟨d,r,rfl,h1,h2⟩:=hasAllW_cons hsh
 obtain rfl:=hasAllW_nil h2
 obtain⟨xs,rfl,h3⟩:=hasW_list h1
 obtain⟨ns,rfl⟩:=items_int h3
 have hlen:ns.length<=n:=by
  unfold OpenLaw.pre at hc
  have h4:(WTm.not (.lt (.lit (.int (n:Int))) (.len (.arg 0)))).holds [] {args:=[.list (ns.map .int)]}=true:=by
   have h4:=(holds_andW hc).1
   rw[hn] at h4
   exact h4
  have h5:=condW_of h4 (w_not (w_lt w_lit (w_len_list (w_arg rfl))))
  rw[List.length_map] at h5
  refine Nat.le_of_not_lt fun q=>?_
  have q':(n:Int) < ((ns.length:Nat):Int):=by omega
  first
   | (rw[decide_eq_true q'] at h5;exact absurd h5 (by decide))
   | (simp at h5;omega)
 cases hwl with
 | cons w1 w2=>
  cases w2
  cases w1 with
  | list ho hall=>exact⟨_,_,ns,rfl,rfl,ho,qI ns _ hall,hlen⟩
theorem A4 (l:OpenLaw) (args:List WData):l.row.toRowW.claim.post args (.bool true) args=true:=
 postW_of (r:=l.row.toRowW) (X:=(true == true))
  (show WShape.has [] (.bool true) .bool=true by first | rfl | decide | simp[WShape.has,WShape.arms,WShape.armsAll])
  (show(WTm.eq .res (.lit (.bool true))).value [] {args:=args,res:=some (.bool true),after:=args}=some (.bool (true == true)) from w_eq_bool (w_res rfl) w_lit) rfl
theorem wN {l:OpenLaw}{n:Nat}{q:Program}{loose:List Str}{XP:(Str->Option Value)->Heap->Prop}{YP:World->Heap->Prop}{d:DefRec}
  (hn:l.most=some n) (hdf:d.params.defaults=[])
  (call:∀(w:World) (s₀ s₁:Shared) (mg mb:Str->Option Value) (fa:Addr) (o:Obj) (pm cd doc:Value) (a:Addr) (vs:List Value) (ns:List Int),
   Ground q loose [] XP w s₀ mg mb s₁.heap->YP w s₁.heap->
   s₁.heap.get? fa=some o->o.data= .func (docDef d.name d.params d.body d.scope pm cd doc)->s₁.heap.CodeRec cd d.name->mg d.name=some (.ref fa)->
   s₁.heap.get? a=some {cls:=.type "list",data:=.seq vs.toArray}->IntsAre vs ns->ns.length<=n->s₁.gens=#[]->
   codeAny (model l.prog w) callerA (.call (.ref fa) ⟨[.ref a],[]⟩) (fun r s'=>r= .ok (.ret (.bool true))/\OldK s₁.heap s'.heap/\s'.os=s₁.os/\AllBare s'.gens) s₁):
  WalkO q loose XP YP l.row.toRowW d [] (fun f vs=>PySem.call f vs):=by
 intro w s₀ s₁ mg mb G Y fa o pm cd doc dV kV ho hd hcd hD hmg hg args vals as hpre hlay hrd hwl hlo
 obtain rfl:dV= .none:=Dflts.none hD hdf
 obtain rfl:kV= .none:=Dflts.noKw hD
 obtain⟨a,vs,ns,rfl,rfl,hobj,hints,hlen⟩:=A3 hn hpre hwl
 refine enter_call (codeAny_mono (call w s₀ s₁ mg mb fa o pm cd doc a vs ns G Y ho (fd_plain hd) hcd hmg hobj hints hlen hg) fun r s' hq=>?_)
 obtain⟨rfl,h2,h3,h4⟩:=hq
 exact⟨.inl ⟨.bool true,.bool true,[],rfl,fun _=>rfl,.bool true,A4 l _,fun _=>⟨List.Pairwise.nil,fun _ hm=>(nomatch hm)⟩⟩,h2,h3,h4⟩
section
variable {prog:Program}{w:World}{A:Around}{E:Value->Shared->Prop}{s:Shared}{K:Frag}
end
end SW
namespace L2
open PySem PySem.Spec PyProof.Rows
theorem uG:∀{vs:List Value}{ns:List Int},IntsAre vs ns->Vals (ns.map V.int) vs
 | _,_,.nil=>.nil
 | _,_,.cons n t h=>.cons ⟨t,rfl⟩ (uG h)
noncomputable def EH (H:Hp):Prop:=∀b,H b=none\/∃o xs,H b=some (.jw o (.lst xs))
theorem Cm {P : Program} {w : World} {K : PySem.W.Frag} {mg mb : Str -> Option Value} {CX : BH} {k : Nat} {fa a : Addr} {fd : FuncData} {x : Str} {sp : Sp} {s₁ : Shared} {vs : List Value} {ns : List Int}
    (KX:K.In s₁.heap) (hns:s₁.heap.Ns mainGlobals mg) (hb:s₁.heap.Ns builtinsNs mb) (Up:∀x:Str,x≠"__name__"->mb x=bootBuiltins x) (hlim:s₁.heap.NoLimit) (hg:s₁.gens=#[])
    (ha:s₁.heap.get? a=some {cls:=.type "list",data:=.seq vs.toArray}) (hi:IntsAre vs ns) (hl:ns.length<=sizeLine) (hr:kq k callerA)
    (F:∀base:Heap,K.In base->base.Ns mainGlobals mg->dD P w K mg base CX k fa fd [x] sp) (hbind:∀(s:Shared) (u:Value),BindsTo s fd ⟨[u],[]⟩ [(x,u)])
    (Gx:∀H:Hp,EH H->nB K H a (ns.map V.int)->sp [.ref a] H (fun v _=>v= .bl true) fun _ _ _=>False)
    (OL:∀H e s',CX [] H s₁ (fun _ _ _=>False) e s'->False):
    codeAny (model P w) callerA (.call (.ref fa) ⟨[.ref a],[]⟩) (fun r s'=>r= .ok (.ret (.bool true))/\OldK s₁.heap s'.heap/\s'.os=s₁.os/\AllBare s'.gens) s₁:=by
  have rv:=uG hi
  have lenV:=hi.length
  have core : ∀ H : Hp, EH H -> nB K H a (ns.map V.int) -> lJ P w H s₁.heap -> (∀ b, H b ≠ none -> b = a) -> (H a ≠ none -> K.lookup a = none) ->
      codeAny (model P w) callerA (.call (.ref fa) ⟨[.ref a],[]⟩) (fun r s'=>r= .ok (.ret (.bool true))/\OldK s₁.heap s'.heap/\s'.os=s₁.os/\AllBare s'.gens) s₁:=by
    intro H hO hS hok hA hK
    have zW:∀{b:Addr}{o:Obj},s₁.heap.get? b=some o->H b=none->(uZ s₁.heap H).get? b=some o:=fun e n=>BR e n
    have K4:∀{b:Addr}{o:Obj}{es:Array DictEntry}{ep:Nat},s₁.heap.get? b=some o->o.data= .dict es ep->H b=none:=fun {b o es ep} e d=>by
      cases q:H b with
      | none=>rfl
      | some u=>
        have e':b=a:=hA b (by rw[q];simp)
        subst e'
        rw[ha] at e;cases e
        have d':Data.seq vs.toArray _=Data.dict es ep:=d
        cases d'
    have Nc:∀{b:Addr}{m:Str->Option Value},s₁.heap.Ns b m->(uZ s₁.heap H).Ns b m:=fun {b m} ⟨o,es,ep,e,d,r⟩=>⟨o,es,ep,zW e (K4 e d),d,r⟩
    have SX:K.In (uZ s₁.heap H):=fun b o e=>zW (KX b o e) (by
      cases q:H b with
      | none=>rfl
      | some u=>
        have e':b=a:=hA b (by rw[q];simp)
        subst e'
        rw[hK (by rw[q];simp)] at e;cases e)
    have hM:Mod K mg (uZ s₁.heap H):=⟨SX,Nc hns,⟨mb,Nc hb,Up⟩,let⟨mc,h1,h2⟩:=hlim;⟨mc,Nc h1,h2⟩⟩
    have e0:Ew P w K mg (uZ s₁.heap H) callerA [] s₁ H:=⟨rfl,hM,fun b o e=>Ei e,Nat.le_of_eq (AQ _ _),trivial,fun b hb=>absurd (show b∈([]:List Addr) from hb) (by simp),hok,.of_eq hg⟩
    refine codeAny_mono ((F _ SX (Nc hns)).run callerA [] s₁ H ⟨[.ref a],[]⟩ [.ref a] [.ref a] _ _ hr e0 (hbind s₁ (.ref a)) (.cons rfl .nil) (Gx H hO hS)) fun r s' h=>?_
    cases r with
    | error e=>exact(OL H e s' h).elim
    | ok fl =>
      cases fl with
      | next=>exact False.elim h
      | brk=>exact False.elim h
      | cont=>exact False.elim h
      | ret u =>
        obtain⟨v,H',os,bare,un,OM,r',q⟩:=h
        have q':v= .bl true:=q
        subst q'
        obtain rfl:u=Value.bool true:=r'
        refine⟨rfl,OldK.of_keep fun b o e=>?_,os,bare⟩
        cases q:H b with
        | none=>exact un.keep b o e q (by intro z;exact absurd (show b∈([]:List Addr) from z) (by simp)) (by simp)
        | some u=>
          rcases hO b with z | ⟨ob,xs,z⟩
          . rw[q] at z;cases z
          . have z2:=un.rG b ob _ z
            obtain⟨e1,_⟩:=hok b _ z
            obtain⟨e2,_⟩:=OM b _ z2
            rw[e] at e1;cases e1
            exact e2
  cases hk:K.lookup a with
  | some o=>
    have e:=KX a o hk
    rw[ha] at e
    cases e
    refine core (fun _=>none) (fun _=>.inl rfl) (.inr ⟨_,vs.toArray,_,hk,rfl,rfl,rfl,by rw[List.size_toArray,lenV];exact hl,by simpa using rv⟩) (fun b u z=>by have z':(none:Option HO)=some u:=z;cases z') (fun b z=>absurd rfl z) fun z=>absurd rfl z
  | none=>
    refine core (fun b=>if b=a then some (.jw {cls:=.type "list",data:=.seq vs.toArray} (.lst (ns.map V.int))) else none) (fun b=>?_) (.inl (.inr ⟨{cls:=.type "list",data:=.seq vs.toArray},if_pos rfl⟩)) (fun b u z=>?_) (fun b z=>?_) fun _=>hk
    . by_cases hb:b=a
      . exact .inr ⟨_,_,if_pos hb⟩
      . exact .inl (if_neg hb)
    . by_cases hb:b=a
      . have z':=(if_pos hb).symm.trans z
        cases z'
        subst hb
        exact⟨ha,by rw[List.length_map];exact hl,vs,_,rv,ha⟩
      . have z':=(if_neg hb).symm.trans z
        cases z'
    . by_cases hb:b=a
      . exact hb
      . exact absurd (if_neg hb) z
noncomputable abbrev WI {K:PySem.W.Frag}{h:Heap}(_:K.In h):PySem.W.Frag:=K
theorem EI {l : PySem.W.OpenLaw} {n k : Nat} {q : Program} {loose : List Str} {XP : (Str -> Option Value) -> Heap -> Prop} {YP : World -> Heap -> Prop} {d : DefRec} {K : Params -> PySem.W.Frag} {CX : World -> BH} {sp : World -> Sp} {x : Str}
    (hn:l.most=some n) (hn2:n<=sizeLine) (hdf:d.params.defaults=[]) (hr:kq k callerA)
    (hY:∀(w:World) (h:Heap),YP w h->(K w.params).In h)
    (F:∀(w:World) (mg:Str->Option Value) (fa:Addr) (h:Heap),(K w.params).In h->h.Ns mainGlobals mg->mg d.name=some (.ref fa)->
      ∃fd:FuncData,(∀(s:Shared) (u:Value),BindsTo s fd ⟨[u],[]⟩ [(x,u)])/\
        ∀base:Heap,(K w.params).In base->base.Ns mainGlobals mg->dD l.prog w (K w.params) mg base (CX w) k fa fd [x] (sp w))
    (Gx:∀(w:World) (H:Hp) (a:Addr) (ns:List Int),ns.length<=n->EH H->nB (K w.params) H a (ns.map V.int)->sp w [.ref a] H (fun v _=>v= .bl true) fun _ _ _=>False)
    (OL:∀(w:World) (H:Hp) (s:Shared) (e:Value) (s':Shared),CX w [] H s (fun _ _ _=>False) e s'->False):
    PySem.W.WalkO q loose XP YP l.row.toRowW d [] (fun f vs=>PySem.call f vs):=by
  refine SW.wN hn hdf fun w s₀ s₁ mg mb fa o pm cd doc a vs ns G Y ho hd hcd hmg hobj hints hlen hg=>?_
  have KX:=hY w _ Y
  obtain⟨fd,hb,hF⟩:=F w mg fa _ KX G.T.g hmg
  exact Cm KX G.T.g G.T.b G.T.builtins G.T.nolimit hg hobj hints (Nat.le_trans hlen hn2) hr hF hb (fun H hO hS=>Gx w H a ns hlen hO hS) fun H e s'=>OL w H s₁ e s'
noncomputable def cI (s:Stmt):Arguments:=match s with
 | .FunctionDef _ a _ _ _ _ _ _ _ _=>a
 | _=>{posonlyargs:=[],args:=[],vararg:=none,kwonlyargs:=[],kw_defaults:=[],kwarg:=none,defaults:=[]}
noncomputable def bZ (s:Stmt):List Stmt:=match s with
 | .FunctionDef _ _ b _ _ _ _ _ _ _=>b
 | _=>[]
noncomputable def aO (s:Stmt):Scope:=match s with
 | .FunctionDef _ _ _ _ _ _ sc _ _ _=>sc
 | _=>{kind:=.function,names:=[],isGenerator:=false,isCoroutine:=false}
noncomputable abbrev j7:BH:=fun _ _ _ _ _ _=>False
noncomputable abbrev E0:XK:=fun _ _ _=>False
theorem Li {X:Cx}:Passes j7 X E0:=fun _ _ _ _ _ _ _ h=>h.elim
structure tK (K:PySem.W.Frag) (x qual:Str) (st:Stmt) (f:Addr) (fd:FuncData):Prop where
 ex:∃(oc:Value) (od:Option Addr) (kV doc pm:Value) (an:Option Addr) (cdv ct:Value) (osl:Array (Option Value)),
  fd=PySem.W.fnOf x qual (cI st) (bZ st) (aO st) .none kV doc pm an cdv ct/\K.lookup f=some ⟨oc,od,.func fd,osl⟩/\PySem.W.codeIn K cdv qual=true
 kp:PySem.W.keepIn K (.ref f)=true
section
variable {P:Program}{w:World}{K:PySem.W.Frag}{mg:Str->Option Value}{base:Heap}
theorem tK.ok {x qual:Str}{st:Stmt}{f:Addr}{fd:FuncData}{N ps:List Str}{k:Nat}{sp:Sp}(F:tK K x qual st f fd) (S:cR N ps (aO st)) (len:∀vs H Q E,sp vs H Q E->vs.length=ps.length)
  (hbody:∀(cdv:Value) (A:Around) (outer:List Env) (s:Shared) (H:Hp) (vs:List V) (Q:VK) (E:XK),kq k (A.deeper (envOfC qual (aO st) s.heap.objs.size f cdv))->sp vs H Q E->
   ∃t,wC (yM j7 P w K mg base N qual (aO st) f cdv A outer s H E).KH (bZ st) t/\t {nx:=fun _ H'=>Q .cH H',rt:=Q} (start N vs) H):dD P w K mg base j7 (k+1) f fd ps sp:=by
 obtain⟨oc,od,kV,doc,pm,an,cdv,ct,osl,rfl,lk,hcd⟩:=F.ex
 refine K5 lk hcd S len fun A outer s H vs Q E hr Gx=>?_
 obtain⟨t,h,q⟩:=hbody cdv A outer s H vs Q E hr Gx
 exact⟨t,h.KH,q⟩
theorem tK.binds {x qual:Str}{st:Stmt}{f:Addr}{fd:FuncData}{ps:List Str}(F:tK K x qual st f fd)
  (h:∀(kV doc pm:Value) (an:Option Addr) (cdv ct:Value) (us:List Value),us.length=ps.length->bindArgs (PySem.W.fnOf x qual (cI st) (bZ st) (aO st) .none kV doc pm an cdv ct) ⟨us,[]⟩=pure (ps.zip us)):Binds K fd ps []:=by
 obtain⟨oc,od,kV,doc,pm,an,cdv,ct,osl,rfl,lk,hcd⟩:=F.ex
 exact .all (h kV doc pm an cdv ct)
theorem gM {x qual:Str}{st:Stmt}{f:Addr}{oc:Value}{od an:Option Addr}{osl:Array (Option Value)}{kV doc pm cdv ct:Value}(l:K.lookup f=some ⟨oc,od,.func (PySem.W.fnOf x qual (cI st) (bZ st) (aO st) .none kV doc pm an cdv ct),osl⟩)
  (c:PySem.W.codeIn K cdv qual=true) (k:PySem.W.keepIn K (.ref f)=true):tK K x qual st f (PySem.W.fnOf x qual (cI st) (bZ st) (aO st) .none kV doc pm an cdv ct):=⟨⟨oc,od,kV,doc,pm,an,cdv,ct,osl,rfl,l,c⟩,k⟩
end
theorem aY {A:Around}{k:Nat}(hr:kq k A):A.units+20 < cLine:=Nat.lt_of_le_of_lt (Nat.add_le_add_left (by decide:20<=64) _) hr.units
section
variable {X:Cx}
theorem A5:iG X (.builtin "len") (fun xs H Q=>∃a kvs,xs=[V.ref a]/\H a=some (.dK kvs)/\Q (.int kvs.length) H):=by
 intro pins s σ H xs us Q I r h
 obtain⟨a,kvs,rfl,ha,q⟩:=h
 obtain⟨u,rfl,ru⟩:=vals1 r
 cases ru
 exact K6 I (.inl ha) fun t s' I'=>⟨.int kvs.length,H,I',⟨t,rfl⟩,q⟩
end
theorem Cn {A B:Prop}(h:B):if false=true then A else B:=by
 rw[if_neg Bool.false_ne_true]
 exact h
theorem Co {A B:Prop}(h:A):if true=true then A else B:=by
 rw[if_pos rfl]
 exact h
section
variable {κ:Type} [DecidableEq κ]
end
theorem lJ.GG {P:Program}{w:World}{H:Hp}{h:Heap}{a:Addr}{o:HO}(x:lJ P w H h) (hn:H a=none) (new:ff P w (upd H a o) h a o):lJ P w (upd H a o) h:=fun b u e=>by
 by_cases hb:b=a
 ·subst hb;rw[aL] at e;cases e;exact new
 ·rw[aE hb] at e
  exact(x b u e).stay (fun c v _ q=>q) (fun c q=>by rw[aE (bu q hn)];exact q) fun c xs q=>by rw[aE (bu q hn)];exact q
noncomputable def cX (X:Cx) (N':List Str) (scope:Scope) (cl:List (Str×Addr)) (C:Addr) (s:Shared) (H:Hp) (fp:List Addr):Cx:=
 {X with N:=N',s₀:=s,H₀:=H,env:=compEnvC scope cl C X.env,outer:=X.stack,stack:=X.stack,ex:=fp,fn:=fun _=>false,pn:=[],xe:=fun _ _=>False}
noncomputable def bU (cap:List Nat) (σ:St):St:=cap.map fun i=>(σ[i]?).join
structure iH (X:Cx) (x:Str) (bB:List Str) (cap:List Nat) (scope:Scope) (cl:List (Str×Addr)):Prop where
 clos:closureFor scope X.env=pure cl
 lP:∀y∈scope.names,y.2≠.cell
 kind:scope.kind= .function
 names:∀y∈scope.names,y.2= .local->scope.names.lookup y.1=some .local
 loc:scope.names.lookup x=some .local
 cells:∀n c,cl.lookup n=some c->X.env.cells.lookup n=some c
 has:∀n,((relabel scope X.env).names.lookup n=some .cell\/(relabel scope X.env).names.lookup n=some .free)->∃c,cl.lookup n=some c
 nd:(x :: bB).Nodup
 len:cap.length=bB.length
 slot:∀(j:Nat) n,bB[j]? =some n->∃i:Nat,cap[j]? =some i/\X.N[i]? =some n/\AR X.env.scope n
 vis:∀n,n∈bB->((relabel scope X.env).names.lookup n=some .cell\/(relabel scope X.env).names.lookup n=some .free)/\(∃c,cl.lookup n=some c)/\X.env.scope.names.lookup n≠some .local
noncomputable def Nd (wi:TI) (cap:List Nat) (tc:TT) (te:TE):TE:=fun σ H Q=>wi σ H fun J H1=>∃W:Nat->Nat->List V->Hp->Prop,(∃m,W 0 m [] H1)/\∀i m ys H,W i m ys H->ys.length < sizeLine/\
  ((J.stop i H/\∀p,H p=none->Q (.ref p) (upd H p (.lst ys)))\/
   (J.go i H/\∀x H',J.J5 i H x H'->tc (some x :: bU cap σ) H' fun b H2=>if b=true then te (some x :: bU cap σ) H2 fun y H3=>∃m',m' < m/\W (i+1) m' (ys++[y]) H3 else ∃m',m' < m/\W (i+1) m' ys H2))
noncomputable def Lj:TT:=fun _ H Q=>Q true H
noncomputable def EJ (X:Cx) (ifs:List Expr) (tc:TT):Prop:=
 ∀(pins:List (Addr×Obj)) (s:Shared) (σ:St) (H:Hp) (Q:Bool->Hp->Prop),Inv X pins σ H s->tc σ H Q->
  wpAny (model X.prog X.w) X.A (forIn ifs true fun c r=>if r=true then do let ok <-isTrue c X.env (eval c X.env);pure (ForInStep.yield ok) else pure (ForInStep.yield r)) (TP X pins σ Q) X.xe s
theorem zX {X:Cx}:EJ X [] Lj:=fun pins s σ H Q I h=>wpAny_tests_nil ⟨H,I,h⟩
theorem Cp (ys:List Value) (y:Value):({cls:=.type "list",data:=.seq (ys.toArray.push y) (ys.length+1)}:Obj)={cls:=.type "list",data:=.seq (ys++[y]).toArray (ys++[y]).length}:=by
 rw[List.length_append,List.length_singleton,List.push_toArray]
theorem Cq {X : Cx} {pins : List (Addr × Obj)} {σ : St} {H : Hp} {s s4 : Shared} {x : Str} {bB : List Str} {cap : List Nat} {scope : Scope} {cl : List (Str × Addr)} {C : Addr} {fp : List Addr} {m' : Str -> Option Value}
    (I:Inv X pins σ H s) (T:iH X x bB cap scope cl) (hfp:∀b∈fp,lE X pins H b) (hfo:∀b∈fp,∃o,s.heap.get? b=some o)
    (hC:s.heap.objs.size<=C) (hns:s4.heap.Ns C m') (hos:s4.os=s.os) (hg:s4.gens=s.gens)
    (kept:∀b o,s.heap.get? b=some o->s4.heap.get? b=some o):
    Inv (cX X (x :: bB) scope cl C s H fp) [] (none :: bU cap σ) H s4:=by
  have fr:∀b,s.heap.objs.size<=b->H b=none:=fun b hb=>I.hok.fresh hb
  refine⟨⟨I.ok.mod,T.kind,I.ok.glob,I.ok.blt,hC,fun y z c h1 h2=>I.ok.inj y z c (T.cells _ _ h1) (T.cells _ _ h2),fun y hy=>T.has y hy,fun y c h=>(by cases h),I.ok.hd,I.ok.frames,.inl rfl,fun b hb=>⟨?_,fun y c e z=>?_⟩,I.bs,Nat.le_trans I.ok.Ec I.sz,fun b o e hb=>?_,fun b hb z=>?_,I.stack,I.u5⟩,
    hos,by rw[hg];exact I.bare,Un.kept kept,⟨m',hns,fun i y v h1 h2 h3=>?_⟩,fun y c h=>?_,fr C hC,fun y c h=>I.lK y c (T.cells _ _ h),fun p hp=>?_,I.hok.kept kept,?_⟩
  . obtain⟨o,e⟩:=hfo b hb
    exact Nat.ne_of_lt (Nat.lt_of_lt_of_le (Heap.lt_size e) hC)
  . exact(hfp b hb).2.2.2.2.1 y c (T.cells _ _ e) z
  . rcases(hfp b hb).2.2.2.1 with z | z
    . exact I.ok.AS b o e z
    . exact absurd (Nat.lt_of_lt_of_le (Heap.lt_size e) (Nat.le_trans I.ok.Ec z)) (Nat.lt_irrefl _)
  . rcases List.mem_cons.mp (I.pA b z) with q | q
    . exact(hfp b hb).2.1 q
    . exact(hfp b hb).2.2.1 q
  . cases i with
    | zero=>cases h2
    | succ j=>
      have h1:bB[j]? =some y:=by simpa[cX] using h1
      have h2:(bU cap σ)[j]? =some (some v):=by simpa using h2
      obtain⟨i,e1,e2,e3⟩:=T.slot j y h1
      have e4:σ[i]? =some (some v):=by
        unfold bU at h2
        rw[List.getElem?_map,e1] at h2
        have h2:some ((σ[i]?).join)=some (some v):=h2
        have h2:=Option.some.inj h2
        cases q:σ[i]? with
        | none=>rw[q] at h2;cases h2
        | some o=>rw[q] at h2;cases h2;rfl
      obtain⟨m,hn,hl⟩:=I.loc
      obtain⟨u,r,l⟩:=hl i y v e2 e4 e3
      obtain⟨k1,⟨c,hc⟩,k3⟩:=T.vis y (List.mem_of_getElem? h1)
      refine⟨u,r,.inr ⟨k1,c,hc,?_⟩⟩
      rcases l with⟨hk,_⟩ | ⟨hk,c',hc',z⟩
      . exact absurd hk k3
      . rw[T.cells _ _ hc] at hc'
        cases hc'
        obtain⟨o,ho,hd⟩:=z
        exact⟨o,kept _ _ ho,hd⟩
  . obtain⟨v,o,ho,hd⟩:=I.cell y c (T.cells _ _ h)
    exact⟨v,o,kept _ _ ho,hd⟩
  . exact absurd (show p∈([]:List (Addr×Obj)) from hp) (by simp)
  . show(none :: bU cap σ).length=(x :: bB).length
    simp[bU,T.len]
theorem Cr {α:Type}{M:Model}{A:Around}{E E':Value->Shared->Prop}{s:Shared}{t:Sem α}{Q:Unit->Shared->Prop}{Q':α->Shared->Prop}(h:wpAny M A (pure ():Sem Unit) Q E s) (k:Q () s->wpAny M A t Q' E' s):wpAny M A t Q' E' s:=
 fun Γ p hΓ=>k (h Γ p hΓ) Γ p hΓ
theorem rR {X:Cx}{elt iter:Expr}{ifs:List Expr}{x:Str}{px pos:Pos}{scope:Scope}{cl:List (Str×Addr)}{bB:List Str}{cap:List Nat}{wi:TI}{tc:TT}{te:TE}{pins:List (Addr×Obj)}{s:Shared}{σ:St}{H:Hp}{Q:VK}{use:Option (Value->Sem Unit)}{Qf:Value->Shared->Prop}{pos2:Pos}
    (T:iH X x bB cap scope cl) (hc:X.calm=true) (hi:PI X (.Name x px) iter wi)
    (ht:∀C s H fp,EJ (cX X (x :: bB) scope cl C s H fp) ifs tc) (he:∀C s H fp,PE (cX X (x :: bB) scope cl C s H fp) elt te)
    (hs:∀x,foldedSetIterable iter X.env x=pure x) (I:Inv X pins σ H s) (h:Nd wi cap tc te σ H Q)
    (hend:∀(D C:Addr) (s7:Shared) (H6:Hp) (ys:List V),Inv X pins σ (upd H6 D (.lst ys)) s7->(∃m,s7.heap.Ns C m)->lE X pins (upd H6 D (.lst ys)) C->Q (.ref D) (upd H6 D (.lst ys))->compPost (model X.prog X.w) X.A X.xe use Qf (.ref D) C (.ok .next) s7):
    wpAny (model X.prog X.w) X.A (comprehension (.ListComp elt [⟨.Name x px,iter,ifs,0⟩] scope pos) scope X.env pos2 (newList []) false (eval iter X.env) use) Qf X.xe s:=by
  refine wpAny_comprehension_free (use:=use) rfl hs T.clos T.kind T.names (fM (hi pins s σ H _ I h) fun v s1 h1=>fM h1 fun itv s2 h2=>?_)
  obtain⟨it,fp,tn,J,H2,rfl,I2,tU,st2,f2,W,⟨m0,w0⟩,turn⟩:=h2
  refine wpAny_newObj_type (wpAny_newFunctionEnv T.lP (by intro y hy;simp at hy) (fun h4 vj rS=>?_) T.kind)
  dsimp only at vj rS ⊢
  generalize HQ:s2.heap.push {cls:=.type "list",dict:=none,data:=.seq ([]:List Value).toArray}=H3 at vj rS ⊢
  have eC:H3.objs.size=s2.heap.objs.size+1:=by rw[<-HQ,Heap.size_push]
  generalize Uq:H3.objs.size=C at eC vj rS ⊢
  generalize eD:s2.heap.objs.size=D at eC ⊢
  have Cs:C=D+1:=eC
  have hDC:D≠C:=by rw[Cs];exact Nat.ne_of_lt (Nat.lt_succ_self D)
  have hC:s2.heap.objs.size<=C:=by rw[eD,Cs];exact Nat.le_succ D
  have hD:s2.heap.objs.size<=D:=by rw[eD];exact Nat.le_refl D
  have kept:∀b o,s2.heap.get? b=some o->h4.get? b=some o:=fun b o e=>rS.extBut b o (Nat.ne_of_lt (Nat.lt_of_lt_of_le (Heap.lt_size e) hC)) (Heap.get?_push_of_some _ (HQ▸Heap.get?_push_of_some _ e))
  have hacc:h4.get? D=some {cls:=.type "list",data:=.seq ([]:List Value).toArray ([]:List Value).length}:=rS.extBut _ _ hDC (Heap.get?_push_of_some _ (HQ▸eD▸Heap.get?_push_size _ rfl))
  have Lk:∀b∈fp,∃o,s2.heap.get? b=some o:=fun b hb=>let⟨o,e,_⟩:=tU.obj _ _ st2 b hb;⟨o,e⟩
  have hDf:D∉fp:=fun hb=>by
    obtain⟨o,e⟩:=Lk D hb
    exact absurd (Nat.lt_of_lt_of_le (Heap.lt_size e) hD) (Nat.lt_irrefl _)
  have Ll:tn 0 h4:=tU.keep _ _ _ st2 fun b _ o e=>kept b o e
  have key : ∀ s5 : Shared, s5 = { s2 with heap := h4, toks := s2.toks + ([] : List (Str × Value)).length } ->
      codeAny (model X.prog X.w) X.A (.compLoop (.ListComp elt [⟨.Name x px,iter,ifs,0⟩] scope pos) 0 (.ref it) (.ref D) (compEnvC scope cl C X.env)) (compPost (model X.prog X.w) X.A X.xe use Qf (.ref D) C) s5:=by
    rintro s5 rfl
    have I4:Inv (cX X (x :: bB) scope cl C s2 H2 fp) [] (none :: bU cap σ) H2 {s2 with heap:=h4,toks:=s2.toks+([]:List (Str×Value)).length}:=
      Cq (s4:={s2 with heap:=h4,toks:=s2.toks+([]:List (Str×Value)).length}) I2 T f2 Lk hC vj rfl rfl kept
    generalize hY:cX X (x :: bB) scope cl C s2 H2 fp=Y at I4
    have fD:∀{H':Hp},H' D=none->lE Y [] H' D:=fun {H'} hn=>by
      subst hY
      refine⟨hn,hDC,fun z=>(List.mem_cons.mp (I2.pA D z)).elim (fun q=>absurd (Nat.lt_of_lt_of_le (q▸I2.lt) hD) (Nat.lt_irrefl _)) fun q=>I2.G7 hD q,.inr hD,fun y c e z=>?_,fun p hp=>absurd (show p∈([]:List (Addr×Obj)) from hp) (by simp)⟩
      obtain⟨v,q⟩:=I2.cell y c (T.cells _ _ e)
      exact absurd (Nat.lt_of_lt_of_le q.lt (by rw[z];exact hD)) (Nat.lt_irrefl _)
    have fF:∀{H':Hp},(∀b∈fp,H' b=none)->∀b∈fp,lE Y [] H' b:=fun {H'} hn b hb=>by
      have q:=I4.ok.M4 b (by subst hY;exact hb)
      exact⟨hn b hb,fun z=>q.1 z,I4.ok.AU b (by subst hY;exact hb),.inl (by subst hY;exact hb),fun y c e z=>q.2 y c e z,fun p hp=>absurd (show p∈([]:List (Addr×Obj)) from(by subst hY;exact hp)) (by simp)⟩
    have eA:Y.A=X.A:=by subst hY;rfl
    have eP:Y.prog=X.prog:=by subst hY;rfl
    have eW:Y.w=X.w:=by subst hY;rfl
    have eK:Y.K=X.K:=by subst hY;rfl
    have eE:Y.env=compEnvC scope cl C X.env:=by subst hY;rfl
    have eX:Y.xe=fun _ _=>False:=by subst hY;rfl
    have eN:Y.N=x :: bB:=by subst hY;rfl
    have GH:Y.calm=true:=by subst hY;exact hc
    have ON:EJ Y ifs tc:=by subst hY;exact ht _ _ _ _
    have OO:PE Y elt te:=by subst hY;exact he _ _ _ _
    have OP:PG Y (.Name x px) (qk 0):=qX (by rw[eN];exact T.nd) (by rw[eN];rfl) (by rw[eE];exact .inl (lookup_relabel_local T.loc)) (.inr (by rw[eE];exact lookup_relabel_local T.loc))
    have nC:∀(E':Value->Shared->Prop) (e:Value) (s':Shared),Y.xe e s'->E' e s':=fun E' e s' z=>by rw[eX] at z;exact z.elim
    refine codeAny_compLoop_tests (fun n s'=>∃i ys us H' o,Inv Y [] (o :: bU cap σ) H' s'/\tn i s'.heap/\(∀b∈fp,H' b=none)/\H' D=none/\s'.heap.get? D=some {cls:=.type "list",data:=.seq us.toArray us.length}/\Vals ys us/\W i n ys H') ?_ m0
      ⟨0,[],[],H2,none,I4,Ll,fun b hb=>(f2 b hb).1,I2.hok.fresh hD,hacc,.nil,w0⟩
    rintro n s6 ⟨i,ys,us,H6,o6,I6,HR,HS,d6,a6,v6,w6⟩
    have OQ:us.length=ys.length:=v6.length.symm
    obtain⟨hz,Ct⟩:=turn i n ys H6 w6
    rcases Ct with⟨stop,qn⟩ | ⟨go,step⟩
    . have q := tU.done Y eP eW eK GH i [] s6 (o6 :: bU cap σ) H6 (notedBy (model X.prog X.w) X.A (compEnvC scope cl C X.env) fun e s' => compPost (model X.prog X.w) X.A X.xe use Qf (.ref D) C (.error e) s') I6 (fF HS) HR stop
      rw[eA] at q
      have HU:=I6.pinned (fp:=[D]) (fun b hb=>by rw[List.mem_singleton.mp hb];exact fD d6) (fun b hb=>by rw[List.mem_singleton.mp hb];exact⟨_,a6,fun v z=>by cases z⟩)
      have q:=tU.done Y eP eW eK GH i _ s6 (o6 :: bU cap σ) H6 (notedBy (model X.prog X.w) X.A (compEnvC scope cl C X.env) fun e s'=>compPost (model X.prog X.w) X.A X.xe use Qf (.ref D) C (.error e) s') HU (fun b hb=>?_) HR stop
      . rw [eA] at q
        refine fM q fun r s7 ⟨hr,I7⟩=>?_
        subst hr
        have a7:s7.heap.get? D=_:=(I7.pin (D,{cls:=.type "list",data:=.seq us.toArray us.length}) (List.mem_append_right _ (List.mem_append_right _ (cV (List.mem_singleton.mpr rfl) a6)))).1
        obtain⟨m7,BJ,_⟩:=I7.loc
        rw[eE] at BJ
        have Cu:H6 D=none:=d6
        have OR:H6 C=none:=by have:=I7.free;rw[eE] at this;exact this
        have HV:lJ X.prog X.w H6 s7.heap:=by have q:=I7.hok;rw[eP,eW] at q;exact q
        have new:ff X.prog X.w (upd H6 D (.lst ys)) s7.heap D (.lst ys):=⟨Nat.le_of_lt hz,us,us.length,v6,a7⟩
        have u7:Un (frs X.stack) fp H2 H6 s2.heap s7.heap:=by have:=I7.base;subst hY;exact this
        have OS:∀b o,s2.heap.get? b=some o->b≠D:=fun b o e=>Nat.ne_of_lt (Nat.lt_of_lt_of_le (Heap.lt_size e) hD)
        have u8:Un (frs X.stack) fp H2 (upd H6 D (.lst ys)) s2.heap s7.heap:=
          ⟨u7.keep,u7.slot,fun b o e n hx=>by rw[aE (OS b o e)];exact u7.free b o e n hx,u7.there,
           fun b xs e=>by have z:=u7.tups b xs e;rw[aE (bu z Cu)];exact z,fun b o u e=>by have z:=u7.rG b o u e;rw[aE (bu z Cu)];exact z,
           fun b ps e=>by obtain⟨more,z⟩:=u7.tL b ps e;exact⟨more,by rw[aE (bu z Cu)];exact z⟩⟩
        have OT:s7.os=s2.os:=by have:=I7.os;subst hY;exact this
        have I9:Inv X pins σ (upd H6 D (.lst ys)) s7:=I2.Gs (ch:=fp) OT u8 (HV.GG Cu new) I7.bare fun b hb=>⟨(f2 b hb).2.2.2.1,(f2 b hb).2.1,(f2 b hb).2.2.2.2.1,(f2 b hb).2.2.2.2.2⟩
        exact hend D C s7 H6 ys I9 ⟨m7,BJ⟩ (I2.yG hC (by rw[aE (Ne.symm hDC)];exact OR)) (qn D Cu)
      . obtain⟨f0,f1,HW,f3,f4,f5⟩:=fF HS b hb
        refine⟨f0,f1,HW,f3,f4,fun p hp z=>?_⟩
        rcases List.mem_append.mp hp with q' | q'
        . exact f5 p (List.mem_append_left _ q') z
        . rcases List.mem_append.mp q' with q' | q'
          . exact absurd q' (by simp)
          . have:=(kj q').1
            rw[List.mem_singleton.mp this] at z
            exact hDf (z▸hb)
    . have HU:=I6.pinned (fp:=[D]) (fun b hb=>by rw[List.mem_singleton.mp hb];exact fD d6) (fun b hb=>by rw[List.mem_singleton.mp hb];exact⟨_,a6,fun v z=>by cases z⟩)
      have Lm:∀{H':Hp},(∀b∈fp,H' b=none)->∀b∈fp,lE Y ([]++j6 [D] s6.heap) H' b:=fun {H'} hn b hb=>by
        obtain⟨f0,f1,HW,f3,f4,f5⟩:=fF hn b hb
        refine⟨f0,f1,HW,f3,f4,fun p hp z=>?_⟩
        rcases List.mem_append.mp hp with q' | q'
        . exact f5 p (List.mem_append_left _ q') z
        . rcases List.mem_append.mp q' with q' | q'
          . exact absurd q' (by simp)
          . have:=(kj q').1
            rw[List.mem_singleton.mp this] at z
            exact hDf (z▸hb)
      have q:=tU.item Y eP eW eK GH i _ s6 (o6 :: bU cap σ) H6 (notedBy (model X.prog X.w) X.A (compEnvC scope cl C X.env) fun e s'=>compPost (model X.prog X.w) X.A X.xe use Qf (.ref D) C (.error e) s') HU (Lm HS) HR go
      rw[eA] at q
      refine fM q fun r s7 ⟨u,hr,h7⟩=>?_
      subst hr
      refine Cr h7 fun⟨xv,H8,I8,r8,y8,HX,OU⟩=>?_
      have OV:=I8.pinned (Lm OU) (tU.obj _ _ HX)
      have qa:=OP _ s7 (o6 :: bU cap σ) H8 xv u _ OV r8 (show qk 0 xv (o6 :: bU cap σ) H8 (fun σ' H'=>σ'=some xv :: bU cap σ/\H'=H8) from⟨rfl,rfl⟩)
      rw[eP,eW,eA,eE] at qa
      refine wpAny_mono qa (fun _ s9 h9=>?_) (nC _)
      obtain⟨Ur,H9,I9,e9,OW⟩:=h9
      subst e9 OW
      have qt:=ON _ s9 _ _ _ I9 (step xv _ y8)
      rw[eP,eW,eA,eE] at qt
      refine wpAny_mono qt (fun ok OX h10=>?_) (nC _)
      obtain⟨OY,Ln,EK⟩:=h10
      have back:∀{s':Shared}{H':Hp},Inv Y (([]++j6 [D] s6.heap)++j6 fp s7.heap) (some xv :: bU cap σ) H' s'->Inv Y [] (some xv :: bU cap σ) H' s'/\tn (i+1) s'.heap/\(∀b∈fp,H' b=none)/\H' D=none/\s'.heap.get? D=some {cls:=.type "list",data:=.seq us.toArray us.length}:=fun {s' H'} J=>by
        refine⟨J.jG.jG,tU.keep _ _ _ HX fun b hb o e=>(J.pin (b,o) (List.mem_append_right _ (List.mem_append_right _ (cV hb e)))).1,fun b hb=>?_,?_,?_⟩
        . obtain⟨o,e,d⟩:=tU.obj _ _ HX b hb
          exact(J.pin (b,o) (List.mem_append_right _ (List.mem_append_right _ (cV hb e)))).2.1
        . exact(J.pin (D,_) (List.mem_append_right _ (List.mem_append_left _ (List.mem_append_right _ (cV (List.mem_singleton.mpr rfl) a6))))).2.1
        . exact(J.pin (D,_) (List.mem_append_right _ (List.mem_append_left _ (List.mem_append_right _ (cV (List.mem_singleton.mpr rfl) a6))))).1
      cases ok with
      | false=>
        rw[if_neg (by decide)] at EK ⊢
        obtain⟨m',hm,OZ⟩:=EK
        obtain⟨b1,b2,b3,b4,b5⟩:=back Ln
        exact⟨m',hm,i+1,ys,us,OY,some xv,b1,b2,b3,b4,b5,v6,OZ⟩
      | true=>
        rw[if_pos rfl] at EK ⊢
        have qe:=OO _ OX _ _ _ Ln EK
        rw[eP,eW,eA,eE] at qe
        refine wpAny_mono qe (fun y HY h11=>?_) (nC _)
        obtain⟨yv,Lo,O0,O1,m',hm,O2⟩:=h11
        obtain⟨b1,b2,b3,b4,b5⟩:=back O0
        refine append_at (hsz:=by rw[List.size_toArray,OQ];exact Nat.le_of_lt hz) b5 fun h12 HZ Ia=>?_
        have Ed:∀b o,b≠D->HY.heap.get? b=some o->h12.get? b=some o:=fun b o hb e=>HZ.extBut b o hb e
        obtain⟨g0,g1,g2,g3,g4,g5⟩:=fD b4
        have O3:Inv Y [] (some xv :: bU cap σ) Lo {HY with heap:=h12}:=b1.turned (t':=HY.toks) Ed g0 g1 g3 g4 g5
        refine⟨m',hm,i+1,ys++[yv],us++[y],Lo,some xv,O3,tU.keep _ _ _ b2 fun b hb o e=>Ed b o (fun z=>hDf (z▸hb)) e,b3,b4,Ia.trans (congrArg some (Cp us y)),v6.append (.cons O1 .nil),O2⟩
  exact codeAny_compStart_list (key _ rfl) (tU.self _ 0 _ _ _ Ll (key _ rfl))
theorem Cv {X:Cx}{elt iter:Expr}{ifs:List Expr}{x:Str}{px pos:Pos}{scope:Scope}{cl:List (Str×Addr)}{bB:List Str}{cap:List Nat}{wi:TI}{tc:TT}{te:TE}
  (T:iH X x bB cap scope cl) (hc:X.calm=true) (hi:PI X (.Name x px) iter wi)
  (ht:∀C s H fp,EJ (cX X (x :: bB) scope cl C s H fp) ifs tc) (he:∀C s H fp,PE (cX X (x :: bB) scope cl C s H fp) elt te)
  (hs:∀x,foldedSetIterable iter X.env x=pure x:=by intro _;rfl):
  PE X (.ListComp elt [⟨.Name x px,iter,ifs,0⟩] scope pos) (Nd wi cap tc te):=by
 intro pins s σ H Q I h
 rw[eval_ListComp]
 refine rR T hc hi ht he hs I h ?_
 rintro p C s7 H6 ys I9 ⟨m7,BJ⟩ ⟨g0,g1,g2,g3,g4,g5⟩ q
 exact⟨m7,BJ,fun h' hs'=>⟨.ref p,_,I9.turned (t':=s7.toks) (fun b o hb e=>hs'.extBut b o hb e) g0 g1 g3 g4 g5,rfl,q⟩⟩
theorem wO {X:Cx}{elt iter:Expr}{ifs:List Expr}{x:Str}{px pos:Pos}{scope:Scope}{cl:List (Str×Addr)}{bB:List Str}{cap:List Nat}{wi:TI}{tc:TT}{te:TE}{i:Nat}{y:Str}{py spos:Pos}
  (T:iH X x bB cap scope cl) (hc:X.calm=true) (hi:PI X (.Name x px) iter wi)
  (ht:∀C s H fp,EJ (cX X (x :: bB) scope cl C s H fp) ifs tc) (he:∀C s H fp,PE (cX X (x :: bB) scope cl C s H fp) elt te)
  (hs:∀x,foldedSetIterable iter X.env x=pure x) (hN:X.N.Nodup) (hy:X.N[i]? =some y) (hx:Loc X.env.scope y)
  (hsw:swapsWith (.ListComp elt [⟨.Name x px,iter,ifs,0⟩] scope pos) (some (.Name y py)) spos.line X.env=pure true) (hf:X.fn y=true\/X.env.scope.names.lookup y=some .local):
  PS X (.Assign [.Name y py] (.ListComp elt [⟨.Name x px,iter,ifs,0⟩] scope pos) spos) (Eo (Nd wi cap tc te) (qk i)):=by
 intro pins s σ H D I h
 rw[exec_Assign_Name_used _ _ _ _ hsw]
 refine wpAny_bind (wpAny_standAt (wpAny_bind ?_))
 show wpAny _ X.A (do let _ <-comprehension (.ListComp elt [⟨.Name x px,iter,ifs,0⟩] scope pos) scope X.env _ (newList []) false (eval iter X.env) (some (assign (.Name y py) X.env))) _ _ s
 refine wpAny_bind (wpAny_mono (rR (Qf:=fun _ s'=>SP X pins D .next s') T hc hi ht he hs I h ?_) (fun _ s' hq=>wpAny_pure (wpAny_pure hq)) fun _ _ e=>e)
 rintro p C s7 H6 ys I9 ⟨m7,BJ⟩ ⟨g0,g1,g2,g3,g4,g5⟩ q
 refine wpAny_assign_Name (uz I9 hN hy hx (v:=.ref p) (show RelV (.ref p) (.ref p) from rfl) (fun s8 I8 ⟨a,hsb,ha⟩=>?_) hf)
 have hne:C≠a:=ha.elim (fun z=>by rw[z];exact g1) fun z=>Ne.symm (g4 _ _ z)
 refine⟨m7,BJ.sameBut hsb hne,fun h' hs'=>?_⟩
 exact⟨_,_,I8.turned (t':=s8.toks) (fun b o hb e=>hs'.extBut b o hb e) g0 g1 g3 g4 g5,q⟩
noncomputable def O4 (z:Str):It:=⟨fun i _=>i < z.cps.size,fun i H x H'=>H'=H/\∃c,z.cps[i]? =some c/\x= .str ⟨#[c]⟩,fun i _=>z.cps.size<=i⟩
theorem Cw {P:Program}{w:World}{K:PySem.W.Frag}{x:Str}{px:Pos}(z:Str) (it:Addr) (t:Tok) (ty:String) (hW:∀A':Around,A'.handled=none->Walks P w A' it [it] [it] z.cps.size (SignAt z) fun i h=>h.IsStrIter it ty z t i)
  (hself:∀(A:Around) (i:Nat) (s:Shared) (Q:Value->Shared->Prop) (E:Value->Shared->Prop),s.heap.IsStrIter it ty z t i->Q (.ref it) s->wpAny (model P w) A (pyIter (.ref it)) Q E s):
  Turn P w K (.Name x px) (O4 z) [it] it (fun i h=>i<=z.cps.size/\h.IsStrIter it ty z t i) where
 mem:=by simp
 obj:=fun i h st b hb=>by
  obtain rfl:b=it:=by simpa using hb
  obtain⟨o,e,c,d⟩:=st.2
  exact⟨o,e,fun v q=>by rw[d] at q;cases q⟩
 keep:=fun i h h' st k=>by
  obtain⟨o,e,r⟩:=st.2
  exact⟨st.1,o,k it (by simp) o e,r⟩
 item:=by
  intro X hP hw hK hc i pins s σ H E I hf st hg
  subst hP hw hK
  obtain⟨f0,f1,f2,f3,f4,f5⟩:=hf it (by simp)
  refine(hW X.A (I.ok.hd hc)).item i s _ _ hg st.2 fun v h' tk hv st' kk=>?_
  obtain⟨c,u,hc',rfl⟩:=hv
  exact⟨_,rfl,wpAny_pure ⟨.str ⟨#[c]⟩,H,I.turned (fun b o hb e=>kk b o (by simpa using hb) e) f0 f1 f3 f4 f5,⟨u,rfl⟩,⟨rfl,c,hc',rfl⟩,⟨hg,st'⟩,fun b hb=>(hf b hb).1⟩⟩
 done:=by
  intro X hP hw hK hc i pins s σ H E I hf st hg
  subst hP hw hK
  obtain⟨f0,f1,f2,f3,f4,f5⟩:=hf it (by simp)
  obtain⟨s1,s2⟩:=st
  have e:i=z.cps.size:=Nat.le_antisymm s1 hg
  subst e
  exact(hW X.A (I.ok.hd hc)).done s _ _ s2 fun h' tk kk=>⟨rfl,I.turned (fun b o hb e=>kk b o (by simpa using hb) e) f0 f1 f3 f4 f5⟩
 self:=fun A i s Q E st h=>hself A i s Q E st.2 h
noncomputable def O5 (tl:TE):TI:=fun σ H R=>tl σ H fun x H1=>∃z,x= .str z/\R (O4 z) H1
theorem Ib {X:Cx}{x:Str}{px:Pos}{l:Expr}{tl:TE}(hl:PE X l tl):PI X (.Name x px) l (O5 tl):=by
 intro pins s σ H R I h
 refine fM (hl pins s σ H _ I h) fun v s1 ⟨y,H1,I1,r1,q1⟩=>?_
 obtain⟨z,rfl,q⟩:=q1
 obtain⟨t,rfl⟩:=r1
 refine wpAny_pyIter_strU ?_
 have hst:∀ty,strIterType z=ty->(s1.heap.push {cls:=.type (strIterType z),data:=.fields #[.str z t,.int 0 0]}).IsStrIter s1.heap.objs.size ty z t 0:=fun ty e=>⟨_,Heap.get?_push_size _ rfl,by rw[<-e],rfl⟩
 have go:∀ty,strIterType z=ty->(∀A':Around,A'.handled=none->Walks X.prog X.w A' s1.heap.objs.size [s1.heap.objs.size] [s1.heap.objs.size] z.cps.size (SignAt z) fun i h=>h.IsStrIter s1.heap.objs.size ty z t i)->
   (∀(A:Around) (i:Nat) (s:Shared) (Q:Value->Shared->Prop) (E:Value->Shared->Prop),s.heap.IsStrIter s1.heap.objs.size ty z t i->Q (.ref s1.heap.objs.size) s->wpAny (model X.prog X.w) A (pyIter (.ref s1.heap.objs.size)) Q E s)->
   Ow X pins σ (.Name x px) R (.ref s1.heap.objs.size) {s1 with heap:=s1.heap.push {cls:=.type (strIterType z),data:=.fields #[.str z t,.int 0 0]}}:=fun ty e hW hself=>by
  refine⟨s1.heap.objs.size,[s1.heap.objs.size],_,_,H1,rfl,I1.kept (t':=s1.toks) fun b o e=>Heap.get?_push_of_some _ e,Cw z _ t ty hW hself,⟨Nat.zero_le _,hst ty e⟩,fun b hb=>?_,q⟩
  obtain rfl:b=s1.heap.objs.size:=by simpa using hb
  exact I1.yG (Nat.le_refl _) (I1.hok.fresh (Nat.le_refl _))
 cases ha:z.cps.all (· < 128)
 ·exact go "str_iterator" (by simp[strIterType,ha]) (fun A' hA=>Walks.strWide hA _ z t) fun A i s Q E st h=>wpAny_pyIter_striter_wide st h
 ·exact go "str_ascii_iterator" (by simp[strIterType,ha]) (fun A' hA=>Walks.strAscii hA _ z t) fun A i s Q E st h=>wpAny_pyIter_striter_ascii st h
theorem bw.length {H:Hp}:∀{vs:List V}{ds:List D},bw H vs ds->vs.length=ds.length
 | _,_,.nil=>rfl
 | _,_,.cons _ rs=>congrArg Nat.succ (bw.length rs)
theorem bw.get {H:Hp}:∀{vs:List V}{ds:List D}{i:Nat}{d:D},bw H vs ds->ds[i]? =some d->∃v,vs[i]? =some v/\Rep H v d
 | _,_,_,_,.nil,e=>by simp at e
 | _,_,0,_,.cons r _,e=>by simp at e;subst e;exact⟨_,rfl,r⟩
 | _,_,i+1,_,.cons _ rs,e=>by
  obtain⟨v,h1,h2⟩:=bw.get (i:=i) rs (by simpa using e)
  exact⟨v,by simpa using h1,h2⟩
theorem bw.append {H:Hp}:∀{vs ws:List V}{ds es:List D},bw H vs ds->bw H ws es->bw H (vs++ws) (ds++es)
 | _,_,_,_,.nil,s=>s
 | _,_,_,_,.cons r rs,s=>.cons r (bw.append rs s)
theorem bw.take {H:Hp}:∀{vs:List V}{ds:List D}(n:Nat),bw H vs ds->bw H (vs.take n) (ds.take n)
 | _,_,0,_=>.nil
 | _,_,_+1,.nil=>.nil
 | _,_,n+1,.cons r rs=>.cons r (bw.take n rs)
theorem bw.drop {H:Hp}:∀{vs:List V}{ds:List D}(n:Nat),bw H vs ds->bw H (vs.drop n) (ds.drop n)
 | _,_,0,rs=>rs
 | _,_,_+1,.nil=>.nil
 | _,_,n+1,.cons _ rs=>bw.drop n rs
end L2
end
section
namespace HT
open PySem PySem.Spec PyProof.Rows
section
variable {prog:Program}{w:World}{A:Around}{E:Value->Shared->Prop}{s:Shared}
end
end HT
end
section
namespace L2
open PySem PySem.Spec PyProof.Rows
section
variable {X:Cx}
theorem bw.fC {H:Hp}{vs:List V}{ds:List D}{i:Int}{d:D}(r:bw H vs ds) (h:L2.fC ds i=some d):∃v,L2.fC vs i=some v/\Rep H v d:=by
 have hl:=r.length
 unfold L2.fC at h ⊢
 rw[hl]
 cases e:wL ds.length i with
 | none=>rw[e] at h;cases h
 | some j=>
  rw[e] at h
  exact r.get h
end
theorem wQ {scope:Scope}{env:Env}{n:Str}{k:NameKind}(h:(relabel scope env).names.lookup n=some k):(n,k)∈(relabel scope env).names:=PySem.mem_of_lookup h
theorem nF {X:Cx}{x:Str}{scope:Scope}(h1:∀y∈scope.names,y.2≠.free) (h2:∀y∈scope.names,y.2≠.cell) (h3:scope.kind= .function) (h4:∀y∈scope.names,y.2= .local->scope.names.lookup y.1=some .local) (h5:scope.names.lookup x=some .local):
  iH X x [] [] scope []:=by
 refine⟨closureFor_none h1,h2,h3,h4,h5,fun n c h=>(by cases h),fun n h=>?_,by simp,rfl,fun j n h=>(by simp at h),fun n h=>(by simp at h)⟩
 have no:∀k,(k=NameKind.cell\/k=NameKind.free)->(relabel scope X.env).names.lookup n≠some k:=fun k hk e=>by
  have m:=wQ e
  unfold relabel at m
  obtain⟨⟨n',k'⟩,hm,q⟩:=List.mem_map.mp m
  have z:(k' == NameKind.free)=false:=by simpa using h1 _ hm
  simp only[z,Bool.false_and,if_false] at q
  have q2:k'=k:=by
   have:=congrArg Prod.snd q
   simpa using this
  rcases hk with rfl | rfl
  ·exact h2 _ hm q2
  ·exact h1 _ hm q2
 rcases h with h | h
 ·exact absurd h (no _ (.inl rfl))
 ·exact absurd h (no _ (.inr rfl))
mutual
noncomputable def Us (n:Nat):D->Prop
 | .str z=>z.length<=n
 | .tup ds=>ds.length<=n/\Fits n ds
 | .lst ds=>ds.length<=n/\Fits n ds
 | .cH=>True
 | .bl _=>True
 | .int _=>True
noncomputable def Fits (n:Nat):List D->Prop
 | []=>True
 | d :: ds=>Us n d/\Fits n ds
end
theorem Fits.take {n:Nat}:∀{ds:List D}(k:Nat),Fits n ds->Fits n (ds.take k)
 | _,0,_=>True.intro
 | [],_+1,_=>True.intro
 | _ :: _,k+1,h=>⟨h.1,Fits.take k h.2⟩
theorem Fits.drop {n:Nat}:∀{ds:List D}(k:Nat),Fits n ds->Fits n (ds.drop k)
 | _,0,h=>h
 | [],_+1,_=>True.intro
 | _ :: _,k+1,h=>Fits.drop k h.2
noncomputable def SY:Str:="abcdefghijklmnopqrstuvwxyz"
noncomputable def sign (c:Nat):Bool:=!(Builtin.Str.occurrences SY ⟨#[c]⟩ 0 SY.length 1).isEmpty
theorem lookup_some {α : Type} : ∀ {l : List (Str × α)} {n : Str}, n ∈ l.map (·.1) -> ∃ c, l.lookup n = some c
  | [],_,h=>by simp at h
  | (m, c) :: l, n, h => by
    rw[List.lookup_cons]
    cases e:n == m with
    | true=>exact⟨c,rfl⟩
    | false=>
      rcases List.mem_cons.mp h with h | h
      . have h:n=m:=h
        rw[h,beq_self_eq_true] at e
        cases e
      . exact lookup_some h
mutual
noncomputable def toPy:D->PyData
 | .cH=>.none
 | .bl b=>.bool b
 | .int i=>.int i
 | .str z=>.str z
 | .tup ds=>.tuple (gO ds)
 | .lst ds=>.list (gO ds)
noncomputable def gO:List D->List PyData
 | []=>[]
 | d :: ds=>toPy d :: gO ds
end
section
variable {X:Cx}{pins:List (Addr×Obj)}{σ:St}{H:Hp}{s:Shared}
end
mutual
theorem qo:∀d:D,(toPy d).hasDict=false
 | .cH=>rfl
 | .bl _=>rfl
 | .int _=>rfl
 | .str _=>rfl
 | .tup ds=>kN ds
 | .lst ds=>kN ds
theorem kN:∀ds:List D,PyData.hasDictAll (gO ds)=false
 | []=>rfl
 | d :: ds=>by
  show((toPy d).hasDict || PyData.hasDictAll (gO ds))=false
  rw[qo d,kN ds]
  rfl
end
inductive MO where
 | lst (ds:List D)
 | dct (kvs:List (Key×D))
 | mX (kvs:List (D×D))
 | ins (C:Addr) (kvs:List (Str×D))
inductive U where
 | t (d:D) | m (o:MO) | b (o:MO) | v (i:Nat) | s (ns:List Int) | f (a:Addr)
noncomputable abbrev SS:=List (Option U)
noncomputable def Sub (F H:Hp):Prop:=∀a o,F a=some o->H a=some o
noncomputable def jf {κ:Type}(F:Hp) (p:κ×V) (q:κ×D):Prop:=p.1=q.1/\Rep F p.2 q.2
noncomputable def At (F H:Hp) (a:Addr):MO->Prop
 | .lst ds=>∃vs,H a=some (.lst vs)/\bw F vs ds
 | .dct kvs=>∃ws,H a=some (.dK ws)/\Paired (jf F) ws kvs
 | .mX kvs=>∃ws,H a=some (.dT ws)/\Paired (jf F) ws kvs
 | .ins C kvs=>∃ws,(∃dx,H a=some (.ins C dx ws))/\Paired (jf F) ws kvs
noncomputable def fZ:U->Bool
 | .m _=>true
 | .b _=>true
 | _=>false
noncomputable def cy (S:SS) (σ:St) (a:Addr):Prop:=∃(i:Nat) (u:U),S[i]? =some (some u)/\fZ u=true/\σ[i]? =some (some (.ref a))
noncomputable def EL (K:PySem.W.Frag) (H:Hp) (a:Addr) (ns:List Int):Prop:=
 (∃o,H a=some (.jw o (.lst (ns.map V.int))))\/∃(o:Obj) (its:Array Value) (n:Nat),K.lookup a=some o/\o.cls= .type "list"/\o.dict=none/\o.data= .seq its n/\its.size<=sizeLine/\Vals (ns.map V.int) its.toList
theorem EL.sq {K:PySem.W.Frag}{H:Hp}{a:Addr}{ns:List Int}:EL K H a ns->nB K H a (ns.map V.int)
 | .inl h=>.inl (.inr h)
 | .inr h=>.inr h
noncomputable def rT (K:PySem.W.Frag) (F H:Hp) (v:V):U->Prop
 | .t d=>Rep F v d
 | .m o=>∃a,v= .ref a/\F a=none/\At F H a o
 | .b o=>∃a,v= .ref a/\F a=none/\At F H a o
 | .v _=>False
 | .s ns=>∃a,v= .ref a/\EL K H a ns
 | .f a=>v= .ref a
structure Ext (M:Addr->Prop) (F H F' H':Hp):Prop where
 le:∀b o,F b=some o->F' b=some o
 keep:∀b o,H b=some o->¬M b->H' b=some o
 iE:∀b o,H b=some o->¬M b->F b=none->F' b=none
 there:∀b o,H b=some o->∃o',H' b=some o'
 jw:∀b o u,H b=some (.jw o u)->H' b=some (.jw o u)
structure Base where
 P:List (Option Addr)
 F:Hp
 H:Hp
noncomputable def Base.M (B:Base) (a:Addr):Prop:=some a∈B.P
structure Rel (K:PySem.W.Frag) (B:Base) (S:SS) (σ:St) (F H:Hp):Prop where
 sub:Sub F H
 len:S.length=σ.length
 rep:∀(i:Nat) u,S[i]? =some (some u)->∃v,σ[i]? =some (some v)/\rT K F H v u
 wR:∀(i j:Nat) u w a,S[i]? =some (some u)->fZ u=true->S[j]? =some (some w)->fZ w=true->σ[i]? =some (some (.ref a))->σ[j]? =some (some (.ref a))->i=j
 own:∀(i:Nat) o a,S[i]? =some (some (.m o))->σ[i]? =some (some (.ref a))->B.H a=none
 bor:∀(i:Nat) o a,S[i]? =some (some (.b o))->σ[i]? =some (some (.ref a))->B.M a
 par:∀(i:Nat) a,B.P[i]? =some (some a)->σ[i]? =some (some (.ref a))/\∃o,S[i]? =some (some (.b o))
 ext:Ext B.M B.F B.H F H
structure Step (S S':SS) (σ:St) (F H F' H':Hp):Prop where
 ext:Ext (cy S σ) F H F' H'
 mu:∀a,cy S' σ a->cy S σ a
 slots:∀(i:Nat) u,S[i]? =some (some u)->∃u',S'[i]? =some (some u')
theorem Ext.refl (M:Addr->Prop) (F H:Hp):Ext M F H F H:=⟨fun _ _ h=>h,fun _ _ h _=>h,fun _ _ _ _ h=>h,fun _ o h=>⟨o,h⟩,fun _ _ _ h=>h⟩
theorem Ext.trans {M M':Addr->Prop}{F H F1 H1 F2 H2:Hp}(x:Ext M F H F1 H1) (y:Ext M' F1 H1 F2 H2) (s:∀b,M' b->M b\/H b=none):Ext M F H F2 H2 where
 le:=fun b o h=>y.le b o (x.le b o h)
 keep:=fun b o h n=>y.keep b o (x.keep b o h n) fun q=>(s b q).elim n fun z=>by rw[h] at z;cases z
 iE:=fun b o h n f=>y.iE b o (x.keep b o h n) (fun q=>(s b q).elim n fun z=>by rw[h] at z;cases z) (x.iE b o h n f)
 there:=fun b o h=>let⟨o',h'⟩:=x.there b o h;y.there b o' h'
 jw:=fun b o u h=>y.jw b o u (x.jw b o u h)
theorem Step.refl (S:SS) (σ:St) (F H:Hp):Step S S σ F H F H:=⟨Ext.refl _ _ _,fun _ h=>h,fun _ u h=>⟨u,h⟩⟩
theorem Step.trans {S S1 S2:SS}{σ:St}{F H F1 H1 F2 H2:Hp}(x:Step S S1 σ F H F1 H1) (y:Step S1 S2 σ F1 H1 F2 H2):Step S S2 σ F H F2 H2:=
 ⟨x.ext.trans y.ext fun b q=>.inl (x.mu b q),fun a q=>x.mu a (y.mu a q),fun i u h=>let⟨u',h'⟩:=x.slots i u h;y.slots i u' h'⟩
mutual
theorem Rep.le {F F':Hp}(g:∀b o,F b=some o->F' b=some o):∀{v:V}{d:D},Rep F v d->Rep F' v d
 | _,_,.cH=>.cH
 | _,_,.bl b=>.bl b
 | _,_,.int i=>.int i
 | _,_,.str z=>.str z
 | _,_,.tup e r=>.tup (g _ _ e) (bw.le g r)
 | _,_,.lst e r=>.lst (g _ _ e) (bw.le g r)
theorem bw.le {F F':Hp}(g:∀b o,F b=some o->F' b=some o):∀{vs:List V}{ds:List D},bw F vs ds->bw F' vs ds
 | _,_,.nil=>.nil
 | _,_,.cons r rs=>.cons (Rep.le g r) (bw.le g rs)
end
theorem rU {κ:Type}{F F':Hp}(g:∀b o,F b=some o->F' b=some o){ws:List (κ×V)}{kvs:List (κ×D)}(r:Paired (jf F) ws kvs):Paired (jf F') ws kvs:=
 Paired.AO r fun _ _ z=>⟨z.1,z.2.le g⟩
theorem At.le {F F' H H':Hp}{a:Addr}(g:∀b o,F b=some o->F' b=some o) (k:∀o,H a=some o->H' a=some o):∀{o:MO},At F H a o->At F' H' a o
 | .lst _,⟨vs,e,r⟩=>⟨vs,k _ e,r.le g⟩
 | .dct _,⟨ws,e,r⟩=>⟨ws,k _ e,rU g r⟩
 | .mX _,⟨ws,e,r⟩=>⟨ws,k _ e,rU g r⟩
 | .ins _ _,⟨ws,⟨dx,e⟩,r⟩=>⟨ws,⟨dx,k _ e⟩,rU g r⟩
theorem At.has {F H:Hp}{a:Addr}:∀{o:MO},At F H a o->∃u,H a=some u
 | .lst _,⟨_,e,_⟩=>⟨_,e⟩
 | .dct _,⟨_,e,_⟩=>⟨_,e⟩
 | .mX _,⟨_,e,_⟩=>⟨_,e⟩
 | .ins _ _,⟨_,⟨_,e⟩,_⟩=>⟨_,e⟩
noncomputable def jH (K:PySem.W.Frag) (B:Base) (S:SS) (σ:St) (H0 F H:Hp) (v:V):U->Prop
 | .t d=>Rep F v d
 | .m o=>∃a,v= .ref a/\H0 a=none/\F a=none/\At F H a o/\¬cy S σ a/\B.H a=none
 | .v i=>σ[i]? =some (some v)/\∃u,S[i]? =some (some u)
 | .b _=>False
 | .s ns=>∃a,v= .ref a/\EL K H a ns
 | .f a=>v= .ref a
theorem PE.imp {X:Cx}{e:Expr}{t t':TE}(h:PE X e t) (k:∀σ H Q,t' σ H Q->t σ H Q):PE X e t':=fun pins s σ H Q I q=>h pins s σ H Q I (k σ H Q q)
theorem PT.imp {X:Cx}{e:Expr}{t t':TT}(h:PT X e t) (k:∀σ H Q,t' σ H Q->t σ H Q):PT X e t':=fun pins s σ H Q I q=>h pins s σ H Q I (k σ H Q q)
theorem PW.imp {X:Cx}{e:Expr}{t t':TT}(h:PW X e t) (k:∀σ H Q,t' σ H Q->t σ H Q):PW X e t':=fun w pins s σ H Q I q=>h w pins s σ H Q I (k σ H Q q)
theorem PA.imp {X:Cx}{e:List Expr}{t t':TA}(h:PA X e t) (k:∀σ H Q,t' σ H Q->t σ H Q):PA X e t':=fun p pins s σ H Q I q=>h p pins s σ H Q I (k σ H Q q)
theorem PS.imp {X:Cx}{e:Stmt}{t t':TS}(h:PS X e t) (k:∀D σ H,t' D σ H->t D σ H):PS X e t':=fun pins s σ H Q I q=>h pins s σ H Q I (k Q σ H q)
theorem wC.imp {X:Cx}{e:List Stmt}{t t':TS}(h:wC X e t) (k:∀D σ H,t' D σ H->t D σ H):wC X e t':=fun pins s σ H Q I q=>h pins s σ H Q I (k Q σ H q)
theorem PE.orelse {X:Cx}{e:Expr}{t:TE}(h:∀σ H Q,t σ H Q->∃t',PE X e t'/\t' σ H Q):PE X e t:=fun pins s σ H Q I q=>let⟨_,h1,h2⟩:=h σ H Q q;h1 pins s σ H Q I h2
theorem PS.orelse {X:Cx}{e:Stmt}{t:TS}(h:∀D σ H,t D σ H->∃t',PS X e t'/\t' D σ H):PS X e t:=fun pins s σ H Q I q=>let⟨_,h1,h2⟩:=h Q σ H q;h1 pins s σ H Q I h2
noncomputable abbrev GE:=SS->Option (U×SS)
noncomputable abbrev GD:=SS->Option (D×SS)
noncomputable abbrev GT:=SS->Option (Bool×SS)
noncomputable abbrev GA:=SS->Option (List D×SS)
inductive Out where
 | nx (S:SS) | rt (u:U) (S:SS) | bk (S:SS) | ct (S:SS)
noncomputable abbrev GS:=SS->Option Out
noncomputable def tE (K:PySem.W.Frag) (B:Base) (g:GE):TE:=fun σ H Q=>∃S F u S',Rel K B S σ F H/\g S=some (u,S')/\∀v F' H',Rel K B S' σ F' H'->Step S S' σ F H F' H'->jH K B S' σ H F' H' v u->Q v H'
noncomputable def tD (K:PySem.W.Frag) (B:Base) (g:GD):TE:=fun σ H Q=>∃S F d S',Rel K B S σ F H/\g S=some (d,S')/\∀v F' H',Rel K B S' σ F' H'->Step S S' σ F H F' H'->Rep F' v d->Q v H'
noncomputable def tQ (K:PySem.W.Frag) (B:Base) (g:GT):TT:=fun σ H Q=>∃S F b S',Rel K B S σ F H/\g S=some (b,S')/\∀F' H',Rel K B S' σ F' H'->Step S S' σ F H F' H'->Q b H'
noncomputable def S4 (K:PySem.W.Frag) (B:Base) (g:GA):TA:=fun σ H Q=>∃S F ds S',Rel K B S σ F H/\g S=some (ds,S')/\∀vs F' H',Rel K B S' σ F' H'->Step S S' σ F H F' H'->bw F' vs ds->Q vs H'
noncomputable def zY (K:PySem.W.Frag) (B:Base) (F:Hp) (D:Ends):Out->Prop
 | .nx S=>∀σ' F' H',Rel K B S σ' F' H'->(∀b o,F b=some o->F' b=some o)->D.nx σ' H'
 | .bk S=>∀σ' F' H',Rel K B S σ' F' H'->(∀b o,F b=some o->F' b=some o)->D.bk σ' H'
 | .ct S=>∀σ' F' H',Rel K B S σ' F' H'->(∀b o,F b=some o->F' b=some o)->D.ct σ' H'
 | .rt u S=>∀v σ' F' H',Rel K B S σ' F' H'->(∀b o,F b=some o->F' b=some o)->jH K B S σ' B.H F' H' v u->D.rt v H'
noncomputable def tO (K:PySem.W.Frag) (B:Base) (g:GS):TS:=fun D σ H=>∃S F o,Rel K B S σ F H/\g S=some o/\zY K B F D o
structure JE (X:Cx) (e:Expr) (g:GE):Prop where
 h:∀B,PE X e (tE X.K B g)
structure JD (X:Cx) (e:Expr) (g:GD):Prop where
 h:∀B,PE X e (tD X.K B g)
structure JT (X:Cx) (e:Expr) (g:GT):Prop where
 h:∀B,PT X e (tQ X.K B g)
structure JW (X:Cx) (e:Expr) (g:GT):Prop where
 h:∀B,PW X e (tQ X.K B g)
structure JA (X:Cx) (es:List Expr) (g:GA):Prop where
 h:∀B,PA X es (S4 X.K B g)
structure JS (X:Cx) (st:Stmt) (g:GS):Prop where
 h:∀B,PS X st (tO X.K B g)
structure JB (X:Cx) (st:List Stmt) (g:GS):Prop where
 h:∀B,wC X st (tO X.K B g)
noncomputable def fz:U->SS->Option (D×SS)
 | .t d,S=>some (d,S)
 | .m (.lst ds),S=>some (.lst ds,S)
 | .v i,S=>match S[i]? with
  | some (some (.t d))=>some (d,S)
  | some (some (.m (.lst ds)))=>some (.lst ds,S.set i (some (.t (.lst ds))))
  | _=>none
 | _,_=>none
theorem get_set {α:Type}{l:List α}{i j:Nat}{x y:α}(h:(l.set i x)[j]? =some y):(i=j/\x=y/\i < l.length)\/(i≠j/\l[j]? =some y):=by
 by_cases e:i=j
 ·subst e
  by_cases hl:i < l.length
  ·rw[List.getElem?_set_self hl] at h;exact .inl ⟨rfl,Option.some.inj h,hl⟩
  ·rw[List.getElem?_eq_none (by simpa using hl)] at h;cases h
 ·rw[List.getElem?_set_ne e] at h;exact .inr ⟨e,h⟩
theorem Sub.jw {F H:Hp}{a:Addr}{o:HO}(s:Sub F H) (h:H a=some o):Sub (upd F a o) H:=fun b u e=>by
 by_cases hb:b=a
 ·subst hb;rw[aL] at e;cases e;exact h
 ·rw[aE hb] at e;exact s b u e
theorem Sub.fresh {F H:Hp}{p:Addr}(s:Sub F H) (h:H p=Option.none):F p=Option.none:=by
 cases e:F p with
 | none=>rfl
 | some o=>have q:=s p o e;rw[h] at q;cases q
theorem nG {F:Hp}{a:Addr}{o:HO}(h:F a=none):∀b u,F b=some u->upd F a o b=some u:=fun b u e=>by rw[aE (bu e h)];exact e
theorem EL.le {K:PySem.W.Frag}{H H':Hp}{a:Addr}{ns:List Int}(k:∀b o u,H b=some (.jw o u)->H' b=some (.jw o u)):EL K H a ns->EL K H' a ns
 | .inl ⟨o,h⟩=>.inl ⟨o,k _ _ _ h⟩
 | .inr h=>.inr h
theorem rT.le {K:PySem.W.Frag}{F F' H H':Hp}{v:V}(g:∀b o,F b=some o->F' b=some o) (kf:∀b o u,H b=some (.jw o u)->H' b=some (.jw o u)):∀{u:U},rT K F H v u->(∀a,fZ u=true->v= .ref a->(∀o,H a=some o->H' a=some o)/\F' a=none)->rT K F' H' v u
 | .t _,h,_=>Rep.le g h
 | .m _,⟨a,e,_,h⟩,k=>let⟨k1,k2⟩:=k a rfl e;⟨a,e,k2,h.le g k1⟩
 | .b _,⟨a,e,_,h⟩,k=>let⟨k1,k2⟩:=k a rfl e;⟨a,e,k2,h.le g k1⟩
 | .v _,h,_=>h
 | .s _,⟨a,e,h⟩,_=>⟨a,e,h.le kf⟩
 | .f _,h,_=>h
theorem Cy {K : PySem.W.Frag} {B : Base} {S S' : SS} {σ : St} {H0 F0 F H : Hp} {v : V} {u : U} {d : D} {S0 : SS} (R : Rel K B S σ F H) (st : Step S0 S σ F0 H0 F H) (r : jH K B S σ H0 F H v u) (e : fz u S = some (d, S')) :
    ∃F',Rel K B S' σ F' H/\Step S0 S' σ F0 H0 F' H/\Rep F' v d:=by
  cases u with
  | t d'=>cases e;exact⟨F,R,st,r⟩
  | b o=>cases r
  | s o=>cases e
  | f o=>cases e
  | m o =>
    cases o with
    | dct kvs=>cases e
    | mX kvs=>cases e
    | ins C kvs=>cases e
    | lst ds=>
      cases e
      obtain⟨a,rfl,h0,hf,⟨vs,ha,rs⟩,nm,hB⟩:=r
      have g:=nG (o:=.lst vs) hf
      refine⟨upd F a (.lst vs),⟨R.sub.jw ha,R.len,fun i u h=>?_,R.wR,R.own,R.bor,R.par,?_⟩,⟨⟨fun b o h=>g b o (st.ext.le b o h),st.ext.keep,fun b o h n f=>?_,st.ext.there,st.ext.jw⟩,st.mu,st.slots⟩,.lst aL (rs.le g)⟩
      . obtain⟨w,h1,h2⟩:=R.rep i u h
        refine⟨w,h1,h2.le g (fun _ _ _ z=>z) fun c hm hc=>⟨fun o q=>q,?_⟩⟩
        have hca:c≠a:=fun z=>nm ⟨i,u,h,hm,by rw[h1,hc,z]⟩
        rw[aE hca]
        cases u with
        | m o=>obtain⟨c',e',f',_⟩:=h2;rw[hc] at e';cases e';exact f'
        | b o=>obtain⟨c',e',f',_⟩:=h2;rw[hc] at e';cases e';exact f'
        | t d=>cases hm
        | v j=>cases hm
        | s j=>cases hm
        | f j=>cases hm
      . exact⟨fun b o h=>g b o (R.ext.le b o h),R.ext.keep,fun b o h n f=>by rw[aE (fun z=>by rw[z,hB] at h;cases h)];exact R.ext.iE b o h n f,R.ext.there,R.ext.jw⟩
      . rw[aE (fun z=>by rw[z,h0] at h;cases h)]
        exact st.ext.iE b o h n f
  | v i =>
    obtain⟨hv,u,hu⟩:=r
    unfold fz at e
    simp only[hu] at e
    cases u with
    | t d'=>
      cases e
      obtain⟨w,h1,h2⟩:=R.rep i _ hu
      rw[hv] at h1
      cases h1
      exact⟨F,R,st,h2⟩
    | b o=>cases e
    | v j=>cases e
    | s j=>cases e
    | f j=>cases e
    | m o =>
      cases o with
      | dct kvs=>cases e
      | mX kvs=>cases e
      | ins C kvs=>cases e
      | lst ds =>
        cases e
        obtain⟨w,h1,a,rfl,hf,⟨vs,ha,rs⟩⟩:=R.rep i _ hu
        have hiv:σ[i]? =some (some (.ref a)):=h1
        rw[hv] at h1
        cases h1
        have hB:=R.own i _ a hu hiv
        have g:=nG (o:=.lst vs) hf
        have back:∀j w,(S.set i (some (.t (.lst ds))))[j]? =some (some w)->fZ w=true->i≠j/\S[j]? =some (some w):=fun j w h hm=>by
          rcases get_set h with⟨_,q,_⟩ | q
          . cases q;cases hm
          . exact q
        have mu:∀c,cy (S.set i (some (.t (.lst ds)))) σ c->cy S σ c:=fun c ⟨j,w,h,hm,z⟩=>⟨j,w,(back j w h hm).2,hm,z⟩
        refine⟨upd F a (.lst vs),⟨R.sub.jw ha,by rw[List.length_set];exact R.len,fun j u h=>?_,fun j k u w c h1 m1 h2 m2=>R.wR j k u w c (back j u h1 m1).2 m1 (back k w h2 m2).2 m2,fun j o c h=>R.own j o c (back j _ h rfl).2,fun j o c h=>R.bor j o c (back j _ h rfl).2,fun j c h=>?_,?_⟩,
          ⟨⟨fun b o h=>g b o (st.ext.le b o h),st.ext.keep,fun b o h n f=>?_,st.ext.there,st.ext.jw⟩,fun c q=>st.mu c (mu c q),fun j u h=>?_⟩,.lst aL (rs.le g)⟩
        . rcases get_set h with⟨rfl,q,_⟩ | ⟨ne,q⟩
          . cases q
            exact⟨.ref a,hiv,.lst aL (rs.le g)⟩
          . obtain⟨w,h1,h2⟩:=R.rep j u q
            refine⟨w,h1,h2.le g (fun _ _ _ z=>z) fun c hm hc=>⟨fun o q=>q,?_⟩⟩
            have hca:c≠a:=fun z=>ne (R.wR i j _ u a hu rfl q hm hiv (by rw[h1,hc,z]))
            rw[aE hca]
            cases u with
            | m o=>obtain⟨c',e',f',_⟩:=h2;rw[hc] at e';cases e';exact f'
            | b o=>obtain⟨c',e',f',_⟩:=h2;rw[hc] at e';cases e';exact f'
            | t d=>cases hm
            | v j=>cases hm
            | s j=>cases hm
            | f j=>cases hm
        . obtain⟨h1,o,h2⟩:=R.par j c h
          refine⟨h1,o,?_⟩
          have ne:i≠j:=fun z=>by subst z;rw[hu] at h2;cases h2
          rw[List.getElem?_set_ne ne]
          exact h2
        . exact⟨fun b o h=>g b o (R.ext.le b o h),R.ext.keep,fun b o h n f=>by rw[aE (fun z=>by rw[z,hB] at h;cases h)];exact R.ext.iE b o h n f,R.ext.there,R.ext.jw⟩
        . have hb:b≠a:=fun z=>n (st.mu b ⟨i,_,hu,rfl,by rw[z];exact hiv⟩)
          rw[aE hb]
          exact st.ext.iE b o h n f
        . obtain⟨u',h'⟩:=st.slots j u h
          by_cases hj:i=j
          . subst hj
            exact⟨.t (.lst ds),List.getElem?_set_self (List.getElem?_eq_some_iff.mp h').1⟩
          . exact⟨u',by rw[List.getElem?_set_ne hj];exact h'⟩
noncomputable def eF (g:GE):GD:=fun S=>(g S).bind fun p=>fz p.1 p.2
theorem JE.d {X:Cx}{e:Expr}{g:GE}(h:JE X e g):JD X e (eF g):=⟨fun B=>(h.h B).imp fun σ H Q ⟨S,F,d,S',R,hg,q⟩=>by
 unfold eF at hg
 cases e1:g S with
 | none=>rw[e1] at hg;cases hg
 | some p=>
  obtain⟨u,S1⟩:=p
  rw[e1] at hg
  refine⟨S,F,u,S1,R,e1,fun v F1 H1 R1 st1 r1=>?_⟩
  obtain⟨F2,R2,st2,r2⟩:=Cy R1 st1 r1 hg
  exact q v F2 H1 R2 st2 r2⟩
noncomputable def eT (g:GD):GE:=fun S=>(g S).map fun p=>(.t p.1,p.2)
theorem JD.e {X:Cx}{e:Expr}{g:GD}(h:JD X e g):JE X e (eT g):=⟨fun B=>(h.h B).imp fun σ H Q ⟨S,F,u,S',R,hg,q⟩=>by
 unfold eT at hg
 cases e1:g S with
 | none=>rw[e1] at hg;cases hg
 | some p=>
  obtain⟨d,S1⟩:=p
  rw[e1] at hg
  cases hg
  exact⟨S,F,d,S1,R,e1,fun v F1 H1 R1 st1 r1=>q v F1 H1 R1 st1 r1⟩⟩
structure iB (F H F' H':Hp):Prop where
 le:∀b o,F b=some o->F' b=some o
 same:∀b o,H b=some o->H' b=some o
 iE:∀b o,H b=some o->F b=none->F' b=none
theorem iB.refl (F H:Hp):iB F H F H:=⟨fun _ _ h=>h,fun _ _ h=>h,fun _ _ _ h=>h⟩
theorem iB.trans {F H F1 H1 F2 H2:Hp}(x:iB F H F1 H1) (y:iB F1 H1 F2 H2):iB F H F2 H2:=
 ⟨fun b o h=>y.le b o (x.le b o h),fun b o h=>y.same b o (x.same b o h),fun b o h f=>y.iE b o (x.same b o h) (x.iE b o h f)⟩
theorem iB.step {S:SS}{σ:St}{F H F' H':Hp}(n:iB F H F' H'):Step S S σ F H F' H':=
 ⟨⟨n.le,fun b o h _=>n.same b o h,fun b o h _ f=>n.iE b o h f,fun b o h=>⟨o,n.same b o h⟩,fun b o u h=>n.same b _ h⟩,fun _ h=>h,fun _ u h=>⟨u,h⟩⟩
theorem iB.obj {F H:Hp}{p:Addr}(h:H p=none) (o:HO):iB F H F (upd H p o):=
 ⟨fun _ _ q=>q,fun b u q=>by rw[aE (bu q h)];exact q,fun _ _ _ q=>q⟩
theorem Sub.same {F H H':Hp}(s:Sub F H) (k:∀b o,H b=some o->H' b=some o):Sub F H':=fun a o e=>k a o (s a o e)
theorem Sub.vm {F H:Hp}{p:Addr}{o:HO}(s:Sub F H) (h:H p=none):Sub (upd F p o) (upd H p o):=fun b u e=>by
 by_cases hb:b=p
 ·subst hb;rw[aL] at e;cases e;exact aL
 ·rw[aE hb] at e;have q:=s b u e;rw[aE (bu q h)];exact q
theorem iB.root {F H:Hp}{p:Addr}(s:Sub F H) (h:H p=none) (o:HO):iB F H (upd F p o) (upd H p o):=
 ⟨nG (s.fresh h),fun b u q=>by rw[aE (bu q h)];exact q,fun b u q f=>by rw[aE (bu q h)];exact f⟩
theorem Rel.has {K:PySem.W.Frag}{B:Base}{S:SS}{σ:St}{F H:Hp}(R:Rel K B S σ F H){a:Addr}(m:cy S σ a):∃o,H a=some o:=by
 obtain⟨i,u,h,hm,hv⟩:=m
 obtain⟨v,h1,h2⟩:=R.rep i u h
 rw[hv] at h1
 cases h1
 cases u with
 | t d=>cases hm
 | v j=>cases hm
 | s j=>cases hm
 | f j=>cases hm
 | m o=>obtain⟨b,e,_,h⟩:=h2;cases e;exact h.has
 | b o=>obtain⟨b,e,_,h⟩:=h2;cases e;exact h.has
theorem Rel.new {K:PySem.W.Frag}{B:Base}{S:SS}{σ:St}{F H F' H':Hp}(R:Rel K B S σ F H) (n:iB F H F' H') (s:Sub F' H'):Rel K B S σ F' H' where
 sub:=s
 len:=R.len
 rep:=fun i u h=>by
  obtain⟨v,h1,h2⟩:=R.rep i u h
  refine⟨v,h1,h2.le n.le (fun b o u z=>n.same b _ z) fun a hm ha=>⟨fun o q=>n.same a o q,?_⟩⟩
  obtain⟨o,ho⟩:=R.has ⟨i,u,h,hm,by rw[h1,ha]⟩
  refine n.iE a o ho ?_
  cases u with
  | t d=>cases hm
  | v j=>cases hm
  | s j=>cases hm
  | f j=>cases hm
  | m o=>obtain⟨b,e,f,_⟩:=h2;rw[ha] at e;cases e;exact f
  | b o=>obtain⟨b,e,f,_⟩:=h2;rw[ha] at e;cases e;exact f
 wR:=R.wR
 own:=R.own
 bor:=R.bor
 par:=R.par
 ext:=⟨fun b o h=>n.le b o (R.ext.le b o h),fun b o h m=>n.same b o (R.ext.keep b o h m),fun b o h m f=>n.iE b o (R.ext.keep b o h m) (R.ext.iE b o h m f),fun b o h=>let⟨o',h'⟩:=R.ext.there b o h;⟨o',n.same b o' h'⟩,fun b o u h=>n.same b _ (R.ext.jw b o u h)⟩
noncomputable def Cz (H0 F H:Hp) (v:V):U->Prop
 | .t d=>Rep F v d
 | .m o=>∃a,v= .ref a/\H0 a=none/\F a=none/\At F H a o
 | _=>False
theorem none_of {H H':Hp}{a:Addr}(t:∀b o,H b=some o->∃o',H' b=some o') (h:H' a=none):H a=none:=by
 cases e:H a with
 | none=>rfl
 | some o=>obtain⟨o',h'⟩:=t a o e;rw[h] at h';cases h'
theorem Cz.Ic {K:PySem.W.Frag}{B:Base}{S S0:SS}{σ:St}{H0 F0 F1 H1 F H:Hp}{v:V}{u:U}(R:Rel K B S σ F1 H1) (st:Step S0 S σ F0 H0 F1 H1) (r:Cz H1 F H v u):jH K B S σ H0 F H v u:=by
 cases u with
 | t d=>exact r
 | b o=>cases r
 | v i=>cases r
 | s i=>cases r
 | f i=>cases r
 | m o=>
  obtain⟨a,e,h0,f,h⟩:=r
  refine⟨a,e,none_of st.ext.there h0,f,h,fun m=>?_,none_of R.ext.there h0⟩
  obtain⟨o,ho⟩:=R.has m
  rw[h0] at ho
  cases ho
noncomputable def rP (f:List D->Option U):List V->Hp->VK->Prop:=fun xs H Q=>∃F ds u,Sub F H/\bw F xs ds/\f ds=some u/\∀v F' H',iB F H F' H'->Sub F' H'->Cz H F' H' v u->Q v H'
noncomputable def uH:D->Bool
 | .tup _=>false
 | .lst _=>false
 | _=>true
noncomputable def toV:D->V
 | .bl b=>.bl b
 | .int i=>.int i
 | .str z=>.str z
 | _=>.cH
theorem wU {F:Hp}:∀{d:D},uH d=true->Rep F (toV d) d
 | .cH,_=>.cH
 | .bl b,_=>.bl b
 | .int i,_=>.int i
 | .str z,_=>.str z
 | .tup _,h=>by cases h
 | .lst _,h=>by cases h
noncomputable def aj (i:Nat):GE:=fun S=>match S[i]? with
 | some (some (.t d))=>some (.t d,S)
 | some (some (.s d))=>some (.s d,S) | some (some (.f d))=>some (.f d,S)
 | some (some _)=>some (.v i,S)
 | _=>none
noncomputable def eC (d:D):GD:=fun S=>some (d,S)
noncomputable def ao:GA:=fun S=>some ([],S)
noncomputable def aa (g:GD) (ga:GA):GA:=fun S=>(g S).bind fun p=>(ga p.2).map fun q=>(p.1 :: q.1,q.2)
noncomputable def eP (f:List D->Option U) (ga:GA):GE:=fun S=>(ga S).bind fun p=>(f p.1).map fun u=>(u,p.2)
section
variable {X:Cx}{a b c e:Expr}{es:List Expr}{pos p p2:Pos}{x:Str}{g ga gb gc:GD}{gA:GA}{f f':List D->Option U}
theorem ak (i:Nat) (hN:X.N[i]? =some x:=by rfl) (hv:AR X.env.scope x:=by first | exact Or.inl rfl | exact Or.inr (Or.inl rfl) | exact Or.inr (Or.inr rfl)) (hd:(x == ("__debug__":Str))=false:=by decide)
  (hcd:(x == ("__classdict__":Str))=false:=by decide):JE X (.Name x pos) (aj i):=⟨fun B=>(iF hN hv hd hcd).imp fun σ H Q ⟨S,F,u,S',R,hg,q⟩=>by
 unfold aj at hg
 cases hs:S[i]? with
 | none=>rw[hs] at hg;cases hg
 | some o=>
  cases o with
  | none=>rw[hs] at hg;cases hg
  | some w=>
   rw[hs] at hg
   obtain⟨v,h1,h2⟩:=R.rep i w hs
   refine⟨v,h1,?_⟩
   cases w with
   | t d=>cases hg;exact q v F H R (Step.refl ..) h2
   | m o=>cases hg;exact q v F H R (Step.refl ..) ⟨h1,_,hs⟩
   | b o=>cases hg;exact q v F H R (Step.refl ..) ⟨h1,_,hs⟩
   | s j=>cases hg;exact q v F H R (Step.refl ..) h2
   | f j=>cases hg;exact q v F H R (Step.refl ..) h2
   | v j=>cases hg;exact q v F H R (Step.refl ..) ⟨h1,_,hs⟩⟩
theorem EM {d:D}(hf:uH d=true) (h:PE X e (tC (toV d))):JD X e (eC d):=⟨fun B=>h.imp fun σ H Q ⟨S,F,u,S',R,hg,q⟩=>by
 cases hg
 exact q _ F H R (Step.refl ..) (wU hf)⟩
theorem aG {i j}:JD X (.Constant (.int i) j pos) (eC (.int i)):=EM rfl G9
theorem qp {i j}:JD X (.Constant (.bool i) j pos) (eC (.bl i)):=EM rfl KG
theorem yS {j}:JD X (.Constant .none j pos) (eC .cH):=EM rfl Hf
theorem kO {i j}:JD X (.Constant (.str i) j pos) (eC (.str i)):=EM rfl Hg
theorem aC:JA X [] ao:=⟨fun B=>pC.imp fun σ H Q ⟨S,F,u,S',R,hg,q⟩=>by
 cases hg
 exact q [] F H R (Step.refl ..) .nil⟩
theorem ah {α β:Type}{o:Option α}{f:α->Option β}{y:β}(h:o.bind f=some y):∃z,o=some z/\f z=some y:=by
 cases o with
 | none=>cases h
 | some z=>exact⟨z,rfl,h⟩
theorem az {α β:Type}{o:Option α}{f:α->β}{y:β}(h:o.map f=some y):∃z,o=some z/\f z=y:=by
 cases o with
 | none=>cases h
 | some z=>exact⟨z,rfl,Option.some.inj h⟩
theorem aq (h:JD X e g) (hr:JA X es gA) (hs:starEach (e :: es) X.env=(false,eval e X.env) :: starEach es X.env:=by rfl):JA X (e :: es) (aa g gA):=
 ⟨fun B=>(mJ (h.h B) (hr.h B) hs).imp fun σ H Q ⟨S,F,u,S',R,hg,q⟩=>by
 obtain⟨⟨d,S1⟩,h1,hg⟩:=ah hg
 obtain⟨⟨ds,S2⟩,h2,hg⟩:=az hg
 cases hg
 exact⟨S,F,d,S1,R,h1,fun v F1 H1 R1 st1 r1=>⟨S1,F1,ds,S2,R1,h2,fun vs F2 H2 R2 st2 r2=>q _ F2 H2 R2 (st1.trans st2) (.cons (r1.le st2.ext.le) r2)⟩⟩⟩
theorem kP {K:PySem.W.Frag}{B:Base}{σ:St}{H:Hp}{Q:VK}{r:List V->Hp->VK->Prop}(hr:∀vs H1 Q1,rP f vs H1 Q1->r vs H1 Q1) (h:tE K B (eP f gA) σ H Q):S4 K B gA σ H fun vs H1=>r vs H1 Q:=by
 obtain⟨S,F,u,S',R,hg,q⟩:=h
 obtain⟨⟨ds,S1⟩,h1,hg⟩:=ah hg
 obtain⟨u',h2,hg⟩:=az hg
 cases hg
 exact⟨S,F,ds,S1,R,h1,fun vs F1 H1 R1 st1 r1=>hr _ _ _ ⟨F1,ds,_,R1.sub,r1,h2,fun v F2 H2 n s2 r2=>q v F2 H2 (R1.new n s2) (st1.trans n.step) (r2.Ic R1 st1)⟩⟩
theorem gP {id:String}(hc:iG X (.builtin id) (rP f)) (hg:Gl X x) (hm:X.mg x=none) (hv:bootBuiltins x=some (.builtin id)) (ha:JA X (e :: es) gA) (hn:x≠"__name__":=by decide) (hdb:(x == ("__debug__":Str))=false:=by decide)
  (he:starEach (e :: es) X.env=(false,eval e X.env) :: starEach es X.env:=by rfl) (hpl:(backTo pos (starEach es X.env)).any (·.1)=false:=by rfl):JE X (.Call (.Name x p) (e :: es) [] pos) (eP f gA):=
 ⟨fun B=>(lN hc hg hm hv (ha.h B) hn hdb he hpl).imp fun σ H Q h=>kP (fun _ _ _ z=>z) h⟩
theorem bS {T:String}(hc:iG X (.type T) (rP f)) (hg:Gl X x) (hm:X.mg x=none) (hv:bootBuiltins x=some (.type T)) (ha:JA X (e :: es) gA) (hn:x≠"__name__":=by decide) (hdb:(x == ("__debug__":Str))=false:=by decide)
  (he:starEach (e :: es) X.env=(false,eval e X.env) :: starEach es X.env:=by rfl) (hpl:(backTo pos (starEach es X.env)).any (·.1)=false:=by rfl):JE X (.Call (.Name x p) (e :: es) [] pos) (eP f gA):=
 ⟨fun B=>(AZ hc hg hm hv (ha.h B) hn hdb he hpl).imp fun σ H Q h=>kP (fun _ _ _ z=>z) h⟩
noncomputable abbrev wV (X:Cx) (o:Value->Value->Sem Value) (f:List D->Option U):Prop:=tR X o (fun x y H Q=>rP f [x,y] H Q)
theorem oh {K:PySem.W.Frag}{B:Base}{σ:St}{H:Hp}{Q:VK}(h:tE K B (eP f (aa ga (aa gb ao))) σ H Q):J6 (fun x y H Q=>rP f [x,y] H Q) (tD K B ga) (tD K B gb) σ H Q:=by
 obtain⟨S,F,u,S',R,hg,q⟩:=h
 obtain⟨⟨ds,S1⟩,h1,hg⟩:=ah hg
 obtain⟨u',h2,hg⟩:=az hg
 cases hg
 obtain⟨⟨d1,T1⟩,k1,h1⟩:=ah h1
 obtain⟨⟨WJ,T2⟩,k2,h1⟩:=az h1
 cases h1
 obtain⟨⟨d2,T3⟩,k3,k2⟩:=ah k2
 obtain⟨⟨WK,T4⟩,k4,k2⟩:=az k2
 cases k2
 cases k4
 exact⟨S,F,d1,T1,R,k1,fun v1 F1 H1 R1 st1 r1=>⟨T1,F1,d2,_,R1,k3,fun v2 F2 H2 R2 st2 r2=>⟨F2,_,_,R2.sub,.cons (r1.le st2.ext.le) (.cons r2 .nil),h2,fun v F3 H3 n s3 r3=>q v F3 H3 (R2.new n s3) ((st1.trans st2).trans n.step) (r3.Ic R2 (st1.trans st2))⟩⟩⟩
theorem bx {op:Operator}(ho:wV X (binaryOp op) f) (ha:JD X a ga) (hb:JD X b gb):JE X (.BinOp a op b pos) (eP f (aa ga (aa gb ao))):=
 ⟨fun B=>(KS ho (ha.h B) (hb.h B)).imp fun σ H Q h=>oh h⟩
theorem Ie {op:CmpOp}(ho:wV X (compareOp op) f) (ha:JD X a ga) (hb:JD X b gb) (hm:behindInMarks op b=false:=by first | exact B5 _ | rfl):JE X (.Compare a [op] [b] pos) (eP f (aa ga (aa gb ao))):=
 ⟨fun B=>(Et ho (ha.h B) (hb.h B) hm).imp fun σ H Q h=>oh h⟩
theorem GJ (hr:Cg X (fun x y H Q=>rP f [x,y] H Q)) (ha:JD X a ga) (hb:JD X b gb) (hs:qY b):JE X (.Subscript a b pos) (eP f (aa ga (aa gb ao))):=
 ⟨fun B=>(zU hr (ha.h B) (hb.h B) hs).imp fun σ H Q h=>oh h⟩
noncomputable def jg:List D->Option U:=fun ds=>if ds.length<=100000 then some (.t (.tup ds)) else none
noncomputable def fY:List D->Option U:=fun ds=>if ds.length<=100000 then some (.m (.lst ds)) else none
theorem jY {n:Nat}(h:n<=100000):n<=sizeLine:=Nat.le_trans h (by decide)
end
section
variable {X:Cx}{a b c e:Expr}{es:List Expr}{pos p p2:Pos}{x:Str}{g ga gb gc:GD}{gA:GA}{f f':List D->Option U}
theorem ju {x1}(h:JA X es gA):JE X (.Tuple es x1 pos) (eP jg gA):=
 ⟨fun B=>(HE (h.h B)).imp fun σ H Q z=>kP (r:=fun xs H1 Q=>xs.length<=sizeLine/\∀p,H1 p=none->Q (.ref p) (upd H1 p (.tup xs))) (fun vs H1 Q1 ⟨F,ds,u,sb,rs,hf,q⟩=>by
 unfold jg at hf
 split at hf
 ·rename_i hl
  cases hf
  refine⟨by rw[rs.length];exact jY hl,fun p hp=>?_⟩
  exact q _ _ _ (iB.root sb hp _) (sb.vm hp) (.tup aL (rs.le (nG (sb.fresh hp))))
 ·cases hf) z⟩
theorem fT (h:JA X es gA):JE X (.List es pos) (eP fY gA):=
 ⟨fun B=>(B6 (h.h B)).imp fun σ H Q z=>kP (r:=fun xs H1 Q=>xs.length<=sizeLine/\∀p,H1 p=none->Q (.ref p) (upd H1 p (.lst xs))) (fun vs H1 Q1 ⟨F,ds,u,sb,rs,hf,q⟩=>by
 unfold fY at hf
 split at hf
 ·rename_i hl
  cases hf
  refine⟨by rw[rs.length];exact jY hl,fun p hp=>?_⟩
  exact q _ F _ (iB.obj hp _) (sb.same (iB.obj (F:=F) hp _).same) ⟨p,rfl,hp,sb.fresh hp,vs,aL,rs⟩
 ·cases hf) z⟩
noncomputable def qB (g:GD):GT:=fun S=>(g S).bind fun p=>match p.1 with
 | .bl k=>some (k,p.2)
 | _=>none
noncomputable def EN (g h:GT):GT:=fun S=>(g S).bind fun p=>if p.1 then h p.2 else some (false,p.2)
theorem zZ {S:SS}{k:Bool}{S':SS}(h:qB g S=some (k,S')):g S=some (.bl k,S'):=by
 obtain⟨⟨d,S1⟩,h1,h⟩:=ah h
 cases d <;> cases h
 exact h1
theorem vo {F:Hp}{v:V}{k:Bool}(r:Rep F v (.bl k)):v= .bl k:=by cases r;rfl
theorem gF {F:Hp}{v:V}{i:Int}(r:Rep F v (.int i)):v= .int i:=by cases r;rfl
theorem Aa {F:Hp}{v:V}{i:Str}(r:Rep F v (.str i)):v= .str i:=by cases r;rfl
theorem Lp {K:PySem.W.Frag}{B:Base}{gE:GE}{σ:St}{H:Hp}{Q:VK}(h:tD K B (eF gE) σ H Q):tE K B gE σ H Q:=by
 obtain⟨S,F,d,S',R,hg,q⟩:=h
 obtain⟨⟨u,S1⟩,h1,hg⟩:=ah hg
 refine⟨S,F,u,S1,R,h1,fun v F1 H1 R1 st1 r1=>?_⟩
 obtain⟨F2,R2,st2,r2⟩:=Cy R1 st1 r1 hg
 exact q v F2 H1 R2 st2 r2
theorem jI {op:CmpOp}(ho:wV X (compareOp op) f) (ha:JD X a ga) (hb:JD X b gb) (hm:behindInMarks op b=false:=by first | exact B5 _ | rfl):JT X (.Compare a [op] [b] pos) (qB (eF (eP f (aa ga (aa gb ao))))):=
 ⟨fun B=>(Eu ho (ha.h B) (hb.h B) hm).imp fun σ H Q ⟨S,F,k,S',R,hg,q⟩=>oh (Lp ⟨S,F,.bl k,S',R,zZ hg,fun v F' H' R' st r=>⟨k,vo r,q F' H' R' st⟩⟩)⟩
theorem yT {q1:GT}(h:JT X a q1):JW X (.BoolOp .And [a] pos) q1:=⟨fun B=>pw_and1 (h.h B)⟩
theorem Ig {r:List Expr}{q1 q2:GT}(h:JT X a q1) (hr:JW X (.BoolOp .And (b :: r) pos) q2):JW X (.BoolOp .And (a :: b :: r) pos) (EN q1 q2):=
 ⟨fun B=>(pw_and (h.h B) (hr.h B)).imp fun σ H Q ⟨S,F,k,S',R,hg,q⟩=>by
 obtain⟨⟨d,S1⟩,h1,hg⟩:=ah hg
 refine⟨S,F,d,S1,R,h1,fun F1 H1 R1 st1=>?_⟩
 cases d with
 | true=>exact Co ⟨S1,F1,k,S',R1,hg,fun F2 H2 R2 st2=>q F2 H2 R2 (st1.trans st2)⟩
 | false=>cases hg;exact Cn (q F1 H1 R1 st1)⟩
theorem JW.t {q1:GT}(h:JW X e q1):JT X e q1:=⟨fun B=>(h.h B).pt⟩
theorem jH.weak {K:PySem.W.Frag}{B:Base}{S:SS}{σ:St}{H0 H1 F H:Hp}{v:V}(t:∀b o,H0 b=some o->∃o',H1 b=some o'):∀{u:U},jH K B S σ H1 F H v u->jH K B S σ H0 F H v u
 | .t _,h=>h
 | .s _,h=>h
 | .f _,h=>h
 | .m _,⟨a,e,h0,h⟩=>⟨a,e,none_of t h0,h⟩
 | .v _,h=>h
 | .b _,h=>h
end
theorem dF {α:Type}{c:Prop}{i:Decidable c}{x w:α}(h:(@ite _ c i (some x) none)=some w):c/\x=w:=by
 by_cases hc:c
 ·rw[if_pos hc] at h;exact⟨hc,Option.some.inj h⟩
 ·rw[if_neg hc] at h;cases h
theorem iP {α:Type}{c:Prop}{i:Decidable c}{x:Option α}{w:α}(h:(@ite _ c i x none)=some w):c/\x=some w:=by
 by_cases hc:c
 ·rw[if_pos hc] at h;exact⟨hc,h⟩
 ·rw[if_neg hc] at h;cases h
theorem GK {F:Hp}{x:V}{ds:List D}(r:bw F [x] ds):∃d,ds=[d]/\Rep F x d:=by
 cases r with
 | cons r rs=>cases rs;exact⟨_,rfl,r⟩
theorem rW {F:Hp}{x y:V}{ds:List D}(r:bw F [x,y] ds):∃d e,ds=[d,e]/\Rep F x d/\Rep F y e:=by
 cases r with
 | cons r rs=>obtain⟨e,rfl,r2⟩:=GK rs;exact⟨_,e,rfl,r,r2⟩
noncomputable def CA (C:Int->Int->Bool) (h:Int->Int->D):List D->Option U
 | [.int i,.int j]=>if C i j then some (.t (h i j)) else none
 | _=>none
section
variable {X:Cx}
theorem qq {o:Value->Value->Sem Value}{C:Int->Int->Bool}{h:Int->Int->D}{r:R2}(hr:tR X o r) (k:∀i j H Q,C i j=true->Q (toV (h i j)) H->r (.int i) (.int j) H Q) (hf:∀i j,uH (h i j)=true):wV X o (CA C h):=by
 intro pins s σ H x y v u Q I rx ry ⟨F,ds,w,sb,rs,hw,q⟩
 obtain⟨d,e,rfl,r1,r2⟩:=rW rs
 cases r1 <;> cases r2 <;> try (simp[CA] at hw;done)
 rename_i i j
 obtain⟨hc,rfl⟩:=dF hw
 exact hr pins s σ H _ _ v u Q I rx ry (k i j H Q hc (q _ F H (iB.refl ..) sb (wU (hf i j))))
noncomputable abbrev qJ:=CA (fun _ _=>true) fun i j=>.int (i - j)
noncomputable abbrev Ih:=CA (fun _ _=>true) fun i j=>.bl (decide (i < j))
noncomputable abbrev Lq:=CA (fun _ _=>true) fun i j=>.bl (decide (j < i))
noncomputable abbrev Lr:=CA (fun _ _=>true) fun i j=>.bl (decide (j<=i))
noncomputable abbrev Ii:=CA (fun _ j=>decide (0 < j) && decide (j < 1073741824)) fun i j=>.int (i / j)
noncomputable abbrev nH:=CA (fun _ j=>decide (0 < j)) fun i j=>.int (i % j)
noncomputable abbrev EO:=CA (fun i j=>decide (0<=j) && (decide (j<=1000) && decide (i.natAbs < 2 ^ 64))) fun i j=>.int (i ^ j.toNat)
theorem mK:wV X (binaryOp .Sub) qJ:=qq Hz (fun i j H Q _ q=>⟨i,j,rfl,rfl,q⟩) fun _ _=>rfl
theorem yU:wV X (compareOp .Lt) Ih:=qq KY (fun i j H Q _ q=>⟨i,j,rfl,rfl,q⟩) fun _ _=>rfl
theorem yV:wV X (compareOp .Gt) Lq:=qq KZ (fun i j H Q _ q=>⟨i,j,rfl,rfl,q⟩) fun _ _=>rfl
theorem CB:wV X (compareOp .GtE) Lr:=qq K0 (fun i j H Q _ q=>⟨i,j,rfl,rfl,q⟩) fun _ _=>rfl
theorem Ab:wV X (binaryOp .FloorDiv) Ii:=qq Ep (fun i j H Q c q=>⟨i,j,rfl,rfl,by simpa[KW] using c,q⟩) fun _ _=>rfl
theorem i7:wV X (binaryOp .Mod) nH:=qq HB (fun i j H Q c q=>⟨i,j,rfl,rfl,by simpa using c,q⟩) fun _ _=>rfl
theorem vp:wV X (binaryOp .Pow) EO:=qq HC (fun i j H Q c q=>⟨i,j,rfl,rfl,by
 simp only[Bool.and_eq_true,decide_eq_true_eq] at c
 exact⟨c.1,Int.le_trans c.2.1 (by decide),c.2.2⟩,q⟩) fun _ _=>rfl
theorem Sub.jZ {F H:Hp}{v:V}{ds:List D}(s:Sub F H) (r:Rep F v (.tup ds)):∃a vs,v= .ref a/\F a=some (.tup vs)/\Rd H a (.tup vs)/\bw F vs ds:=by
 cases r with
 | tup e rs=>exact⟨_,_,rfl,e,Rd.of (s _ _ e),rs⟩
theorem Sub.jJ {F H:Hp}{v:V}{ds:List D}(s:Sub F H) (r:Rep F v (.lst ds)):∃a vs,v= .ref a/\F a=some (.lst vs)/\Rd H a (.lst vs)/\bw F vs ds:=by
 cases r with
 | lst e rs=>exact⟨_,_,rfl,e,Rd.of (s _ _ e),rs⟩
theorem _root_.L2.Rd.yR {pins:List (Addr×Obj)}{σ:St}{H:Hp}{s:Shared}(I:Inv X pins σ H s){l:Addr}{xs:List V}(h:Rd H l (.lst xs)):
  xs.length<=sizeLine/\∃its n,Vals xs its/\xs.length=its.length/\s.heap.get? l=some {cls:=.type "list",data:=.seq its.toArray n}:=by
 obtain⟨z,its,n,r,e⟩:=(h.ok I.hok:ff X.prog X.w H s.heap l (.lst xs))
 exact⟨z,its,n,r,r.length,e⟩
noncomputable def fy:List D->Option U
 | [.int i,.int j]=>some (.t (.int (i+j)))
 | [.str i,.str j]=>if i.length+j.length<=100000 then some (.t (.str (i++j))) else none
 | [.tup i,.tup j]=>if i.length+j.length<=100000 then some (.t (.tup (i++j))) else none
 | [.lst i,.lst j]=>if i.length+j.length<=100000 then some (.m (.lst (i++j))) else none
 | _=>none
theorem dZ : wV X (binaryOp .Add) fy := by
  intro pins s σ H x y v u Q I rx ry ⟨F,ds,w,sb,rs,hw,q⟩
  obtain⟨d,e,rfl,r1,r2⟩:=rW rs
  cases d <;> cases e <;> try (simp[fy] at hw;done)
  . rename_i i j
    cases hw
    cases r1
    cases r2
    exact Hy pins s σ H _ _ v u Q I rx ry ⟨i,j,rfl,rfl,q _ F H (iB.refl ..) sb (.int _)⟩
  . rename_i i j
    obtain⟨hl,rfl⟩:=dF hw
    cases r1
    cases r2
    exact yL pins s σ H _ _ v u Q I rx ry ⟨i,j,rfl,rfl,jY hl,q _ F H (iB.refl ..) sb (.str _)⟩
  . rename_i i j
    obtain⟨hl,rfl⟩:=dF hw
    have Ut:=r2
    have Uu:=r1
    obtain⟨a,xs,rfl,fa,ha,nI⟩:=sb.jZ r1
    obtain⟨b,ys,rfl,fb,hb,CC⟩:=sb.jZ r2
    by_cases hx:xs=[]
    . subst hx
      cases nI
      cases rx
      cases ry
      obtain⟨its,r1',p1,_⟩:=I.tuple (.inl ha)
      obtain⟨its2,r2',p2,_⟩:=I.tuple (.inl hb)
      cases r1'
      obtain⟨⟨cls,dd,data,sl⟩,ho,hc,n,hd⟩:=id p1
      obtain⟨⟨OH,dd2,data2,sl2⟩,ho2,hc2,n2,hd2⟩:=id p2
      simp only at hc hd hc2 hd2
      subst hc hd hc2 hd2
      exact concat_meets ⟨_,ho,rfl⟩ ⟨_,ho2,rfl⟩ noFill_tuple_add seq_tuple_add PySem.F.slot_tuple_add PySem.F.entry_tuple_add (PySem.F.args_tuple_add_2 _ _)
        (tuple_addW0 a b _ _ n n2 dd dd2 sl sl2 (by simp)) ⟨ho,ho2,⟨.ref b,H,I,rfl,q _ F H (iB.refl ..) sb Ut⟩⟩
    . refine EG pins s σ H (.ref a) (.ref b) v u Q I rx ry ⟨a,b,xs,ys,rfl,rfl,.inl ha,.inl hb,hx,?_,fun hy=>?_,fun hy p hp=>?_⟩
      . rw[nI.length,CC.length];exact jY hl
      . subst hy
        cases CC
        exact q _ F H (iB.refl ..) sb (by show Rep F (.ref a) (.tup (i++[]));rw[List.append_nil];exact Uu)
      . exact q _ _ _ (iB.root sb hp _) (sb.vm hp) (.tup aL ((nI.append CC).le (nG (sb.fresh hp))))
  . rename_i i j
    obtain⟨hl,rfl⟩:=dF hw
    obtain⟨a,xs,rfl,fa,ha,nI⟩:=sb.jJ r1
    obtain⟨b,ys,rfl,fb,hb,CC⟩:=sb.jJ r2
    cases rx
    cases ry
    obtain⟨z,its,n,r,hl1,e⟩:=Rd.yR I ha
    obtain⟨z2,its2,n2,r2,hl2,e2⟩:=Rd.yR I hb
    have hlen:xs.length+ys.length<=sizeLine:=by rw[nI.length,CC.length];exact jY hl
    refine PySem.P.add_list e e2 ?_ (by rw[List.size_toArray,List.size_toArray];omega)
    have ea:its.toArray++its2.toArray=(its++its2).toArray:=by simp
    rw[ea]
    have hp:H s.heap.objs.size=none:=I.fresh
    refine⟨.ref _,_,I.Lh (t':=s.toks) (r.append r2) (by rw[List.length_append];omega),rfl,?_⟩
    exact q _ F _ (iB.obj hp _) (sb.same (iB.obj (F:=F) hp _).same) ⟨_,rfl,hp,sb.fresh hp,_,aL,nI.append CC⟩
noncomputable def gW:List D->Option U:=CA (fun i j=>(decide (-(2 ^ 64) < i) && decide (i < 2 ^ 64)) || (decide (-(2 ^ 64) < j) && decide (j < 2 ^ 64))) fun i j=>.int (i * j)
theorem fX:wV X (binaryOp .Mult) gW:=qq HA (fun i j H Q c q=>⟨i,j,rfl,rfl,by
 simp only[Bool.or_eq_true,Bool.and_eq_true,decide_eq_true_eq] at c
 exact c,q⟩) fun _ _=>rfl
noncomputable def Ij:List D->Option U
 | [.tup ds,.int i]=>(fC ds i).map .t
 | [.lst ds,.int i]=>(fC ds i).map .t
 | [.str z,.int i]=>if z.length<=100000 then(fC z.cps.toList i).map fun c=>.t (.str ⟨#[c]⟩) else none
 | _=>none
theorem Ls:Cg X (fun x y H Q=>rP Ij [x,y] H Q):=by
 intro value slice pins s σ H x y v u Q I rx ry ⟨F,ds,w,sb,rs,hw,q⟩ hsb
 obtain⟨d,e,rfl,r1,r2⟩:=rW rs
 cases d <;> cases e <;> try (simp[Ij] at hw;done)
 ·rename_i z i
  obtain⟨hl,hw⟩:=iP hw
  obtain⟨c,hc,hw⟩:=az hw
  subst hw
  cases r1
  cases r2
  exact Cj value slice pins s σ H _ _ v u Q I rx ry ⟨z,i,c,rfl,rfl,jY hl,hc,q _ F H (iB.refl ..) sb (.str _)⟩ hsb
 ·rename_i ds i
  obtain⟨c,hc,hw⟩:=az (show(fC ds i).map U.t=some w from hw)
  subst hw
  obtain⟨a,xs,rfl,fa,ha,nI⟩:=sb.jZ r1
  cases r2
  obtain⟨w',h1,h2⟩:=nI.fC hc
  exact Ci value slice pins s σ H _ _ v u Q I rx ry ⟨a,xs,i,w',rfl,rfl,.inl ha,h1,q _ F H (iB.refl ..) sb h2⟩ hsb
 ·rename_i ds i
  obtain⟨c,hc,hw⟩:=az (show(fC ds i).map U.t=some w from hw)
  subst hw
  obtain⟨a,xs,rfl,fa,ha,nI⟩:=sb.jJ r1
  cases r2
  obtain⟨w',h1,h2⟩:=nI.fC hc
  exact vg value slice pins s σ H _ _ v u Q I rx ry ⟨a,xs,i,w',rfl,rfl,.inl ha,h1,q _ F H (iB.refl ..) sb h2⟩ hsb
noncomputable def wW:List D->Option U
 | [.tup ds]=>some (.t (.int ds.length))
 | [.lst ds]=>some (.t (.int ds.length))
 | [.str z]=>if z.length<=100000 then some (.t (.int z.length)) else none
 | _=>none
theorem A6:iG X (.builtin "len") (rP wW):=by
 intro pins s σ H xs us Q I r ⟨F,ds,w,sb,rs,hw,q⟩
 match xs,ds,rs with
 | [],[],_=>exact absurd hw (by simp[wW])
 | [x],_,rs=>
  obtain⟨d,rfl,r1⟩:=GK rs
  cases d <;> try (simp[wW] at hw;done)
  ·rename_i z
   obtain⟨hl,rfl⟩:=dF hw
   cases r1
   exact nY pins s σ H _ us Q I r ⟨z,rfl,jY hl,q _ F H (iB.refl ..) sb (.int _)⟩
  ·cases hw
   obtain⟨a,xs,rfl,fa,ha,nI⟩:=sb.jZ r1
   exact kM pins s σ H _ us Q I r ⟨a,xs,rfl,.inr (.inl ha),by rw[nI.length];exact q _ F H (iB.refl ..) sb (.int _)⟩
  ·cases hw
   obtain⟨a,xs,rfl,fa,ha,nI⟩:=sb.jJ r1
   exact kM pins s σ H _ us Q I r ⟨a,xs,rfl,.inl (.inl ha),by rw[nI.length];exact q _ F H (iB.refl ..) sb (.int _)⟩
 | _ :: _ :: _,[],rs=>cases rs
 | _ :: _ :: _,[_],rs=>cases rs with | cons _ rs=>cases rs
 | _ :: _ :: _,_ :: _ :: _,_=>exact absurd hw (by simp[wW])
end
noncomputable def mY (i:Nat) (u:U) (S:SS):Option SS:=match S[i]? with
 | some (some (.b _))=>none
 | some _=>some (S.set i (some u))
 | none=>none
theorem A7 {i:Nat}{u:U}{S S':SS}(h:mY i u S=some S'):S'=S.set i (some u)/\i < S.length/\∀o,S[i]?≠some (some (.b o)):=by
 unfold mY at h
 cases e:S[i]? with
 | none=>rw[e] at h;cases h
 | some w=>
  have hl:i < S.length:=(List.getElem?_eq_some_iff.mp e).1
  rw[e] at h
  cases w with
  | none=>cases h;exact⟨rfl,hl,fun o z=>by cases z⟩
  | some w=>
   cases w with
   | b o=>cases h
   | t d=>cases h;exact⟨rfl,hl,fun o z=>by cases z⟩
   | m d=>cases h;exact⟨rfl,hl,fun o z=>by cases z⟩
   | v d=>cases h;exact⟨rfl,hl,fun o z=>by cases z⟩
   | s d=>cases h;exact⟨rfl,hl,fun o z=>by cases z⟩
   | f d=>cases h;exact⟨rfl,hl,fun o z=>by cases z⟩
noncomputable def GL (B:Base) (S:SS) (σ:St) (F H:Hp) (v:V):U->Prop
 | .t d=>Rep F v d
 | .m o=>∃a,v= .ref a/\F a=none/\At F H a o/\¬cy S σ a/\B.H a=none
 | _=>False
theorem Rel.put {K : PySem.W.Frag} {B : Base} {S S' : SS} {σ : St} {F H : Hp} {i : Nat} {u : U} {v : V} (R : Rel K B S σ F H) (h : mY i u S = some S') (p : GL B S σ F H v u) : Rel K B S' (σ.set i (some v)) F H := by
  obtain⟨rfl,hl,nb⟩:=A7 h
  have hl':i < σ.length:=by rw[<-R.len];exact hl
  have out:∀{j:Nat},i≠j->(σ.set i (some v))[j]? =σ[j]?:=fun ne=>List.getElem?_set_ne ne
  have qZ:(σ.set i (some v))[i]? =some (some v):=List.getElem?_set_self hl'
  have GO:∀j w a,i≠j->S[j]? =some (some w)->fZ w=true->fZ u=true->σ[j]? =some (some (.ref a))->v≠.ref a:=fun j w a ne hj hm hu hv z=>by
    cases u with
    | t d=>cases hu
    | v k=>cases hu
    | s k=>cases hu
    | f k=>cases hu
    | b o=>exact p
    | m o=>
      obtain⟨c,e,_,_,nm,_⟩:=p
      rw[z] at e
      cases e
      exact nm ⟨j,w,hj,hm,hv⟩
  refine⟨R.sub,by rw[List.length_set,List.length_set];exact R.len,fun j w hj=>?_,fun j k w1 w2 a h1 m1 h2 m2 v1 v2=>?_,fun j o a hj hv=>?_,fun j o a hj hv=>?_,fun j a hj=>?_,R.ext⟩
  . rcases get_set hj with⟨rfl,q,_⟩ | ⟨ne,q⟩
    . cases q
      refine⟨v,qZ,?_⟩
      cases u with
      | t d=>exact p
      | m o=>obtain⟨a,e,f,h,_⟩:=p;exact⟨a,e,f,h⟩
      | b o=>cases p
      | v k=>cases p
      | s k=>cases p
      | f k=>cases p
    . rw[out ne];exact R.rep j w q
  . rcases get_set h1 with⟨rfl,q1,_⟩ | ⟨ne1,q1⟩
    . rcases get_set h2 with⟨rfl,q2,_⟩ | ⟨ne2,q2⟩
      . rfl
      . cases q1
        rw[qZ] at v1
        rw[out ne2] at v2
        cases v1
        exact absurd rfl (GO k w2 a ne2 q2 m2 m1 v2)
    . rcases get_set h2 with⟨rfl,q2,_⟩ | ⟨ne2,q2⟩
      . cases q2
        rw[qZ] at v2
        rw[out ne1] at v1
        cases v2
        exact absurd rfl (GO j w1 a ne1 q1 m1 m2 v1)
      . rw[out ne1] at v1
        rw[out ne2] at v2
        exact R.wR j k w1 w2 a q1 m1 q2 m2 v1 v2
  . rcases get_set hj with⟨rfl,q,_⟩ | ⟨ne,q⟩
    . cases q
      rw[qZ] at hv
      cases hv
      obtain⟨c,e,_,_,_,hB⟩:=p
      cases e
      exact hB
    . rw[out ne] at hv;exact R.own j o a q hv
  . rcases get_set hj with⟨rfl,q,_⟩ | ⟨ne,q⟩
    . cases q;cases p
    . rw[out ne] at hv;exact R.bor j o a q hv
  . obtain⟨h1,o,h2⟩:=R.par j a hj
    have ne:i≠j:=fun z=>by subst z;exact nb o h2
    exact⟨by rw[out ne];exact h1,o,by rw[List.getElem?_set_ne ne];exact h2⟩
noncomputable def mZ:GS:=fun S=>some (.nx S)
noncomputable def aK (a b:GS):GS:=fun S=>(a S).bind fun o=>match o with
 | .nx S1=>b S1
 | o=>some o
noncomputable def aZ (i:Nat) (g:GE):GS:=fun S=>(g S).bind fun p=>match p.1 with
 | .m o=>(mY i (.m o) p.2).map .nx
 | u=>(fz u p.2).bind fun q=>(mY i (.t q.1) q.2).map .nx
noncomputable def lQ (g:GE):GS:=fun S=>(g S).map fun p=>.nx p.2
noncomputable def gf (g:GE):GS:=fun S=>(g S).bind fun p=>match p.1 with
 | .v i=>match p.2[i]? with
  | some (some (.t d))=>some (.rt (.t d) p.2)
  | some (some (.m o))=>some (.rt (.m o) (p.2.set i none))
  | _=>none
 | .s _=>none
 | .f _=>none
 | u=>some (.rt u p.2)
noncomputable def wX (q:GT) (a b:GS):GS:=fun S=>(q S).bind fun p=>if p.1 then a p.2 else b p.2
theorem zY.mono {K:PySem.W.Frag}{B:Base}{F F1:Hp}{D:Ends}(g:∀b o,F b=some o->F1 b=some o):∀{o:Out},zY K B F D o->zY K B F1 D o
 | .nx _,h=>fun σ' F' H' R le=>h σ' F' H' R fun b o z=>le b o (g b o z)
 | .bk _,h=>fun σ' F' H' R le=>h σ' F' H' R fun b o z=>le b o (g b o z)
 | .ct _,h=>fun σ' F' H' R le=>h σ' F' H' R fun b o z=>le b o (g b o z)
 | .rt _ _,h=>fun v σ' F' H' R le=>h v σ' F' H' R fun b o z=>le b o (g b o z)
section
variable {X:Cx}{a b c e:Expr}{pos p p2:Pos}{x:Str}{st:Stmt}{rest b1 b2 body:List Stmt}{g:GE}{s1 s2:GS}{q1:GT}
theorem jK:JB X [] mZ:=⟨fun B=>Em.imp fun D σ H ⟨S,F,o,R,h,k⟩=>by cases h;exact k σ F H R fun _ _ z=>z⟩
theorem aA (h1:JS X st s1) (h2:JB X rest s2):JB X (st :: rest) (aK s1 s2):=⟨fun B=>(rL (h1.h B) (h2.h B)).imp fun D σ H ⟨S,F,o,R,h,k⟩=>by
 obtain⟨o1,e1,h⟩:=ah h
 refine⟨S,F,o1,R,e1,?_⟩
 cases o1 with
 | nx S1=>exact fun σ' F' H' R' le=>⟨S1,F',o,R',h,k.mono le⟩
 | rt u S1=>cases h;exact k
 | bk S1=>cases h;exact k
 | ct S1=>cases h;exact k⟩
theorem bg (h1:JS X st s1):JB X [st] s1:=⟨fun B=>zL (h1.h B)⟩
theorem jH.put {K:PySem.W.Frag}{B:Base}{S:SS}{σ:St}{H0 F H:Hp}{v:V}{o:MO}(r:jH K B S σ H0 F H v (.m o)):GL B S σ F H v (.m o):=by
 obtain⟨a,e,_,f,h,n,hB⟩:=r
 exact⟨a,e,f,h,n,hB⟩
theorem Ac {i:Nat}{K:PySem.W.Frag}{B:Base}{D:Ends}{σ:St}{H:Hp}(h:tO K B (aZ i g) D σ H):Eo (tE K B g) (qk i) D σ H:=by
 obtain⟨S,F,o,R,h,k⟩:=h
 obtain⟨⟨u,S1⟩,h1,h⟩:=ah h
 refine⟨S,F,u,S1,R,h1,fun v F1 H1 R1 st1 r1=>?_⟩
 have go:(∀o',u≠.m o')->(fz u S1).bind (fun q=>(mY i (.t q.1) q.2).map Out.nx)=some o->D.nx (σ.set i (some v)) H1:=fun _ h=>by
  obtain⟨⟨d,S2⟩,h2,h⟩:=ah h
  obtain⟨S3,h3,h⟩:=az h
  subst h
  obtain⟨F2,R2,st2,r2⟩:=Cy R1 st1 r1 h2
  exact k _ F2 H1 (R2.put h3 r2) st2.ext.le
 cases u with
 | m o'=>
  obtain⟨S3,h3,h⟩:=az (show(mY i (.m o') S1).map Out.nx=some o from h)
  subst h
  exact k _ F1 H1 (R1.put h3 r1.put) st1.ext.le
 | t d=>exact go (fun _ z=>by cases z) h
 | b d=>exact go (fun _ z=>by cases z) h
 | s d=>exact go (fun _ z=>by cases z) h
 | f d=>exact go (fun _ z=>by cases z) h
 | v d=>exact go (fun _ z=>by cases z) h
theorem aW {i:Nat}{pos':Pos}(hN:X.N.Nodup) (hi:X.N[i]? =some x) (hx:Loc X.env.scope x) (he:JE X e g) (hs:swapsWith e (some (.Name x pos')) pos.line X.env=pure false:=by rfl)
  (hf:X.fn x=true\/X.env.scope.names.lookup x=some .local:=by first | exact .inl rfl | exact .inr rfl | assumption):JS X (.Assign [.Name x pos'] e pos) (aZ i g):=
 ⟨fun B=>(Ho hN hi hx (he.h B) hs hf).imp fun D σ H h=>Ac h⟩
theorem jy (he:JE X e g) (hs:swapsWith e none pos.line X.env=pure false:=by rfl):JS X (.Expr e pos) (lQ g):=⟨fun B=>(zM (he.h B) hs).imp fun D σ H ⟨S,F,o,R,h,k⟩=>by
 obtain⟨⟨u,S1⟩,h1,h⟩:=az h
 subst h
 exact⟨S,F,u,S1,R,h1,fun v F1 H1 R1 st1 r1=>k σ F1 H1 R1 st1.ext.le⟩⟩
theorem Rel.drop {K:PySem.W.Frag}{B:Base}{S:SS}{σ:St}{F H:Hp}{i:Nat}{o:MO}(R:Rel K B S σ F H) (h:S[i]? =some (some (.m o))):Rel K B (S.set i none) σ F H:=by
 have back:∀{j w},(S.set i none)[j]? =some (some w)->i≠j/\S[j]? =some (some w):=fun {j w} z=>by
  rcases get_set z with⟨_,q,_⟩ | q
  ·cases q
  ·exact q
 refine⟨R.sub,by rw[List.length_set];exact R.len,fun j w z=>R.rep j w (back z).2,fun j k w1 w2 a h1 m1 h2 m2=>R.wR j k w1 w2 a (back h1).2 m1 (back h2).2 m2,fun j o a z=>R.own j o a (back z).2,fun j o a z=>R.bor j o a (back z).2,fun j a z=>?_,R.ext⟩
 obtain⟨k1,o',k2⟩:=R.par j a z
 have ne:i≠j:=fun z=>by subst z;rw[h] at k2;cases k2
 exact⟨k1,o',by rw[List.getElem?_set_ne ne];exact k2⟩
theorem d9 (he:JE X e g):JS X (.Return (some e) pos) (gf g):=⟨fun B=>(Hi (he.h B)).imp fun D σ H ⟨S,F,o,R,h,k⟩=>by
  obtain⟨⟨u,S1⟩,h1,h⟩:=ah h
  refine⟨S,F,u,S1,R,h1,fun v F1 H1 R1 st1 r1=>?_⟩
  cases u with
  | t d=>cases h;exact k v σ F1 H1 R1 st1.ext.le r1
  | b d=>cases h;cases r1
  | s d=>cases h
  | f d=>cases h
  | m o'=>cases h;exact k v σ F1 H1 R1 st1.ext.le (by obtain⟨a,e,h0,f,h,n,hB⟩:=r1;exact⟨a,e,hB,f,h,n,hB⟩)
  | v i =>
    obtain⟨hv,w,hw⟩:=r1
    dsimp only at h
    rw[hw] at h
    obtain⟨v',z1,z2⟩:=R1.rep i w hw
    rw[hv] at z1
    cases z1
    cases w with
    | t d=>cases h;exact k v σ F1 H1 R1 st1.ext.le z2
    | b d=>cases h
    | v d=>cases h
    | s d=>cases h
    | f d=>cases h
    | m o'=>
      cases h
      obtain⟨a,rfl,f,ha⟩:=z2
      have hB:=R1.own i o' a hw hv
      refine k _ σ F1 H1 (R1.drop hw) st1.ext.le ⟨a,rfl,hB,f,ha,fun⟨j,w,z,hm,hj⟩=>?_,hB⟩
      rcases get_set z with⟨_,q,_⟩ | ⟨ne,q⟩
      . cases q
      . exact ne (R1.wR i j _ w a hw rfl q hm hv hj)⟩
theorem lz (hc:JT X c q1) (ha:JB X b1 s1) (hb:JB X b2 s2):JS X (.If c b1 b2 pos) (wX q1 s1 s2):=⟨fun B=>(KL (hc.h B) (ha.h B) (hb.h B)).imp fun D σ H ⟨S,F,o,R,h,k⟩=>by
 obtain⟨⟨d,S1⟩,h1,h⟩:=ah h
 refine⟨S,F,d,S1,R,h1,fun F1 H1 R1 st1=>?_⟩
 cases d with
 | true=>exact Co ⟨S1,F1,o,R1,h,k.mono st1.ext.le⟩
 | false=>exact Cn ⟨S1,F1,o,R1,h,k.mono st1.ext.le⟩⟩
noncomputable abbrev GB:=D->SS->Option SS
noncomputable def S5 (K:PySem.W.Frag) (B:Base) (bd:GB):TG:=fun v σ H Q=>∃S F d S',Rel K B S σ F H/\Rep F v d/\bd d S=some S'/\∀σ',Rel K B S' σ' F H->Q σ' H
structure JG (X:Cx) (tg:Expr) (bd:GB):Prop where
 h:∀B,PG X tg (S5 X.K B bd)
noncomputable abbrev Ef:=List D->SS->Option SS
noncomputable def O6 (K:PySem.W.Frag) (B:Base) (bd:Ef):En:=fun vs σ H Q=>∃S F ds S',Rel K B S σ F H/\bw F vs ds/\bd ds S=some S'/\∀σ',Rel K B S' σ' F H->Q σ' H
structure Nf (X:Cx) (CD:List Expr) (bd:Ef):Prop where
 h:∀B,Gu X CD (O6 X.K B bd)
theorem PG.imp {tg:Expr}{t t':TG}(h:PG X tg t) (k:∀v σ H Q,t' v σ H Q->t v σ H Q):PG X tg t':=fun pins s σ H v u Q I r q=>h pins s σ H v u Q I r (k v σ H Q q)
theorem Gu.imp {tg:List Expr}{t t':En}(h:Gu X tg t) (k:∀v σ H Q,t' v σ H Q->t v σ H Q):Gu X tg t':=fun pins s σ H v u Q I r q=>h pins s σ H v u Q I r (k v σ H Q q)
noncomputable def bName (i:Nat):GB:=fun d S=>mY i (.t d) S
theorem cJ {i:Nat}(hN:X.N.Nodup) (hi:X.N[i]? =some x) (hx:Loc X.env.scope x) (hf:X.fn x=true\/X.env.scope.names.lookup x=some .local:=by first | exact .inl rfl | exact .inr rfl | assumption):JG X (.Name x pos) (bName i):=
 ⟨fun B=>(qX hN hi hx hf).imp fun v σ H Q ⟨S,F,d,S',R,r,h,k⟩=>k _ (R.put h r)⟩
noncomputable def oq:Ef:=fun ds S=>match ds with
 | []=>some S
 | _=>none
noncomputable def fh (b:GB) (bs:Ef):Ef:=fun ds S=>match ds with
 | d :: r=>(b d S).bind fun S1=>bs r S1
 | []=>none
theorem q8:Nf X [] oq:=⟨fun B=>zN.imp fun vs σ H Q ⟨S,F,ds,S',R,r,h,k⟩=>by
 cases r with
 | nil=>cases h;exact⟨rfl,k σ R⟩
 | cons _ _=>cases h⟩
theorem jh {tg:Expr}{CD:List Expr}{bd:GB}{Lu:Ef}(h1:JG X tg bd) (h2:Nf X CD Lu) (hs:(assignEach (tg :: CD) X.env).map (·.2)=assign tg X.env :: (assignEach CD X.env).map (·.2):=by rfl):Nf X (tg :: CD) (fh bd Lu):=
 ⟨fun B=>(rM (h1.h B) (h2.h B) hs).imp fun vs σ H Q ⟨S,F,ds,S',R,r,h,k⟩=>by
 cases r with
 | nil=>cases h
 | cons r rs=>
  obtain⟨S1,e1,h⟩:=ah h
  exact⟨_,_,rfl,S,F,_,S1,R,r,e1,fun σ1 R1=>⟨S1,F,_,S',R1,rs,h,k⟩⟩⟩
noncomputable def nJ (n:Nat) (bs:Ef):GB:=fun d S=>match d with
 | .tup ds=>if ds.length=n then bs ds S else none
 | _=>none
theorem vq {CD:List Expr}{k0:Nat}{Lu:Ef}{n:Nat}(hc:X.calm=true) (h:Nf X CD Lu) (hn:(assignEach CD X.env).length=n:=by rfl) (hst:(assignEach CD X.env).findIdx? (·.1)=none:=by rfl):JG X (.Tuple CD k0 pos) (nJ n Lu):=
 ⟨fun B=>(BW hc (h.h B) hn hst).imp fun v σ H Q ⟨S,F,d,S',R,r,h,k⟩=>by
 cases d <;> try (cases h)
 rename_i ds
 unfold nJ at h
 dsimp only at h
 split at h
 ·rename_i hl
  obtain⟨a,vs,rfl,fa,ha,rs⟩:=R.sub.jZ r
  exact⟨a,vs,rfl,.inl ha,by rw[rs.length];exact hl,S,F,ds,S',R,rs,h,k⟩
 ·cases h⟩
noncomputable def ER (bd:GB) (g:GD):GS:=fun S=>(g S).bind fun p=>(bd p.1 p.2).map .nx
theorem Ik {tg:Expr}{bd:GB}{gd:GD}(he:JD X e gd) (hg:JG X tg bd) (hs:swapsWithSole [tg] e pos.line X.env=pure false:=by rfl) (hw:swappedStores [tg] e X.env=pure none:=by rfl)
  (h1:(assignEach [tg] X.env).map (·.2)=[assign tg X.env]:=by rfl):JS X (.Assign [tg] e pos) (ER bd gd):=
 ⟨fun B=>(BX (he.h B) (hg.h B) hs hw h1).imp fun D σ H ⟨S,F,o,R,h,k⟩=>by
 obtain⟨⟨d,S1⟩,e1,h⟩:=ah h
 obtain⟨S2,e2,h⟩:=az h
 subst h
 exact⟨S,F,d,S1,R,e1,fun v F1 H1 R1 st1 r1=>⟨S1,F1,d,S2,R1,r1,e2,fun σ' R2=>k σ' F1 H1 R2 st1.ext.le⟩⟩⟩
noncomputable def Walk (J:It) (F:Hp) (ds:List D):Prop:=∀F' H',(∀b o,F b=some o->F' b=some o)->Sub F' H'->∀i,(∀d,ds[i]? =some d->J.go i H'/\∀x H2,J.J5 i H' x H2->H2=H'/\Rep F' x d)/\(ds.length<=i->J.stop i H')
noncomputable abbrev GI:=SS->Option (List D×SS)
noncomputable def S6 (K:PySem.W.Frag) (B:Base) (gi:GI):TI:=fun σ H R=>∃S F ds S',Rel K B S σ F H/\gi S=some (ds,S')/\∀J F' H',Rel K B S' σ F' H'->Step S S' σ F H F' H'->Walk J F' ds->R J H'
structure JI (X:Cx) (tg e:Expr) (gi:GI):Prop where
 h:∀B,PI X tg e (S6 X.K B gi)
theorem PI.orelse {tg:Expr}{wi:TI}(h:∀σ H R,wi σ H R->∃wi',PI X tg e wi'/\wi' σ H R):PI X tg e wi:=fun pins s σ H R I q=>let⟨_,h1,h2⟩:=h σ H R q;h1 pins s σ H R I h2
noncomputable def ES (g:GD):GI:=fun S=>(g S).bind fun p=>match p.1 with
 | .tup ds=>some (ds,p.2)
 | .lst ds=>some (ds,p.2)
 | _=>none
noncomputable def cC (g:GD):GI:=fun S=>(g S).bind fun p=>match p.1 with
 | .tup ds=>some (ds,p.2)
 | .lst ds=>some (ds,p.2)
 | .str z=>some (z.cps.toList.map fun c=>.str ⟨#[c]⟩,p.2)
 | _=>none
theorem uI {K:PySem.W.Frag}{F:Hp}{a:Addr}{vs:List V}{ds:List D}(fa:F a=some (.lst vs)) (rs:bw F vs ds):Walk (Ox K a) F ds:=fun F' H' le sb i=>by
 have ha:nB K H' a vs:=.inl (Rd.of (sb a _ (le _ _ fa)))
 refine⟨fun d hd=>?_,fun hl=>⟨vs,ha,by rw[rs.length];exact hl⟩⟩
 obtain⟨v,h1,h2⟩:=rs.get hd
 refine⟨⟨vs,v,ha,h1⟩,fun x H2 y=>⟨y.1,?_⟩⟩
 have:=y.2 vs ha
 rw[h1] at this
 cases this
 exact h2.le le
theorem wY {K:PySem.W.Frag}{F:Hp}{a:Addr}{vs:List V}{ds:List D}(fa:F a=some (.tup vs)) (rs:bw F vs ds):Walk (Oz K a) F ds:=fun F' H' le sb i=>by
 have ha:u6 K H' a vs:=.inl (Rd.of (sb a _ (le _ _ fa)))
 refine⟨fun d hd=>?_,fun hl=>⟨vs,ha,by rw[rs.length];exact hl⟩⟩
 obtain⟨v,h1,h2⟩:=rs.get hd
 refine⟨⟨vs,v,ha,h1⟩,fun x H2 y=>⟨y.1,?_⟩⟩
 have:=y.2 vs ha
 rw[h1] at this
 cases this
 exact h2.le le
theorem CF {F:Hp}{z:Str}:Walk (O4 z) F (z.cps.toList.map fun c=>.str ⟨#[c]⟩):=fun F' H' le sb i=>by
 refine⟨fun d hd=>?_,fun hl=>(show z.cps.size<=i by simpa using hl)⟩
 rw[List.getElem?_map] at hd
 obtain⟨c,hc,rfl⟩:=az hd
 have hc':z.cps[i]? =some c:=by rw[<-Array.getElem?_toList];exact hc
 refine⟨(Array.getElem?_eq_some_iff.mp hc').1,fun x H2 y=>⟨y.1,?_⟩⟩
 obtain⟨c2,k1,rfl⟩:=y.2
 rw[hc'] at k1
 cases k1
 exact .str _
theorem Il {tg:Expr}{gd:GD}(h:JD X e gd):JI X tg e (ES gd):=⟨fun B=>PI.orelse fun σ H R0 ⟨S,F,ds,S',R,hg,k⟩=>by
 obtain⟨⟨d,S1⟩,h1,hg⟩:=ah hg
 cases d <;> try (cases hg)
 ·refine⟨_,B0 (h.h B),S,F,_,_,R,h1,fun v F1 H1 R1 st1 r1=>?_⟩
  obtain⟨a,vs,rfl,fa,ha,rs⟩:=R1.sub.jZ r1
  exact⟨a,rfl,⟨vs,.inl ha⟩,k _ F1 H1 R1 st1 (wY fa rs)⟩
 ·refine⟨_,zO (h.h B),S,F,_,_,R,h1,fun v F1 H1 R1 st1 r1=>?_⟩
  obtain⟨a,vs,rfl,fa,ha,rs⟩:=R1.sub.jJ r1
  exact⟨a,rfl,⟨vs,.inl ha⟩,k _ F1 H1 R1 st1 (uI fa rs)⟩⟩
theorem cY {gd:GD}(h:JD X e gd):JI X (.Name x pos) e (cC gd):=⟨fun B=>PI.orelse fun σ H R0 ⟨S,F,ds,S',R,hg,k⟩=>by
 obtain⟨⟨d,S1⟩,h1,hg⟩:=ah hg
 cases d <;> try (cases hg)
 ·refine⟨_,Ib (h.h B),S,F,_,_,R,h1,fun v F1 H1 R1 st1 r1=>?_⟩
  exact⟨_,Aa r1,k _ F1 H1 R1 st1 CF⟩
 ·refine⟨_,B0 (h.h B),S,F,_,_,R,h1,fun v F1 H1 R1 st1 r1=>?_⟩
  obtain⟨a,vs,rfl,fa,ha,rs⟩:=R1.sub.jZ r1
  exact⟨a,rfl,⟨vs,.inl ha⟩,k _ F1 H1 R1 st1 (wY fa rs)⟩
 ·refine⟨_,zO (h.h B),S,F,_,_,R,h1,fun v F1 H1 R1 st1 r1=>?_⟩
  obtain⟨a,vs,rfl,fa,ha,rs⟩:=R1.sub.jJ r1
  exact⟨a,rfl,⟨vs,.inl ha⟩,k _ F1 H1 R1 st1 (uI fa rs)⟩⟩
noncomputable def ig (lo:Int) (n:Nat):List D:=(List.range n).map fun(k:Nat)=>D.int (lo+(k:Int))
noncomputable def dh (gA:GA):GI:=fun S=>(gA S).bind fun p=>match p.1 with
 | [.int j]=>if j < 1000000/\-1000000 < j then some (ig 0 j.toNat,p.2) else none
 | _=>none
theorem CG {F:Hp}{lo:Int}{n:Nat}:Walk (M7 lo n) F (ig lo n):=fun F' H' le sb i=>by
 refine⟨fun d hd=>?_,fun hl=>(show n<=i by simpa[ig] using hl)⟩
 unfold ig at hd
 rw[List.getElem?_map] at hd
 obtain⟨c,hc,rfl⟩:=az hd
 obtain⟨hl,e⟩:=List.getElem?_eq_some_iff.mp hc
 rw[List.getElem_range] at e
 subst e
 refine⟨show i < n by simpa using hl,fun x H2 y=>⟨y.1,?_⟩⟩
 rw[y.2]
 exact .int _
theorem dR {tg : Expr} {gA : GA} (hg : Gl X "range") (hm : X.mg "range" = none) (ha : JA X [a] gA) (hs : starEach [a] X.env = [(false, eval a X.env)] := by rfl) : JI X tg (.Call (.Name "range" p) [a] [] pos) (dh gA) :=
  ⟨fun B=>PI.orelse fun σ H R0 ⟨S,F,ds,S',R,hg',k⟩=>by
  obtain⟨⟨d,S1⟩,h1,hg'⟩:=ah hg'
  refine⟨_,AW hg hm (ha.h B) hs,S,F,d,S1,R,h1,fun vs F1 H1 R1 st1 r1=>?_⟩
  dsimp only at hg'
  split at hg'
  . split at hg'
    . rename_i j hj
      cases hg'
      cases r1 with
      | cons r rs=>
        cases rs
        exact⟨j,by rw[gF r],by omega,by omega,k _ F1 H1 R1 st1 CG⟩
    . cases hg'
  . cases hg'⟩
noncomputable def loop (bd:GB) (body:GS):List D->SS->Option Out
 | [],S=>some (.nx S)
 | d :: ds,S=>(bd d S).bind fun S1=>(body S1).bind fun o=>match o with
  | .nx S2=>loop bd body ds S2
  | .ct S2=>loop bd body ds S2
  | .bk S2=>some (.nx S2)
  | .rt u S2=>some (.rt u S2)
noncomputable def iA (bd:GB) (gi:GI) (body:GS):GS:=fun S=>(gi S).bind fun p=>loop bd body p.1 p.2
theorem iI {tg iter:Expr}{bd:GB}{gi:GI}(hp:PassesOwn (model X.prog X.w) X.A X.env X.xe) (hc:X.calm=true) (hi:JI X tg iter gi) (hg:JG X tg bd) (hb:JB X body s1) (hs:∀x,foldedSetIterable iter X.env x=pure x:=by intro _;rfl):
  JS X (.For tg iter body [] pos) (iA bd gi s1):=⟨fun B=>(yK hp hc (hi.h B) (hg.h B) (hb.h B) hs).imp fun D σ H ⟨S,F,o,R,h,k⟩=>by
 obtain⟨⟨ds,S1⟩,h1,h⟩:=ah h
 refine⟨S,F,ds,S1,R,h1,fun J F1 H1 R1 st1 w=>?_⟩
 refine⟨fun i m σ' H'=>∃S' F',Rel X.K B S' σ' F' H'/\(∀b o,F1 b=some o->F' b=some o)/\i<=ds.length/\m=ds.length - i/\loop bd s1 (ds.drop i) S'=some o,⟨_,S1,F1,R1,fun _ _ z=>z,Nat.zero_le _,rfl,h⟩,?_⟩
 rintro i m σ' H' ⟨S',F',R',le,hl,rfl,eO⟩
 have w':=w F' H' le R'.sub i
 by_cases hlt:i < ds.length
 ·have hd:ds[i]? =some ds[i]:=List.getElem?_eq_getElem hlt
  obtain⟨go,yl⟩:=w'.1 _ hd
  rw[List.drop_eq_getElem_cons hlt] at eO
  obtain⟨S2,e2,eO⟩:=ah eO
  obtain⟨o2,e3,eO⟩:=ah eO
  refine .inr ⟨go,_,fun σ2 H2 n=>⟨ds.length - (i+1),by omega,n⟩,fun x H2 y=>?_⟩
  obtain⟨rfl,rx⟩:=yl x H2 y
  refine⟨S',F',_,S2,R',rx,e2,fun σ3 R3=>⟨S2,F',o2,R3,e3,?_⟩⟩
  cases o2 with
  | nx S3=>exact fun wg F4 H4 R4 qK=>⟨S3,F4,R4,fun b o z=>qK b o (le b o z),hlt,rfl,eO⟩
  | ct S3=>exact fun wg F4 H4 R4 qK=>⟨S3,F4,R4,fun b o z=>qK b o (le b o z),hlt,rfl,eO⟩
  | bk S3=>cases eO;exact fun wg F4 H4 R4 qK=>k wg F4 H4 R4 fun b o z=>qK b o (le b o (st1.ext.le b o z))
  | rt u S3=>cases eO;exact fun v wg F4 H4 R4 qK=>k v wg F4 H4 R4 fun b o z=>qK b o (le b o (st1.ext.le b o z))
 ·have e:i=ds.length:=by omega
  subst e
  rw[List.drop_length] at eO
  cases eO
  exact .inl ⟨w'.2 (Nat.le_refl _),k σ' F' H' R' fun b o z=>le b o (st1.ext.le b o z)⟩⟩
noncomputable def qu (q:GT) (body:GS):Nat->SS->Option Out
 | 0,_=>none
 | n+1,S=>(q S).bind fun p=>if p.1 then(body p.2).bind fun o=>match o with
  | .nx S2=>qu q body n S2
  | .ct S2=>qu q body n S2
  | .bk S2=>some (.nx S2)
  | .rt u S2=>some (.rt u S2)
 else some (.nx p.2)
noncomputable def rX (fuel:Nat) (q:GT) (body:GS):GS:=fun S=>qu q body fuel S
theorem wZ {fuel:Nat}(hp:PassesOwn (model X.prog X.w) X.A X.env X.xe) (hc:JT X c q1) (hb:JB X body s1):JS X (.While c body [] pos) (rX fuel q1 s1):=⟨fun B=>(BY hp (hc.h B) (hb.h B)).imp fun D σ H ⟨S,F,o,R,h,k⟩=>by
 refine⟨fun m σ' H'=>∃S' F',Rel X.K B S' σ' F' H'/\(∀b o,F b=some o->F' b=some o)/\qu q1 s1 m S'=some o,⟨fuel,S,F,R,fun _ _ z=>z,h⟩,?_⟩
 rintro m σ' H' ⟨S',F',R',le,h⟩
 cases m with
 | zero=>cases h
 | succ m=>
  obtain⟨⟨d,S1⟩,h1,h⟩:=ah h
  refine⟨S',F',d,S1,R',h1,fun F1 H1 R1 st1=>?_⟩
  cases d with
  | false=>
   cases h
   exact Cn (k σ' F1 H1 R1 fun b o z=>st1.ext.le b o (le b o z))
  | true=>
   obtain⟨o2,e3,h⟩:=ah (show(s1 S1).bind _=some o from h)
   refine Co ⟨_,fun σ2 H2 n=>⟨m,Nat.lt_succ_self m,n⟩,S1,F1,o2,R1,e3,?_⟩
   have Ng:∀b o,F b=some o->F1 b=some o:=fun b o z=>st1.ext.le b o (le b o z)
   cases o2 with
   | nx S3=>exact fun wg F4 H4 R4 qK=>⟨S3,F4,R4,fun b o z=>qK b o (Ng b o z),h⟩
   | ct S3=>exact fun wg F4 H4 R4 qK=>⟨S3,F4,R4,fun b o z=>qK b o (Ng b o z),h⟩
   | bk S3=>cases h;exact fun wg F4 H4 R4 qK=>k wg F4 H4 R4 fun b o z=>qK b o (Ng b o z)
   | rt u S3=>cases h;exact fun v wg F4 H4 R4 qK=>k v wg F4 H4 R4 fun b o z=>qK b o (Ng b o z)⟩
end
noncomputable def J7:U->MO->Option U
 | .m _,o=>some (.m o)
 | .b _,o=>some (.b o)
 | _,_=>none
noncomputable def J8:U->Option MO
 | .m o=>some o
 | .b o=>some o
 | _=>none
noncomputable def j8 (S:SS) (i:Nat) (f:MO->Option (D×MO)):Option (D×SS):=match S[i]? with
 | some (some (.m o))=>(f o).map fun r=>(r.1,S.set i (some (.m r.2)))
 | some (some (.b o))=>(f o).map fun r=>(r.1,S.set i (some (.b r.2)))
 | _=>none
theorem At.Lv {F H:Hp}{a:Addr}{o:MO}{ob:Obj}{u:HO}(h:At F H a o):H a≠some (.jw ob u):=fun z=>by
 cases o with
 | lst ds=>obtain⟨vs,e,_⟩:=h;rw[z] at e;cases e
 | dct ds=>obtain⟨vs,e,_⟩:=h;rw[z] at e;cases e
 | mX ds=>obtain⟨vs,e,_⟩:=h;rw[z] at e;cases e
 | ins C ds=>obtain⟨vs,⟨dx,e⟩,_⟩:=h;rw[z] at e;cases e
theorem rT.cy {K:PySem.W.Frag}{F H:Hp}{v:V}{u:U}(r:rT K F H v u) (hm:fZ u=true):∃a o,v= .ref a/\F a=none/\J8 u=some o/\At F H a o:=by
 cases u with
 | t d=>cases hm
 | v d=>cases hm
 | s d=>cases hm
 | f d=>cases hm
 | m o=>obtain⟨a,e,f,h⟩:=r;exact⟨a,o,e,f,rfl,h⟩
 | b o=>obtain⟨a,e,f,h⟩:=r;exact⟨a,o,e,f,rfl,h⟩
theorem Rel.write {K : PySem.W.Frag} {B : Base} {S : SS} {σ : St} {F H : Hp} {i : Nat} {u u' : U} {a : Addr} {ho : HO} {o : MO} (R : Rel K B S σ F H) (hS : S[i]? = some (some u)) (hu : J7 u o = some u') (hv : σ[i]? = some (some (.ref a))) (ha : At F (upd H a ho) a o) :
    Rel K B (S.set i (some u')) σ F (upd H a ho)/\Step S (S.set i (some u')) σ F H F (upd H a ho):=by
  have hm:fZ u=true/\fZ u'=true:=by cases u <;> cases hu <;> exact⟨rfl,rfl⟩
  have Lw:F a=none/\∀b ob w,H b=some (.jw ob w)->b≠a:=by
    obtain⟨v,h1,h2⟩:=R.rep i u hS
    rw[hv] at h1
    cases h1
    obtain⟨b,_,e,f,_,k⟩:=h2.cy hm.1
    cases e
    exact⟨f,fun b ob w z e=>k.Lv (by rw[e] at z;exact z)⟩
  have Lx:=Lw.1
  have GP:∀b ob w,H b=some (.jw ob w)->upd H a ho b=some (.jw ob w):=fun b ob w z=>by rw[aE (Lw.2 b ob w z)];exact z
  have Uv:L2.cy S σ a:=⟨i,u,hS,hm.1,hv⟩
  have hl:i < S.length:=(List.getElem?_eq_some_iff.mp hS).1
  have kb:∀{j w},(S.set i (some u'))[j]? =some (some w)->(i=j/\u'=w)\/(i≠j/\S[j]? =some (some w)):=fun {j w} z=>by
    rcases get_set z with⟨e,q,_⟩ | q
    . exact .inl ⟨e,Option.some.inj q⟩
    . exact .inr q
  have orig:∀{j w},(S.set i (some u'))[j]? =some (some w)->fZ w=true->∃w0,S[j]? =some (some w0)/\fZ w0=true:=fun {j w} z hw=>by
    rcases kb z with⟨rfl,rfl⟩ | ⟨_,q⟩
    . exact⟨u,hS,hm.1⟩
    . exact⟨w,q,hw⟩
  have keepR:∀b o,b≠a->Rd H b o->Rd (upd H a ho) b o:=fun b o ne r=>by
    rcases r with r | ⟨ob,r⟩
    . exact .inl (by rw[aE ne];exact r)
    . exact .inr ⟨ob,by rw[aE ne];exact r⟩
  refine⟨⟨fun b o z=>by rw[aE (fun e=>by rw[e,Lx] at z;cases z)];exact R.sub b o z,by rw[List.length_set];exact R.len,fun j w z=>?_,fun j k w1 w2 c z1 m1 z2 m2=>?_,fun j o' c z hc=>?_,fun j o' c z hc=>?_,fun j c z=>?_,?_⟩,⟨?_,fun c ⟨j,w,z,hw,hc⟩=>?_,fun j w z=>?_⟩⟩
  . rcases kb z with⟨rfl,rfl⟩ | ⟨ne,q⟩
    . refine⟨.ref a,hv,?_⟩
      cases u <;> cases hu
      . exact⟨a,rfl,Lx,ha⟩
      . exact⟨a,rfl,Lx,ha⟩
    . obtain⟨v,h1,h2⟩:=R.rep j w q
      refine⟨v,h1,?_⟩
      by_cases hw:fZ w=true
      . obtain⟨c,o',rfl,f,e,h⟩:=h2.cy hw
        have hca:c≠a:=fun z=>ne (R.wR i j u w a hS hm.1 q hw hv (by rw[h1,z]))
        have h':At F (upd H a ho) c o':=h.le (fun _ _ z=>z) fun o z=>by rw[aE hca];exact z
        cases w <;> cases hw <;> cases e
        . exact⟨c,rfl,f,h'⟩
        . exact⟨c,rfl,f,h'⟩
      . cases w with
        | t d=>exact h2
        | v d=>exact h2
        | s d=>obtain⟨c,e,h⟩:=h2;exact⟨c,e,h.le GP⟩
        | f d=>exact h2
        | m o=>exact absurd rfl hw
        | b o=>exact absurd rfl hw
  . obtain⟨O7,q1,n1⟩:=orig z1 m1
    obtain⟨O8,q2,n2⟩:=orig z2 m2
    exact R.wR j k O7 O8 c q1 n1 q2 n2
  . rcases kb z with⟨rfl,rfl⟩ | ⟨_,q⟩
    . cases u <;> cases hu
      exact R.own _ _ c hS hc
    . exact R.own j o' c q hc
  . rcases kb z with⟨rfl,rfl⟩ | ⟨_,q⟩
    . cases u <;> cases hu
      exact R.bor _ _ c hS hc
    . exact R.bor j o' c q hc
  . obtain⟨k1,o',k2⟩:=R.par j c z
    refine⟨k1,?_⟩
    by_cases e:i=j
    . subst e
      rw[hS] at k2
      cases k2
      cases hu
      exact⟨o,List.getElem?_set_self hl⟩
    . exact⟨o',by rw[List.getElem?_set_ne e];exact k2⟩
  . refine⟨R.ext.le,fun b o z n=>?_,R.ext.iE,fun b o z=>?_,fun b o w z=>GP b o w (R.ext.jw b o w z)⟩
    . have hb:b≠a:=fun e=>by
        subst e
        cases u with
        | m o'=>rw[R.own i o' b hS hv] at z;cases z
        | b o'=>exact n (R.bor i o' b hS hv)
        | t d=>cases hu
        | v d=>cases hu
        | s d=>cases hu
        | f d=>cases hu
      rw[aE hb]
      exact R.ext.keep b o z n
    . by_cases hb:b=a
      . exact⟨ho,by rw[hb,aL]⟩
      . rw[aE hb];exact R.ext.there b o z
  . refine⟨fun _ _ z=>z,fun b o z n=>?_,fun _ _ _ _ z=>z,fun b o z=>?_,GP⟩
    . rw[aE (fun e=>n (by rw[e];exact Uv))];exact z
    . by_cases hb:b=a
      . exact⟨ho,by rw[hb,aL]⟩
      . exact⟨o,by rw[aE hb];exact z⟩
  . obtain⟨w0,q,n⟩:=orig z hw
    exact⟨j,w0,q,n,hc⟩
  . by_cases e:i=j
    . subst e;exact⟨u',List.getElem?_set_self hl⟩
    . exact⟨w,by rw[List.getElem?_set_ne e];exact z⟩
theorem pG {S S':SS}{i:Nat}{f:MO->Option (D×MO)}{d:D}(h:j8 S i f=some (d,S')):∃u u' o o',S[i]? =some (some u)/\fZ u=true/\J8 u=some o/\f o=some (d,o')/\J7 u o'=some u'/\S'=S.set i (some u'):=by
 unfold j8 at h
 split at h
 ·rename_i o e
  obtain⟨⟨d',o'⟩,h1,h⟩:=az h
  cases h
  exact⟨_,_,o,o',e,rfl,rfl,h1,rfl,rfl⟩
 ·rename_i o e
  obtain⟨⟨d',o'⟩,h1,h⟩:=az h
  cases h
  exact⟨_,_,o,o',e,rfl,rfl,h1,rfl,rfl⟩
 ·cases h
noncomputable def O9 (r:V->List V->Hp->VK->Prop) (h:List D->MO->Option (D×MO)):Prop:=
 ∀F H a vs xs ds args res o',Sub F H->H a=some (.lst vs)->F a=none->bw F vs ds->bw F xs args->h args (.lst ds)=some (res,o')->
  ∀Q:VK,(∀rv ho,Rep F rv res->At F (upd H a ho) a o'->Q rv (upd H a ho))->r (.ref a) xs H Q
noncomputable def fj:MO->Bool
 | .lst _=>true
 | _=>false
noncomputable def BK (S:SS) (i:Nat):Bool:=match S[i]? with
 | some (some (.m (.lst _)))=>true
 | some (some (.b (.lst _)))=>true
 | _=>false
theorem Im {K:PySem.W.Frag}{B:Base}{S:SS}{σ:St}{F H:Hp}{i:Nat}(R:Rel K B S σ F H) (h:BK S i=true):∃u a vs ds,S[i]? =some (some u)/\fZ u=true/\J8 u=some (.lst ds)/\σ[i]? =some (some (.ref a))/\F a=none/\H a=some (.lst vs)/\bw F vs ds:=by
 unfold BK at h
 split at h
 ·rename_i ds e
  obtain⟨v,k1,a,rfl,f,vs,k2,k3⟩:=R.rep i _ e
  exact⟨_,a,vs,ds,e,rfl,rfl,k1,f,k2,k3⟩
 ·rename_i ds e
  obtain⟨v,k1,a,rfl,f,vs,k2,k3⟩:=R.rep i _ e
  exact⟨_,a,vs,ds,e,rfl,rfl,k1,f,k2,k3⟩
 ·cases h
noncomputable def eM (i:Nat) (h:List D->MO->Option (D×MO)) (gA:GA):GD:=fun S=>if BK S i then(gA S).bind fun p=>j8 p.2 i (h p.1) else none
theorem CH {K:PySem.W.Frag}{B:Base}{S:SS}{σ:St}{F H:Hp}{i:Nat}{a:Addr}{u:U}{ds:List D}(R:Rel K B S σ F H) (hS:S[i]? =some (some u)) (hm:fZ u=true) (hi:J8 u=some (.lst ds)) (hv:σ[i]? =some (some (.ref a))):F a=none/\∃vs,H a=some (.lst vs)/\bw F vs ds:=by
 obtain⟨v,k1,k2⟩:=R.rep i u hS
 rw[hv] at k1
 cases k1
 obtain⟨b,o2,e1,f,e2,k⟩:=k2.cy hm
 cases e1
 rw[hi] at e2
 cases e2
 exact⟨f,k⟩
section
variable {X:Cx}{a b c e:Expr}{es:List Expr}{pos p p2 apos cpos px:Pos}{x name:Str}{g ga gb gc:GD}{gA:GA}{id:String}
theorem kQ {i:Nat}{r:V->List V->Hp->VK->Prop}{h:List D->MO->Option (D×MO)}(slot:Slot "list" name id) (hty:typeOf (.builtin id)=pure (.type "method_descriptor")) (hm:OI X id r) (hh:O9 r h) (hl:∀args o,fj o=false->h args o=none) (ha:JA X (e :: es) gA)
  (hN:X.N[i]? =some x:=by rfl) (hv:AR X.env.scope x:=by first | exact Or.inl rfl | exact Or.inr (Or.inl rfl) | exact Or.inr (Or.inr rfl))
  (hbase:attributeBase (.Name x px) name X.env (eval (.Name x px) X.env)=eval (.Name x px) X.env:=by rfl)
  (hfew:((backTo cpos (starEach (e :: es) X.env)).all (fun x=>!x.1) && (backToKw cpos (keywordEach [] X.env)).all (fun x=>x.1.isSome)
   && decide ((e :: es).length+([]:List Keyword).length+(if([]:List Keyword).isEmpty then 0 else 1) < 30))=true:=by rfl)
  (hline:(apos.endLine == cpos.line)=true:=by rfl) (hs:starEach (e :: es) X.env=(false,eval e X.env) :: starEach es X.env:=by rfl) (hplain:(backTo cpos (starEach es X.env)).any (·.1)=false:=by rfl)
  (hd:(x == ("__debug__":Str))=false:=by decide) (hcd:(x == ("__classdict__":Str))=false:=by decide):
  JD X (.Call (.Attribute (.Name x px) name apos) (e :: es) [] cpos) (eM i h gA):=
 ⟨fun B=>(GF PySem.F.plainAttrs_list slot hty hm (iF hN hv hd hcd) (ha.h B) hbase hfew hline hs hplain).imp fun σ H Q ⟨S,F,d,S',R,hg,q⟩=>by
 unfold eM at hg
 split at hg
 ·rename_i hL
  obtain⟨⟨args,S1⟩,h1,hg⟩:=ah hg
  obtain⟨u,u',o,o',hS,Io,hio,hf,Eg,rfl⟩:=pG hg
  obtain⟨u0,a,SR,WL,_,_,_,hv0,_,hH,_⟩:=Im R hL
  cases o with
  | dct kvs=>rw[hl _ _ rfl] at hf;cases hf
  | mX kvs=>rw[hl _ _ rfl] at hf;cases hf
  | ins C kvs=>rw[hl _ _ rfl] at hf;cases hf
  | lst ds=>
   refine⟨.ref a,hv0,.inl ⟨rfl,SR,nB.of hH⟩,S,F,args,S1,R,h1,fun xs F1 H1 R1 st1 r1=>?_⟩
   obtain⟨hf1,vs,Uw,rs⟩:=CH R1 hS Io hio hv0
   refine hh F1 H1 a vs xs ds args d o' R1.sub Uw hf1 rs r1 hf Q fun rv ho rr ha=>?_
   obtain⟨R2,st2⟩:=R1.write hS Eg hv0 ha
   exact q rv F1 _ R2 (st1.trans st2) rr
 ·cases hg⟩
noncomputable def hAppend:List D->MO->Option (D×MO)
 | [d],.lst ds=>if ds.length < 100000 then some (.cH,.lst (ds++[d])) else none
 | _,_=>none
theorem jB : O9 zV hAppend := by
  intro F H a vs xs ds args res o' sb hH fa rs rx hw Q q
  unfold hAppend at hw
  split at hw
  . rename_i d ds' e2
    cases e2
    split at hw
    . rename_i hl
      cases hw
      cases rx with
      | cons r rr=>
        cases rr
        exact⟨a,vs,_,rfl,rfl,hH,by rw[rs.length];exact Nat.lt_of_lt_of_le hl (by decide),q .cH _ .cH ⟨_,aL,rs.append (.cons r .nil)⟩⟩
    . cases hw
  . cases hw
theorem bw.dropLast {F:Hp}{vs:List V}{ds:List D}(r:bw F vs ds):bw F vs.dropLast ds.dropLast:=by
 rw[List.dropLast_eq_take,List.dropLast_eq_take,r.length]
 exact r.take _
end
theorem jH.step {K:PySem.W.Frag}{B:Base}{S S':SS}{σ:St}{H0 F H F' H':Hp}{v:V}{u:U}(r:jH K B S σ H0 F H v u) (st:Step S S' σ F H F' H'):jH K B S' σ H0 F' H' v u:=by
 cases u with
 | t d=>exact r.le st.ext.le
 | b o=>exact r
 | v i=>obtain⟨h1,u,h2⟩:=r;exact⟨h1,st.slots i u h2⟩
 | s i=>obtain⟨a,e,h⟩:=r;exact⟨a,e,h.le st.ext.jw⟩
 | f i=>exact r
 | m o=>
  obtain⟨a,e,h0,f,h,n,hB⟩:=r
  obtain⟨ho,hh⟩:=h.has
  exact⟨a,e,h0,st.ext.iE a ho hh n f,h.le st.ext.le fun o z=>st.ext.keep a o z n,fun m=>n (st.mu a m),hB⟩
noncomputable abbrev GU:=SS->Option (List U×SS)
noncomputable def Ux (K:PySem.W.Frag) (B:Base) (gu:GU):TA:=fun σ H Q=>∃S F us S',Rel K B S σ F H/\gu S=some (us,S')/\∀vs F' H',Rel K B S' σ F' H'->Step S S' σ F H F' H'->Paired (fun v u=>jH K B S' σ H F' H' v u) vs us->Q vs H'
structure JU (X:Cx) (es:List Expr) (gu:GU):Prop where
 h:∀B,PA X es (Ux X.K B gu)
 len:∀S us S',gu S=some (us,S')->us.length=es.length
noncomputable def cQ:GU:=fun S=>some ([],S)
noncomputable def bQ (g:GD) (gu:GU):GU:=fun S=>(g S).bind fun p=>(gu p.2).map fun q=>(.t p.1 :: q.1,q.2)
noncomputable def gX (g:GE) (gu:GU):GU:=fun S=>(g S).bind fun p=>(gu p.2).map fun q=>(p.1 :: q.1,q.2)
section
variable {X:Cx}{e:Expr}{es:List Expr}{g:GD}{ge:GE}{gu:GU}
theorem cD:JU X [] cQ:=⟨fun B=>pC.imp fun σ H Q ⟨S,F,us,S',R,hg,q⟩=>by
 cases hg
 exact q [] F H R (Step.refl ..) .nil,fun S us S' h=>by cases h;rfl⟩
theorem bK (h:JD X e g) (hr:JU X es gu) (hs:starEach (e :: es) X.env=(false,eval e X.env) :: starEach es X.env:=by rfl):JU X (e :: es) (bQ g gu):=
 ⟨fun B=>(mJ (h.h B) (hr.h B) hs).imp fun σ H Q ⟨S,F,us,S',R,hg,q⟩=>by
 obtain⟨⟨d,S1⟩,h1,hg⟩:=ah hg
 obtain⟨⟨Ip,S2⟩,h2,hg⟩:=az hg
 cases hg
 exact⟨S,F,d,S1,R,h1,fun v F1 H1 R1 st1 r1=>⟨S1,F1,Ip,S2,R1,h2,fun vs F2 H2 R2 st2 r2=>q _ F2 H2 R2 (st1.trans st2) (.cons (r1.le st2.ext.le) (Paired.AO r2 fun _ _ z=>z.weak st1.ext.there))⟩⟩,
 fun S us S' hg=>by
  obtain⟨⟨d,S1⟩,h1,hg⟩:=ah hg
  obtain⟨⟨Ip,S2⟩,h2,hg⟩:=az hg
  cases hg
  show Ip.length+1=es.length+1
  rw[hr.len _ _ _ h2]⟩
theorem iJ (h:JE X e ge) (hr:JU X es gu) (hs:starEach (e :: es) X.env=(false,eval e X.env) :: starEach es X.env:=by rfl):JU X (e :: es) (gX ge gu):=
 ⟨fun B=>(mJ (h.h B) (hr.h B) hs).imp fun σ H Q ⟨S,F,us,S',R,hg,q⟩=>by
 obtain⟨⟨d,S1⟩,h1,hg⟩:=ah hg
 obtain⟨⟨Ip,S2⟩,h2,hg⟩:=az hg
 cases hg
 exact⟨S,F,d,S1,R,h1,fun v F1 H1 R1 st1 r1=>⟨S1,F1,Ip,S2,R1,h2,fun vs F2 H2 R2 st2 r2=>q _ F2 H2 R2 (st1.trans st2) (.cons (r1.step st2) (Paired.AO r2 fun _ _ z=>z.weak st1.ext.there))⟩⟩,
 fun S us S' hg=>by
  obtain⟨⟨d,S1⟩,h1,hg⟩:=ah hg
  obtain⟨⟨Ip,S2⟩,h2,hg⟩:=az hg
  cases hg
  show Ip.length+1=es.length+1
  rw[hr.len _ _ _ h2]⟩
end
noncomputable def resolve (S:SS):U->Option U
 | .t d=>some (.t d)
 | .v i=>match S[i]? with
  | some (some (.m o))=>some (.b o)
  | some (some (.b o))=>some (.b o)
  | _=>none
 | .m o=>some (.b o)
 | .b _=>none
 | .s ns=>some (.s ns)
 | .f a=>some (.f a)
noncomputable def cg (S:SS):List U->Option (List U)
 | []=>some []
 | u :: us=>(resolve S u).bind fun w=>(cg S us).map fun ws=>w :: ws
noncomputable def slotsOf:List U->List Nat
 | []=>[]
 | .v i :: us=>i :: slotsOf us
 | _ :: us=>slotsOf us
noncomputable def cS:List U->Nat
 | []=>0
 | .m _ :: us=>cS us+1
 | _ :: us=>cS us
noncomputable def wb:List U->List MO->SS->Option SS
 | [],[],S=>some S
 | .v i :: us,o :: outs,S=>match S[i]? with
  | some (some (.m _))=>wb us outs (S.set i (some (.m o)))
  | some (some (.b _))=>wb us outs (S.set i (some (.b o)))
  | _=>none
 | .m _ :: us,_ :: outs,S=>wb us outs S
 | .t _ :: us,outs,S=>wb us outs S
 | .s _ :: us,outs,S=>wb us outs S
 | .f _ :: us,outs,S=>wb us outs S
 | _,_,_=>none
noncomputable abbrev FM:=List U->Option (U×List MO)
noncomputable def bF (f:FM) (gu:GU):GE:=fun S=>(gu S).bind fun p=>
 if(slotsOf p.1).Nodup/\cS p.1<=1 then(cg p.2 p.1).bind fun us=>(f us).bind fun r=>(wb p.1 r.2 p.2).map fun S2=>(r.1,S2) else none
noncomputable def CI (K:PySem.W.Frag) (F H:Hp) (v:V):U->Prop
 | .s ns=>∃a,v= .ref a/\EL K H a ns
 | .f a=>v= .ref a
 | .t d=>Rep F v d
 | .b o=>∃a,v= .ref a/\F a=none/\At F H a o
 | _=>False
noncomputable def addrs:List V->List U->List Addr
 | .ref a :: vs,.b _ :: us=>a :: addrs vs us
 | _ :: vs,_ :: us=>addrs vs us
 | _,_=>[]
structure Post (F H F' H':Hp) (as:List Addr) (outs:List MO):Prop where
 sub:Sub F' H'
 ext:Ext (fun a=>a∈as) F H F' H'
 out:Paired (fun a o=>F' a=none/\At F' H' a o) as outs
noncomputable def spT (K:PySem.W.Frag) (n:Nat) (f:FM):Sp:=fun vs H Q _=>vs.length=n/\∃F us r outs,Sub F H/\Paired (CI K F H) vs us/\(addrs vs us).Nodup/\f us=some (r,outs)/\∀v F' H',Post F H F' H' (addrs vs us) outs->Cz H F' H' v r->Q v H'
section
variable {K:PySem.W.Frag}{B:Base}{S S1 S2:SS}{σ:St}{H0 F H F' H':Hp}
theorem mL {i:Nat}{w:U}(h:resolve S (.v i)=some w):∃u o,S[i]? =some (some u)/\fZ u=true/\J8 u=some o/\w= .b o:=by
 unfold resolve at h
 dsimp only at h
 split at h
 ·rename_i o e;cases h;exact⟨_,o,e,rfl,rfl,rfl⟩
 ·rename_i o e;cases h;exact⟨_,o,e,rfl,rfl,rfl⟩
 ·cases h
theorem q9 (R:Rel K B S σ F H):∀{vs:List V}{us ws:List U},Paired (fun v u=>jH K B S σ H0 F H v u) vs us->cg S us=some ws->Paired (CI K F H) vs ws
 | _,_,_,.nil,h=>by cases h;exact .nil
 | _,_,_,@Paired.cons _ _ _ v u vs us r rs,h=>by
  obtain⟨w,h1,h⟩:=ah h
  obtain⟨ws,h2,h⟩:=az h
  subst h
  refine .cons ?_ (q9 R rs h2)
  cases u with
  | t d=>cases h1;exact r
  | s d=>cases h1;exact r
  | f d=>cases h1;exact r
  | b o=>cases h1
  | m o=>cases h1;obtain⟨a,e,_,f,k,_⟩:=r;exact⟨a,e,f,k⟩
  | v i=>
   obtain⟨u,o,hu,hm,hi,rfl⟩:=mL h1
   obtain⟨hv,_⟩:=r
   obtain⟨v',k1,k2⟩:=R.rep i u hu
   rw[hv] at k1
   cases k1
   obtain⟨a,o2,e,f,e2,k⟩:=k2.cy hm
   rw[hi] at e2
   cases e2
   exact⟨a,e,f,k⟩
theorem ou (R : Rel K B S σ F H) : ∀ {vs : List V} {us ws : List U}, Paired (fun v u => jH K B S σ H0 F H v u) vs us -> cg S us = some ws -> ∀ a ∈ addrs vs ws,
    (∃i u,i∈slotsOf us/\S[i]? =some (some u)/\fZ u=true/\σ[i]? =some (some (.ref a)))\/(0 < cS us/\H0 a=none/\B.H a=none/\¬cy S σ a)
  | _,_,_,.nil,h,a,ha=>by cases h;cases ha
  | _,_,_,@Paired.cons _ _ _ v u vs us r rs,h,a,ha=>by
    obtain⟨w,h1,h⟩:=ah h
    obtain⟨ws,h2,h⟩:=az h
    subst h
    have ih:=ou R rs h2
    cases u with
    | t d=>
      cases h1
      have ha:a∈addrs vs ws:=by cases v <;> exact ha
      exact ih a ha
    | s d=>
      cases h1
      have ha:a∈addrs vs ws:=by cases v <;> exact ha
      exact ih a ha
    | f d=>
      cases h1
      have ha:a∈addrs vs ws:=by cases v <;> exact ha
      exact ih a ha
    | b o=>cases h1
    | m o =>
      cases h1
      obtain⟨c,rfl,k0,f,k,n,hB⟩:=r
      rcases List.mem_cons.mp (show a∈c :: addrs vs ws from ha) with rfl | ha
      . exact .inr ⟨Nat.succ_pos _,k0,hB,n⟩
      . rcases ih a ha with z | ⟨_,z⟩
        . exact .inl z
        . exact .inr ⟨Nat.succ_pos _,z⟩
    | v i =>
      obtain⟨u,o,hu,hm,hi,rfl⟩:=mL h1
      obtain⟨hv,_⟩:=r
      obtain⟨v',k1,k2⟩:=R.rep i u hu
      rw[hv] at k1
      cases k1
      obtain⟨c,o2,rfl,f,e2,k⟩:=k2.cy hm
      rcases List.mem_cons.mp (show a∈c :: addrs vs ws from ha) with rfl | ha
      . exact .inl ⟨i,u,List.mem_cons_self,hu,hm,hv⟩
      . rcases ih a ha with⟨j,w,z,z2⟩ | z
        . exact .inl ⟨j,w,List.mem_cons_of_mem _ z,z2⟩
        . exact .inr z
theorem fq (R : Rel K B S σ F H) : ∀ {vs : List V} {us ws : List U}, Paired (fun v u => jH K B S σ H0 F H v u) vs us -> cg S us = some ws -> (slotsOf us).Nodup -> cS us <= 1 -> (addrs vs ws).Nodup
  | _,_,_,.nil,h,_,_=>by cases h;exact List.nodup_nil
  | _,_,_,@Paired.cons _ _ _ v u vs us r rs,h,nd,fr=>by
    obtain⟨w,h1,h⟩:=ah h
    obtain⟨ws,h2,h⟩:=az h
    subst h
    cases u with
    | t d=>
      cases h1
      have:=fq R rs h2 nd fr
      cases v <;> exact this
    | s d=>
      cases h1
      have:=fq R rs h2 nd fr
      cases v <;> exact this
    | f d=>
      cases h1
      have:=fq R rs h2 nd fr
      cases v <;> exact this
    | b o=>cases h1
    | m o=>
      cases h1
      have WM:cS us=0:=by have:cS us+1<=1:=fr;omega
      obtain⟨c,rfl,k0,f,k,n,hB⟩:=r
      refine List.nodup_cons.mpr ⟨fun hc=>?_,fq R rs h2 nd (by omega)⟩
      rcases ou R rs h2 c hc with⟨j,w,_,z1,z2,z3⟩ | ⟨z,_⟩
      . exact n ⟨j,w,z1,z2,z3⟩
      . omega
    | v i =>
      obtain⟨u,o,hu,hm,hi,rfl⟩:=mL h1
      obtain⟨hv,_⟩:=r
      obtain⟨v',k1,k2⟩:=R.rep i u hu
      rw[hv] at k1
      cases k1
      obtain⟨c,o2,rfl,f,e2,k⟩:=k2.cy hm
      obtain⟨Pa,J9⟩:=List.nodup_cons.mp (show(i :: slotsOf us).Nodup from nd)
      refine List.nodup_cons.mpr ⟨fun hc=>?_,fq R rs h2 J9 fr⟩
      rcases ou R rs h2 c hc with⟨j,w,z0,z1,z2,z3⟩ | ⟨_,_,_,z⟩
      . have:=R.wR i j u w c hu hm z1 z2 hv z3
        subst this
        exact Pa z0
      . exact z ⟨i,u,hu,hm,hv⟩
theorem mO (R : Rel K B S σ F H) (P : Addr -> MO -> Prop) : ∀ {vs : List V} {us ws : List U} {outs : List MO} {S1 S2 : SS}, Paired (fun v u => jH K B S σ H0 F H v u) vs us -> cg S us = some ws -> wb us outs S1 = some S2 -> (slotsOf us).Nodup -> Paired P (addrs vs ws) outs ->
    S2.length=S1.length/\(∀j,j∉slotsOf us->S2[j]? =S1[j]?)/\∀j∈slotsOf us,∃u u' o a,S1[j]? =some (some u)/\J7 u o=some u'/\S2[j]? =some (some u')/\σ[j]? =some (some (.ref a))/\P a o
  | _,_,_,_,_,_,.nil,h,hw,_,hp=>by
    cases h
    cases hp
    cases hw
    exact⟨rfl,fun _ _=>rfl,fun j hj=>by cases hj⟩
  | _, _, _, outs, S1, S2, @Paired.cons _ _ _ v u vs us r rs, h, hw, nd, hp => by
    obtain⟨w,h1,h⟩:=ah h
    obtain⟨ws,h2,h⟩:=az h
    subst h
    cases u with
    | t d =>
      cases h1
      have hp:Paired P (addrs vs ws) outs:=by cases v <;> exact hp
      have hw:wb us outs S1=some S2:=by
        cases outs <;> exact hw
      have ih:=mO R P rs h2 hw nd hp
      exact ih
    | s d =>
      cases h1
      have hp:Paired P (addrs vs ws) outs:=by cases v <;> exact hp
      have hw:wb us outs S1=some S2:=by
        cases outs <;> exact hw
      have ih:=mO R P rs h2 hw nd hp
      exact ih
    | f d =>
      cases h1
      have hp:Paired P (addrs vs ws) outs:=by cases v <;> exact hp
      have hw:wb us outs S1=some S2:=by
        cases outs <;> exact hw
      have ih:=mO R P rs h2 hw nd hp
      exact ih
    | b o=>cases h1
    | m o =>
      cases h1
      obtain⟨c,rfl,k0,f,k,n,hB⟩:=r
      cases hp with
      | cons p1 p2=>
        have ih:=mO R P rs h2 (show wb us _ S1=some S2 from hw) nd p2
        exact ih
    | v i =>
      obtain⟨u0,o0,hu,hm,hi,rfl⟩:=mL h1
      obtain⟨hv,_⟩:=r
      obtain⟨v',k1,k2⟩:=R.rep i u0 hu
      rw[hv] at k1
      cases k1
      obtain⟨c,o2,rfl,f,e2,k⟩:=k2.cy hm
      obtain⟨Pa,J9⟩:=List.nodup_cons.mp (show(i :: slotsOf us).Nodup from nd)
      cases hp with
      | @cons _ o _ outs p1 p2 =>
        have go : ∀ u u', S1[i]? = some (some u) -> J7 u o = some u' -> wb us outs (S1.set i (some u')) = some S2 -> S2.length = S1.length /\ (∀ j, j ∉ i :: slotsOf us -> S2[j]? = S1[j]?) /\ ∀ j ∈ i :: slotsOf us, ∃ u u' o a, S1[j]? = some (some u) /\ J7 u o = some u' /\ S2[j]? = some (some u') /\ σ[j]? = some (some (.ref a)) /\ P a o := fun u u' e1 e2 hw => by
          obtain⟨l,out,qZ⟩:=mO R P rs h2 hw J9 p2
          refine⟨by rw[l,List.length_set],fun j hj=>?_,fun j hj=>?_⟩
          . rw[out j fun z=>hj (List.mem_cons_of_mem _ z),List.getElem?_set_ne fun z=>hj (by rw[z];exact List.mem_cons_self)]
          . by_cases e:i=j
            . subst e
              exact⟨u,u',o,c,e1,e2,by rw[out i Pa];exact List.getElem?_set_self (List.getElem?_eq_some_iff.mp e1).1,hv,p1⟩
            . rcases List.mem_cons.mp hj with z | z
              . exact absurd z.symm e
              . obtain⟨w,w',o',a',q1,q2,q3,q4,q5⟩:=qZ j z
                rw[List.getElem?_set_ne e] at q1
                exact⟨w,w',o',a',q1,q2,q3,q4,q5⟩
        unfold wb at hw
        split at hw
        . rename_i o' e;exact go _ _ e rfl hw
        . rename_i o' e;exact go _ _ e rfl hw
        . cases hw
end
theorem nK {K : PySem.W.Frag} {B : Base} {S0 S S2 : SS} {σ : St} {F0 H0 F H F' H' : Hp} {vs : List V} {us ws : List U} {outs : List MO} (R : Rel K B S σ F H) (st : Step S0 S σ F0 H0 F H) (rr : Paired (fun v u => jH K B S σ H0 F H v u) vs us) (hr : cg S us = some ws) (hw : wb us outs S = some S2) (nd : (slotsOf us).Nodup) (p : Post F H F' H' (addrs vs ws) outs) :
    Rel K B S2 σ F' H'/\Step S0 S2 σ F0 H0 F' H'/\∀a,cy S2 σ a->cy S σ a:=by
  obtain⟨hl,out,qZ⟩:=mO R (fun a o=>F' a=none/\At F' H' a o) rr hr hw nd p.out
  have Uy:∀{u:U}{o:MO}{u':U},J7 u o=some u'->fZ u=true/\fZ u'=true/\J8 u'=some o:=fun {u o u'} h=>by cases u <;> cases h <;> exact⟨rfl,rfl,rfl⟩
  have orig:∀{j w},S2[j]? =some (some w)->fZ w=true->∃w0,S[j]? =some (some w0)/\fZ w0=true:=fun {j w} z hm=>by
    by_cases hj:j∈slotsOf us
    . obtain⟨u,u',o,a,q1,q2,q3,q4,q5⟩:=qZ j hj
      exact⟨u,q1,(Uy q2).1⟩
    . rw[out j hj] at z;exact⟨w,z,hm⟩
  have mu:∀a,cy S2 σ a->cy S σ a:=fun a ⟨j,w,z,hm,hv⟩=>let⟨w0,q,n⟩:=orig z hm;⟨j,w0,q,n,hv⟩
  have w4:=ou R rr hr
  refine⟨⟨p.sub,by rw[hl];exact R.len,fun j w z=>?_,fun j k w1 w2 c z1 m1 z2 m2=>?_,fun j o a z hv=>?_,fun j o a z hv=>?_,fun j a z=>?_,?_⟩,⟨⟨?_,?_,?_,?_,fun b o u z=>p.ext.jw b o u (st.ext.jw b o u z)⟩,fun a m=>st.mu a (mu a m),fun j u z=>?_⟩,mu⟩
  . by_cases hj:j∈slotsOf us
    . obtain⟨u,u',o,a,q1,q2,q3,q4,q5,q6⟩:=qZ j hj
      rw[q3] at z
      cases z
      refine⟨.ref a,q4,?_⟩
      cases u <;> cases q2
      . exact⟨a,rfl,q5,q6⟩
      . exact⟨a,rfl,q5,q6⟩
    . rw[out j hj] at z
      obtain⟨v,h1,h2⟩:=R.rep j w z
      refine⟨v,h1,h2.le p.ext.le p.ext.jw fun a hm ha=>?_⟩
      have hna:a∉addrs vs ws:=fun hc=>by
        rcases w4 a hc with⟨i,u,q0,q1,q2,q3⟩ | ⟨_,_,_,q⟩
        . have:=R.wR i j u w a q1 q2 z hm q3 (by rw[h1,ha])
          subst this
          exact hj q0
        . exact q ⟨j,w,z,hm,by rw[h1,ha]⟩
      obtain⟨c,o,e,f,_,k⟩:=h2.cy hm
      rw[ha] at e
      cases e
      obtain⟨ho,hh⟩:=k.has
      exact⟨fun o q=>p.ext.keep a o q hna,p.ext.iE a ho hh hna f⟩
  . obtain⟨O7,q1,n1⟩:=orig z1 m1
    obtain⟨O8,q2,n2⟩:=orig z2 m2
    exact R.wR j k O7 O8 c q1 n1 q2 n2
  . by_cases hj:j∈slotsOf us
    . obtain⟨u,u',o',a',q1,q2,q3,q4,q5⟩:=qZ j hj
      rw[q3] at z
      cases z
      cases u <;> cases q2
      exact R.own j _ a q1 hv
    . rw[out j hj] at z;exact R.own j o a z hv
  . by_cases hj:j∈slotsOf us
    . obtain⟨u,u',o',a',q1,q2,q3,q4,q5⟩:=qZ j hj
      rw[q3] at z
      cases z
      cases u <;> cases q2
      exact R.bor j _ a q1 hv
    . rw[out j hj] at z;exact R.bor j o a z hv
  . obtain⟨k1,o,k2⟩:=R.par j a z
    refine⟨k1,?_⟩
    by_cases hj:j∈slotsOf us
    . obtain⟨u,u',o',a',q1,q2,q3,q4,q5⟩:=qZ j hj
      rw[k2] at q1
      cases q1
      cases q2
      exact⟨_,q3⟩
    . exact⟨o,by rw[out j hj];exact k2⟩
  . refine R.ext.trans p.ext fun b hb=>?_
    rcases w4 b hb with⟨i,u,q0,q1,q2,q3⟩ | ⟨_,_,q,_⟩
    . cases u with
      | t d=>cases q2
      | v d=>cases q2
      | s d=>cases q2
      | f d=>cases q2
      | m o=>exact .inr (R.own i o b q1 q3)
      | b o=>exact .inl (R.bor i o b q1 q3)
    . exact .inr q
  . exact fun b o h=>p.ext.le b o (st.ext.le b o h)
  . intro b o h n
    refine p.ext.keep b o (st.ext.keep b o h n) fun hb=>?_
    rcases w4 b hb with⟨i,u,q0,q1,q2,q3⟩ | ⟨_,q,_⟩
    . exact n (st.mu b ⟨i,u,q1,q2,q3⟩)
    . rw[h] at q;cases q
  . intro b o h n f
    refine p.ext.iE b o (st.ext.keep b o h n) (fun hb=>?_) (st.ext.iE b o h n f)
    rcases w4 b hb with⟨i,u,q0,q1,q2,q3⟩ | ⟨_,q,_⟩
    . exact n (st.mu b ⟨i,u,q1,q2,q3⟩)
    . rw[h] at q;cases q
  . intro b o h
    obtain⟨o',h'⟩:=st.ext.there b o h
    exact p.ext.there b o' h'
  . obtain⟨u',h'⟩:=st.slots j u z
    by_cases hj:j∈slotsOf us
    . obtain⟨_,u2,_,_,_,_,q3,_⟩:=qZ j hj
      exact⟨u2,q3⟩
    . exact⟨u',by rw[out j hj];exact h'⟩
section
variable {X:Cx}{e:Expr}{es:List Expr}{gu:GU}{x:Str}{p pos:Pos}{f:FM}{fa:Addr}{fd:FuncData}{ps:List Str}{k n:Nat}
theorem bO (F:dD X.prog X.w X.K X.mg X.base j7 k fa fd ps (spT X.K n f)) (hr:kq k X.A) (hg:Gl X x) (hm:X.mg x=some (.ref fa)) (hk:PySem.W.keepIn X.K (.ref fa)=true) (hb:Binds X.K fd ps []) (ha:JU X (e :: es) gu) (hn:(e :: es).length=n:=by rfl)
  (hdb:(x == ("__debug__":Str))=false:=by decide) (he:starEach (e :: es) X.env=(false,eval e X.env) :: starEach es X.env:=by rfl) (hpl:(backTo pos (starEach es X.env)).any (·.1)=false:=by rfl):
  JE X (.Call (.Name x p) (e :: es) [] pos) (bF f gu):=⟨fun B=>(Ex F hr hg hm hk hb .nil Li (ha.h B) hdb he hpl).imp fun σ H Q ⟨S,F0,u,S',R,hg,q⟩=>by
 obtain⟨⟨us,S1⟩,h1,hg⟩:=ah hg
 dsimp only at hg
 split at hg
 ·rename_i hc
  obtain⟨ws,h2,hg⟩:=ah hg
  obtain⟨⟨r,outs⟩,h3,hg⟩:=ah hg
  obtain⟨S2,h4,hg⟩:=az hg
  cases hg
  refine⟨S,F0,us,S1,R,h1,fun vs F1 H1 R1 st1 rr=>?_⟩
  show spT X.K n f (vs++[]) H1 Q E0
  rw[List.append_nil]
  have hlen:vs.length=n:=by rw[rr.length,ha.len _ _ _ h1];exact hn
  refine⟨hlen,F1,ws,r,outs,R1.sub,q9 R1 rr h2,fq R1 rr h2 hc.1 hc.2,h3,fun v F2 H2 po rn=>?_⟩
  obtain⟨R2,st2,mu⟩:=nK R1 st1 rr h2 h4 hc.1 po
  refine q v F2 H2 R2 st2 ?_
  cases r with
  | t d=>exact rn
  | b o=>cases rn
  | v i=>cases rn
  | s i=>cases rn
  | f i=>cases rn
  | m o=>
   obtain⟨a,e,h0,f,h⟩:=rn
   refine⟨a,e,none_of st1.ext.there h0,f,h,fun m=>?_,none_of R1.ext.there h0⟩
   obtain⟨o',ho⟩:=R1.has (mu a m)
   rw[h0] at ho
   cases ho
 ·cases hg⟩
end
noncomputable def aJ:List U->SS->Option (List MO)
 | [],_=>some []
 | .b _ :: us,some (.b o) :: S=>(aJ us S).map fun os=>o :: os
 | .b _ :: _,_=>none
 | _ :: us,_ :: S=>aJ us S
 | _ :: _,[]=>none
noncomputable def bY (n:Nat) (g:GS):FM:=fun us=>(g (us.map some++List.replicate (n - us.length) none)).bind fun o=>match o with
 | .rt (.t d) S=>(aJ us S).map fun os=>(.t d,os)
 | .rt (.m o) S=>(aJ us S).map fun os=>(.m o,os)
 | .nx S=>(aJ us S).map fun os=>(.t .cH,os)
 | _=>none
noncomputable def lent:List V->List U->List (Option Addr)
 | .ref a :: vs,.b _ :: us=>some a :: lent vs us
 | _ :: vs,_ :: us=>none :: lent vs us
 | _,_=>[]
theorem lR:∀(vs:List V) (us:List U) (a:Addr),some a∈lent vs us↔a∈addrs vs us
 | [],us,a=>by cases us <;> simp[lent,addrs]
 | v :: vs,[],a=>by cases v <;> simp[lent,addrs]
 | v :: vs,u :: us,a=>by
  have ih:=lR vs us a
  cases v <;> cases u <;> simp[lent,addrs,ih]
theorem w5:∀{vs:List V}{us:List U}{i:Nat}{a:Addr},(lent vs us)[i]? =some (some a)->vs[i]? =some (.ref a)/\∃o,us[i]? =some (.b o)
 | [],us,i,a,h=>by cases us <;> simp[lent] at h
 | v :: vs,[],i,a,h=>by cases v <;> simp[lent] at h
 | v :: vs,u :: us,0,a,h=>by
  cases v <;> cases u <;> simp[lent] at h
  subst h
  exact⟨rfl,_,rfl⟩
 | v :: vs,u :: us,i+1,a,h=>by
  have h':(lent vs us)[i]? =some (some a):=by cases v <;> cases u <;> simpa[lent] using h
  simpa using w5 h'
theorem vt {K:PySem.W.Frag}:∀{F H:Hp}{vs:List V}{us:List U}{i:Nat}{o:MO},Paired (CI K F H) vs us->us[i]? =some (.b o)->∃a,vs[i]? =some (.ref a)/\(lent vs us)[i]? =some (some a)/\F a=none/\At F H a o
 | _,_,_,_,_,_,.nil,h=>by simp at h
 | _,_,_,_,0,o,@Paired.cons _ _ _ v u vs us r rs,h=>by
  simp at h
  subst h
  obtain⟨a,rfl,f,k⟩:=r
  exact⟨a,rfl,rfl,f,k⟩
 | _,_,_,_,i+1,o,@Paired.cons _ _ _ v u vs us r rs,h=>by
  obtain⟨a,h1,h2,h3⟩:=vt (i:=i) rs (by simpa using h)
  refine⟨a,by simpa using h1,?_,h3⟩
  cases v <;> cases u <;> simpa[lent] using h2
theorem uJ : ∀ {vs : List V} {us : List U} {i j : Nat} {a : Addr}, (addrs vs us).Nodup -> (lent vs us)[i]? = some (some a) -> (lent vs us)[j]? = some (some a) -> i = j
  | [],us,i,j,a,_,h,_=>by cases us <;> simp[lent] at h
  | v :: vs,[],i,j,a,_,h,_=>by cases v <;> simp[lent] at h
  | v :: vs, u :: us, i, j, a, nd, h1, h2 => by
    have ih:∀{i j},(addrs vs us).Nodup->(lent vs us)[i]? =some (some a)->(lent vs us)[j]? =some (some a)->i=j:=fun {i j}=>uJ (i:=i) (j:=j)
    by_cases Pb:∃c o,v= .ref c/\u= .b o
    . obtain⟨c,o,rfl,rfl⟩:=Pb
      obtain⟨n1,n2⟩:=List.nodup_cons.mp (show(c :: addrs vs us).Nodup from nd)
      cases i with
      | zero=>
        cases j with
        | zero=>rfl
        | succ j=>
          have e1:c=a:=by simpa[lent] using h1
          have e2:(lent vs us)[j]? =some (some a):=by simpa[lent] using h2
          subst e1
          exact absurd ((lR vs us c).mp (List.mem_of_getElem? e2)) n1
      | succ i=>
        have e1:(lent vs us)[i]? =some (some a):=by simpa[lent] using h1
        cases j with
        | zero=>
          have e2:c=a:=by simpa[lent] using h2
          subst e2
          exact absurd ((lR vs us c).mp (List.mem_of_getElem? e1)) n1
        | succ j=>exact congrArg Nat.succ (ih n2 e1 (by simpa[lent] using h2))
    . have e1:lent (v :: vs) (u :: us)=none :: lent vs us:=by cases v <;> cases u <;> first | rfl | exact absurd ⟨_,_,rfl,rfl⟩ Pb
      have e2:addrs (v :: vs) (u :: us)=addrs vs us:=by cases v <;> cases u <;> first | rfl | exact absurd ⟨_,_,rfl,rfl⟩ Pb
      rw[e1] at h1 h2
      rw[e2] at nd
      cases i with
      | zero=>simp at h1
      | succ i=>
        cases j with
        | zero=>simp at h2
        | succ j=>exact congrArg Nat.succ (ih nd (by simpa using h1) (by simpa using h2))
theorem nL {α β:Type}{P:α->β->Prop}:∀{l:List α}{r:List β}{i:Nat}{y:β},Paired P l r->r[i]? =some y->∃x,l[i]? =some x/\P x y
 | _,_,_,_,.nil,h=>by simp at h
 | _,_,0,_,.cons p _,h=>by simp at h;subst h;exact⟨_,rfl,p⟩
 | _,_,i+1,_,.cons _ ps,h=>by
  obtain⟨x,h1,h2⟩:=nL (i:=i) ps (by simpa using h)
  exact⟨x,by simpa using h1,h2⟩
theorem pH {K:PySem.W.Frag}{F H:Hp}{vs:List V}{us:List U}{n:Nat}(sb:Sub F H) (ar:Paired (CI K F H) vs us) (nd:(addrs vs us).Nodup) (N:List Str) (hN:N.length=n):
  Rel K ⟨lent vs us,F,H⟩ (us.map some++List.replicate (n - us.length) none) (start N vs) F H:=by
 have hl:vs.length=us.length:=ar.length
 have gS:∀{i:Nat}{u:U},(us.map some++List.replicate (n - us.length) none)[i]? =some (some u)->us[i]? =some u:=fun {i u} h=>by
  rw[List.getElem?_append] at h
  split at h
  ·rw[List.getElem?_map] at h
   obtain⟨w,h1,h2⟩:=az h
   cases h2
   exact h1
  ·rw[List.getElem?_replicate] at h
   split at h <;> cases h
 have Pc:∀{i:Nat}{v:V},vs[i]? =some v->(start N vs)[i]? =some (some v):=fun {i v} h=>by
  unfold start
  have hi:=(List.getElem?_eq_some_iff.mp h).1
  rw[List.getElem?_append_left (by simpa using hi),List.getElem?_map,h]
  rfl
 have vb:∀{i:Nat}{v w:V},vs[i]? =some v->(start N vs)[i]? =some (some w)->v=w:=fun {i v w} h k=>by
  rw[Pc h] at k
  cases k
  rfl
 have ET:∀{i:Nat}{u:U},us[i]? =some u->fZ u=true->∃o a,u= .b o/\vs[i]? =some (.ref a)/\(lent vs us)[i]? =some (some a)/\F a=none/\At F H a o:=fun {i u} h hm=>by
  obtain⟨v,h1,h2⟩:=nL ar h
  cases u with
  | t d=>cases hm
  | v d=>cases hm
  | s d=>cases hm
  | f d=>cases hm
  | m o=>cases h2
  | b o=>obtain⟨a,k1,k2,k3,k4⟩:=vt ar h;exact⟨o,a,rfl,k1,k2,k3,k4⟩
 refine⟨sb,?_,fun i u h=>?_,fun i j u w a h1 m1 h2 m2 v1 v2=>?_,fun i o a h hv=>?_,fun i o a h hv=>?_,fun i a h=>?_,Ext.refl ..⟩
 ·unfold start;simp[hl,hN]
 ·obtain⟨v,h1,h2⟩:=nL ar (gS h)
  refine⟨v,Pc h1,?_⟩
  cases u with
  | t d=>exact h2
  | s d=>exact h2
  | f d=>exact h2
  | v d=>cases h2
  | m o=>cases h2
  | b o=>exact h2
 ·obtain⟨_,a1,_,k1,k2,_⟩:=ET (gS h1) m1
  obtain⟨_,a2,_,l1,l2,_⟩:=ET (gS h2) m2
  have e1:=vb k1 v1
  have e2:=vb l1 v2
  cases e1
  cases e2
  exact uJ nd k2 l2
 ·obtain⟨_,_,e,_⟩:=ET (gS h) rfl
  cases e
 ·obtain⟨_,a1,_,k1,k2,_⟩:=ET (gS h) rfl
  have e1:=vb k1 hv
  cases e1
  exact List.mem_of_getElem? k2
 ·obtain⟨k1,o,k2⟩:=w5 h
  refine⟨Pc k1,o,?_⟩
  have hi:=(List.getElem?_eq_some_iff.mp k2).1
  rw[List.getElem?_append_left (by simpa using hi),List.getElem?_map,k2]
  rfl
theorem vv {F' H' : Hp} : ∀ {vs : List V} {us : List U} {S : SS} {os : List MO}, aJ us S = some os -> vs.length = us.length -> (∀ (i : Nat) (o : MO) (a : Addr), (lent vs us)[i]? = some (some a) -> S[i]? = some (some (.b o)) -> F' a = none /\ At F' H' a o) -> (∀ (i : Nat) (o : MO), us[i]? = some (.b o) -> ∃ a, vs[i]? = some (.ref a)) ->
    Paired (fun a o=>F' a=none/\At F' H' a o) (addrs vs us) os
  | [],[],S,os,h,_,_,_=>by cases S <;> (simp[aJ] at h;subst h;exact .nil)
  | [],_ :: _,_,_,_,l,_,_=>by cases l
  | _ :: _,[],_,_,_,l,_,_=>by cases l
  | v :: vs, u :: us, S, os, h, l, k, kb => by
    have l':vs.length=us.length:=by simpa using l
    have kb':∀(i:Nat) (o:MO),us[i]? =some (.b o)->∃a,vs[i]? =some (.ref a):=fun i o z=>by simpa using kb (i+1) o (by simpa using z)
    by_cases hu:∃o,u= .b o
    . obtain⟨o,rfl⟩:=hu
      obtain⟨a,ha⟩:=kb 0 o rfl
      have ha:v= .ref a:=by simpa using ha
      subst ha
      cases S with
      | nil=>simp[aJ] at h
      | cons s S=>
        cases s with
        | none=>simp[aJ] at h
        | some s=>
          cases s with
          | b o'=>
            obtain⟨os',h1,h2⟩:=az (show(aJ us S).map (fun os=>o' :: os)=some os from h)
            subst h2
            exact .cons (k 0 o' a rfl rfl) (vv h1 l' (fun i o a z1 z2=>k (i+1) o a (by simpa[lent] using z1) (by simpa using z2)) kb')
          | t d=>simp[aJ] at h
          | m d=>simp[aJ] at h
          | v d=>simp[aJ] at h
          | s d=>simp[aJ] at h
          | f d=>simp[aJ] at h
    . cases S with
      | nil=>cases u <;> first | (simp[aJ] at h;done) | exact absurd ⟨_,rfl⟩ hu
      | cons s S=>
        have h':aJ us S=some os:=by cases u <;> first | exact absurd ⟨_,rfl⟩ hu | simpa[aJ] using h
        have e2:addrs (v :: vs) (u :: us)=addrs vs us:=by cases v <;> cases u <;> first | rfl | exact absurd ⟨_,rfl⟩ hu
        have e1:lent (v :: vs) (u :: us)=none :: lent vs us:=by cases v <;> cases u <;> first | rfl | exact absurd ⟨_,rfl⟩ hu
        rw[e2]
        exact vv h' l' (fun i o a z1 z2=>k (i+1) o a (by rw[e1];simpa using z1) (by simpa using z2)) kb'
theorem post_of {K:PySem.W.Frag}{F0 H:Hp}{vs:List V}{us:List U}(ar:Paired (CI K F0 H) vs us) (S':SS) (σ':St) (F' H':Hp) (os:List MO) (R':Rel K ⟨lent vs us,F0,H⟩ S' σ' F' H') (ho':aJ us S'=some os):Post F0 H F' H' (addrs vs us) os:=by
 refine⟨R'.sub,⟨R'.ext.le,fun b o z n=>R'.ext.keep b o z fun m=>n ((lR vs us b).mp m),fun b o z n=>R'.ext.iE b o z fun m=>n ((lR vs us b).mp m),R'.ext.there,R'.ext.jw⟩,vv ho' ar.length (fun i o a z1 z2=>?_) fun i o z=>?_⟩
 ·obtain⟨k1,o2,k2⟩:=R'.par i a z1
  obtain⟨v,j1,j2⟩:=R'.rep i _ z2
  rw[k1] at j1
  cases j1
  obtain⟨c,e,f,k⟩:=j2
  cases e
  exact⟨f,k⟩
 ·obtain⟨a,h1,_⟩:=vt ar z
  exact⟨a,h1⟩
section
variable {P:Program}{w:World}{K:PySem.W.Frag}{mg:Str->Option Value}{base:Heap}
theorem yD {x qual:Str}{st:Stmt}{f:Addr}{fd:FuncData}{N ps:List Str}{k:Nat}{fm:FM}{g:GS}(F:tK K x qual st f fd) (Sc:cR N ps (aO st))
  (hb:∀(cdv:Value) (A:Around) (outer:List Env) (s:Shared) (H:Hp) (E:XK),kq k (A.deeper (envOfC qual (aO st) s.heap.objs.size f cdv))->JB (yM j7 P w K mg base N qual (aO st) f cdv A outer s H E).KH (bZ st) g)
  (hf:∀us r,fm us=some r->bY N.length g us=some r):dD P w K mg base j7 (k+1) f fd ps (spT K ps.length fm):=by
 refine F.ok Sc (fun vs H Q E h=>h.1) fun cdv A outer s H vs Q E hr h=>?_
 obtain⟨hlen,F0,us,r,outs,sb,ar,nd,hfm,q⟩:=h
 have hrun:=hf us (r,outs) hfm
 have J:=hb cdv A outer s H E hr
 refine⟨_,J.h ⟨lent vs us,F0,H⟩,?_⟩
 have R0:=pH sb ar nd N rfl
 obtain⟨o,ho,hrun⟩:=ah hrun
 refine⟨_,F0,o,R0,ho,?_⟩
 have post:=post_of ar
 cases o with
 | bk S'=>cases hrun
 | ct S'=>cases hrun
 | nx S'=>
  obtain⟨os,h1,h2⟩:=az (show(aJ us S').map _=some (r,outs) from hrun)
  cases h2
  exact fun σ' F' H' R' le=>q .cH F' H' (post S' σ' F' H' outs R' h1) .cH
 | rt u S'=>
  cases u with
  | b o=>cases hrun
  | v i=>cases hrun
  | s i=>cases hrun
  | f i=>cases hrun
  | t d=>
   obtain⟨os,h1,h2⟩:=az (show(aJ us S').map _=some (r,outs) from hrun)
   cases h2
   exact fun v σ' F' H' R' le rr=>q v F' H' (post S' σ' F' H' outs R' h1) rr
  | m o=>
   obtain⟨os,h1,h2⟩:=az (show(aJ us S').map _=some (r,outs) from hrun)
   cases h2
   exact fun v σ' F' H' R' le rr=>q v F' H' (post S' σ' F' H' outs R' h1) (by obtain⟨a,e,h0,f,h,n,hB⟩:=rr;exact⟨a,e,hB,f,h⟩)
end
noncomputable def eu (S:SS) (i:Nat):Option U:=match S[i]? with
 | some (some (.t d))=>some (.t d)
 | some (some (.s d))=>some (.s d)
 | some (some (.f d))=>some (.f d)
 | some (some (.m _))=>some (.v i)
 | some (some (.b _))=>some (.v i)
 | _=>none
noncomputable def bL (S:SS):List Nat->Option (List U)
 | []=>some []
 | i :: cap=>(eu S i).bind fun u=>(bL S cap).map fun us=>u :: us
noncomputable def aD:GT:=fun S=>some (true,S)
noncomputable def aN (cap:List Nat) (q:GT) (g:GD):List D->SS->List D->Option (List D×SS)
  | [],S,acc=>some (acc,S)
  | d :: ds, S, acc => (bL S cap).bind fun us =>
    if(slotsOf us).Nodup/\cS us<=1 then(cg S us).bind fun ws=>(q (some (.t d) :: ws.map some)).bind fun p=>
      if p.1 then(g p.2).bind fun r=>(aJ (.t d :: ws) r.2).bind fun outs=>(wb us outs S).bind fun S'=>aN cap q g ds S' (acc++[r.1])
      else(aJ (.t d :: ws) p.2).bind fun outs=>(wb us outs S).bind fun S'=>aN cap q g ds S' acc
    else none
noncomputable def bG (cap:List Nat) (gi:GI) (q:GT) (g:GD):GE:=fun S=>(gi S).bind fun p=>if p.1.length<=100000 then(aN cap q g p.1 p.2 []).map fun r=>(.m (.lst r.1),r.2) else none
structure Nh (X:Cx) (es:List Expr) (q:GT):Prop where
 h:∀B,EJ X es (tQ X.K B q)
theorem cj {X:Cx}:Nh X [] aD:=⟨fun B pins s σ H Q I ⟨S,F,b,S',R,hg,q⟩=>by cases hg;exact zX pins s σ H Q I (q F H R (Step.refl ..))⟩
theorem yW {K:PySem.W.Frag}{B:Base}{S:SS}{σ:St}{F H:Hp}(R:Rel K B S σ F H):∀{cap:List Nat}{us:List U},bL S cap=some us->∃vs:List V,bU cap σ=vs.map some/\Paired (fun v u=>jH K B S σ H F H v u) vs us
  | [],us,h=>by cases h;exact⟨[],rfl,.nil⟩
  | i :: cap, us, h => by
    obtain⟨u,h1,h⟩:=ah h
    obtain⟨us',h2,h⟩:=az h
    subst h
    obtain⟨vs,k1,k2⟩:=yW R h2
    have one:∀w,S[i]? =some (some w)->∃v,σ[i]? =some (some v)/\rT K F H v w:=R.rep i
    unfold eu at h1
    have fin:∀v,σ[i]? =some (some v)->jH K B S σ H F H v u->∃vs:List V,bU (i :: cap) σ=vs.map some/\Paired (fun v u=>jH K B S σ H F H v u) vs (u :: us'):=fun v e r=>
      ⟨v :: vs,by show(σ[i]?).join :: bU cap σ=_;rw[e,k1];rfl,.cons r k2⟩
    split at h1
    . rename_i d e
      cases h1
      obtain⟨v,e1,r⟩:=one _ e
      exact fin v e1 r
    . rename_i d e
      cases h1
      obtain⟨v,e1,r⟩:=one _ e
      exact fin v e1 r
    . rename_i d e
      cases h1
      obtain⟨v,e1,r⟩:=one _ e
      exact fin v e1 r
    . rename_i o e
      cases h1
      obtain⟨v,e1,r⟩:=one _ e
      exact fin v e1 ⟨e1,_,e⟩
    . rename_i o e
      cases h1
      obtain⟨v,e1,r⟩:=one _ e
      exact fin v e1 ⟨e1,_,e⟩
    . cases h1
theorem rY {K:PySem.W.Frag}{B:Base}{S:SS}{σ:St}{F H:Hp}(R:Rel K B S σ F H) (d:D){us ws:List U}(h:cg S us=some ws):cg S (.t d :: us)=some (.t d :: ws):=by
 show(some (U.t d)).bind _=_
 show(cg S us).map _=_
 rw[h]
 rfl
theorem xg {K : PySem.W.Frag} {B : Base} {cap : List Nat} {gi : GI} {q : GT} {g : GD} {σ : St} {H : Hp} {Q : VK} (h : tE K B (bG cap gi q g) σ H Q) : Nd (S6 K B gi) cap (fun σ H Q => ∃ B, tQ K B q σ H Q) (fun σ H Q => ∃ B, tD K B g σ H Q) σ H Q := by
  obtain⟨x,_⟩:∃x:Str,True:=⟨"",trivial⟩
  obtain⟨S,F,u,S',R,hg,k⟩:=h
  obtain⟨⟨ds,S1⟩,h1,hg⟩:=ah hg
  dsimp only at hg
  split at hg
  . rename_i hlen
    obtain⟨⟨res,Sf⟩,h2,hg⟩:=az hg
    cases hg
    refine⟨S,F,ds,S1,R,h1,fun J F1 H1 R1 st1 w=>?_⟩
    refine⟨fun i m ys H'=>∃S2 F2 acc,Rel K B S2 σ F2 H'/\Step S S2 σ F H F2 H'/\(∀b o,F1 b=some o->F2 b=some o)/\bw F2 ys acc/\acc.length<=i/\i<=ds.length/\m=ds.length - i/\aN cap q g (ds.drop i) S2 acc=some (res,Sf),
      ⟨_,S1,F1,[],R1,st1,fun _ _ z=>z,.nil,Nat.le_refl _,Nat.zero_le _,rfl,h2⟩,?_⟩
    rintro i m ys H' ⟨S2,F2,acc,R2,st2,le,ry,ha,hl,rfl,eO⟩
    refine⟨by rw[ry.length];exact Nat.lt_of_le_of_lt (Nat.le_trans ha (Nat.le_trans hl hlen)) (by decide),?_⟩
    have w':=w F2 H' le R2.sub i
    by_cases hlt:i < ds.length
    . have hd:ds[i]? =some ds[i]:=List.getElem?_eq_getElem hlt
      obtain⟨go,yl⟩:=w'.1 _ hd
      rw[List.drop_eq_getElem_cons hlt] at eO
      refine .inr ⟨go,fun xv H3 y=>?_⟩
      obtain⟨rfl,rx⟩:=yl xv H3 y
      obtain⟨us,e1,eO⟩:=ah eO
      skip
      split at eO
      . rename_i hnd
        obtain⟨ws,e2,eO⟩:=ah eO
        obtain⟨⟨bk,T1⟩,e3,eO⟩:=ah eO
        obtain⟨vs,k1,k2⟩:=yW R2 e1
        have rr:Paired (fun v u=>jH K B S2 σ H3 F2 H3 v u) (xv :: vs) (.t ds[i] :: us):=.cons rx k2
        have er:=rY R2 ds[i] e2
        have ar:=q9 R2 rr er
        have nd:=fq R2 rr er hnd.1 hnd.2
        have R3:=pH (n:=ws.length+1) R2.sub ar nd (List.replicate (ws.length+1) x) (by simp)
        have hvl:vs.length=ws.length:=by have:=ar.length;simpa using this
        have es:start (List.replicate (ws.length+1) x) (xv :: vs)=some xv :: bU cap σ:=by
          unfold start;rw[k1];simp[hvl]
        have eS:(U.t ds[i] :: ws).map some++List.replicate (ws.length+1 - (U.t ds[i] :: ws).length) none=some (U.t ds[i]) :: ws.map some:=by simp
        rw[es,eS] at R3
        have back:∀(T2:SS) (F3 H4:Hp) (outs:List MO) (S3:SS),Rel K ⟨lent (xv :: vs) (U.t ds[i] :: ws),F2,H3⟩ T2 (some xv :: bU cap σ) F3 H4->aJ (U.t ds[i] :: ws) T2=some outs->wb us outs S2=some S3->Rel K B S3 σ F3 H4/\Step S S3 σ F H F3 H4/\(∀b o,F2 b=some o->F3 b=some o):=fun T2 F3 H4 outs S3 RT ho hw=>by
          have po:=post_of ar T2 _ F3 H4 outs RT ho
          obtain⟨Ra,A8,_⟩:=nK (S0:=S2) (F0:=F2) (H0:=H3) R2 (Step.refl ..) rr er (show wb (U.t ds[i] :: us) outs S2=some S3 by cases outs <;> exact hw) hnd.1 po
          exact⟨Ra,st2.trans A8,A8.ext.le⟩
        refine⟨_,_,F2,bk,T1,R3,e3,fun F3 H4 Ly Pd=>?_⟩
        cases bk with
        | true=>
          obtain⟨⟨yd,T2⟩,e4,eO⟩:=ah (show(g T1).bind _=_ from eO)
          obtain⟨outs,e5,eO⟩:=ah eO
          obtain⟨S3,e6,eO⟩:=ah eO
          refine Co ⟨_,T1,F3,yd,T2,Ly,e4,fun yv F4 H5 Pe Pf Pg=>?_⟩
          obtain⟨Ra,A8,CJ⟩:=back T2 F4 H5 outs S3 Pe e5 e6
          refine⟨ds.length - (i+1),by omega,S3,F4,acc++[yd],Ra,A8,fun b o z=>CJ b o (le b o z),(ry.le CJ).append (.cons Pg .nil),by simp;omega,hlt,rfl,eO⟩
        | false=>
          obtain⟨outs,e5,eO⟩:=ah (show(aJ (U.t ds[i] :: ws) T1).bind _=_ from eO)
          obtain⟨S3,e6,eO⟩:=ah eO
          obtain⟨Ra,A8,CJ⟩:=back T1 F3 H4 outs S3 Ly e5 e6
          exact Cn ⟨ds.length - (i+1),by omega,S3,F3,acc,Ra,A8,fun b o z=>CJ b o (le b o z),ry.le CJ,by omega,hlt,rfl,eO⟩
      . cases eO
    . have e:i=ds.length:=by omega
      subst e
      rw[List.drop_length] at eO
      cases eO
      refine .inl ⟨w'.2 (Nat.le_refl _),fun p hp=>?_⟩
      have n:=iB.obj (F:=F2) hp (.lst ys)
      refine k (.ref p) F2 _ (R2.new n (R2.sub.same n.same)) (st2.trans n.step) ⟨p,rfl,none_of st2.ext.there hp,R2.sub.fresh hp,⟨ys,aL,ry⟩,fun m=>?_,none_of R2.ext.there hp⟩
      obtain⟨o,ho⟩:=R2.has m
      rw[hp] at ho
      cases ho
  . cases hg
theorem eU {X:Cx}{elt iter:Expr}{ifs:List Expr}{x:Str}{px pos:Pos}{scope:Scope}{cl:List (Str×Addr)}{bB:List Str}{cap:List Nat}{gi:GI}{q:GT}{g:GD}(T:iH X x bB cap scope cl) (hc:X.calm=true) (hi:JI X (.Name x px) iter gi)
  (ht:∀C s H fp,Nh (cX X (x :: bB) scope cl C s H fp) ifs q) (he:∀C s H fp,JD (cX X (x :: bB) scope cl C s H fp) elt g)
  (hs:∀x,foldedSetIterable iter X.env x=pure x:=by intro _;rfl):JE X (.ListComp elt [⟨.Name x px,iter,ifs,0⟩] scope pos) (bG cap gi q g):=⟨fun B=>by
 exact(Cv (tc:=fun σ H Q=>∃B,tQ X.K B q σ H Q) (te:=fun σ H Q=>∃B,tD X.K B g σ H Q) T hc (hi.h B) (fun C s H fp pins s' σ H' Q I ⟨B',z⟩=>(ht C s H fp).h B' pins s' σ H' Q I z) (fun C s H fp pins s' σ H' Q I ⟨B',z⟩=>(he C s H fp).h B' pins s' σ H' Q I z) hs).imp fun σ H Q h=>xg h⟩
theorem kr {X:Cx}{elt iter:Expr}{ifs:List Expr}{x y:Str}{px pos py spos:Pos}{scope:Scope}{cl:List (Str×Addr)}{bB:List Str}{cap:List Nat}{gi:GI}{q:GT}{g:GD}{i:Nat}(hN:X.N.Nodup) (hy:X.N[i]? =some y) (hx:Loc X.env.scope y) (T:iH X x bB cap scope cl) (hc:X.calm=true) (hi:JI X (.Name x px) iter gi)
  (ht:∀C s H fp,Nh (cX X (x :: bB) scope cl C s H fp) ifs q) (he:∀C s H fp,JD (cX X (x :: bB) scope cl C s H fp) elt g)
  (hsw:swapsWith (.ListComp elt [⟨.Name x px,iter,ifs,0⟩] scope pos) (some (.Name y py)) spos.line X.env=pure true:=by rfl) (hf:X.fn y=true\/X.env.scope.names.lookup y=some .local:=by first | exact .inl rfl | exact .inr rfl | assumption)
  (hs:∀x,foldedSetIterable iter X.env x=pure x:=by intro _;rfl):JS X (.Assign [.Name y py] (.ListComp elt [⟨.Name x px,iter,ifs,0⟩] scope pos) spos) (aZ i (bG cap gi q g)):=⟨fun B=>
 (wO (tc:=fun σ H Q=>∃B,tQ X.K B q σ H Q) (te:=fun σ H Q=>∃B,tD X.K B g σ H Q) T hc (hi.h B) (fun C s H fp pins s' σ H' Q I ⟨B',z⟩=>(ht C s H fp).h B' pins s' σ H' Q I z) (fun C s H fp pins s' σ H' Q I ⟨B',z⟩=>(he C s H fp).h B' pins s' σ H' Q I z) hs hN hy hx hsw hf).imp fun D σ H h=>xg (Ac h)⟩
mutual
noncomputable def tV:D->D->Bool
 | .cH,.cH=>true
 | .bl a,.bl b=>a == b
 | .int a,.int b=>a == b
 | .bl a,.int b=>(if a then 1 else 0) == b
 | .int a,.bl b=>a == (if b then 1 else 0)
 | .str a,.str b=>a == b
 | .tup a,.tup b=>nM a b
 | .lst a,.lst b=>nM a b
 | _,_=>false
noncomputable def nM:List D->List D->Bool
 | [],[]=>true
 | a :: as,b :: bs=>tV a b && nM as bs
 | _,_=>false
end
mutual
noncomputable def ji:D->Nat
 | .tup ds=>fE ds+1
 | .lst ds=>fE ds+1
 | _=>0
noncomputable def fE:List D->Nat
 | []=>0
 | d :: ds=>max (ji d) (fE ds)
end
mutual
theorem rZ:∀d:D,tV d d=true
 | .cH=>rfl
 | .bl a=>by simp[tV]
 | .int a=>by simp[tV]
 | .str a=>by simp[tV]
 | .tup a=>by unfold tV;exact kB a
 | .lst a=>by unfold tV;exact kB a
theorem kB:∀ds:List D,nM ds ds=true
 | []=>rfl
 | d :: ds=>by unfold nM;rw[rZ d,kB ds];rfl
end
noncomputable def lT (as bs:List D) (j:Nat):Bool:=match as[j]?,bs[j]? with
 | some a,some b=>tV a b
 | _,_=>true
theorem r9 (n:Nat) (e:Nat->Bool):(List.range (n+1)).all e=(e 0 && (List.range n).all fun j=>e (j+1)):=by
 rw[List.range_succ_eq_map,List.all_cons,List.all_map]
 rfl
theorem lU:∀{as bs:List D},as.length≠bs.length->nM as bs=false
 | [],[],h=>absurd rfl h
 | [],_ :: _,_=>rfl
 | _ :: _,[],_=>rfl
 | a :: as,b :: bs,h=>by
  unfold nM
  rw[lU (as:=as) (bs:=bs) (fun z=>h (by simp[z])),Bool.and_false]
theorem jL:∀{as bs:List D},as.length=bs.length->(List.range as.length).all (lT as bs)=nM as bs
 | [],[],_=>rfl
 | [],_ :: _,h=>by cases h
 | _ :: _,[],h=>by cases h
 | a :: as,b :: bs,h=>by
  have h':as.length=bs.length:=by simpa using h
  show(List.range (as.length+1)).all _=_
  rw[r9]
  unfold nM
  have ih:=jL h'
  have e:(fun j=>lT (a :: as) (b :: bs) (j+1))=lT as bs:=by funext j;simp[lT]
  rw[e,ih]
  rfl
mutual
theorem Rep.uniq {F:Hp}:∀{v:V}{d e:D},Rep F v d->Rep F v e->d=e
 | _,_,_,.cH,r=>by cases r;rfl
 | _,_,_,.bl b,r=>by cases r;rfl
 | _,_,_,.int b,r=>by cases r;rfl
 | _,_,_,.str b,r=>by cases r;rfl
 | _,_,_,.tup e1 r1,r=>by
  cases r with
  | tup e2 r2=>rw[e1] at e2;cases e2;rw[bw.uniq r1 r2]
  | lst e2 r2=>rw[e1] at e2;cases e2
 | _,_,_,.lst e1 r1,r=>by
  cases r with
  | tup e2 r2=>rw[e1] at e2;cases e2
  | lst e2 r2=>rw[e1] at e2;cases e2;rw[bw.uniq r1 r2]
theorem bw.uniq {F:Hp}:∀{vs:List V}{ds es:List D},bw F vs ds->bw F vs es->ds=es
 | _,_,_,.nil,r=>by cases r;rfl
 | _,_,_,.cons r1 s1,r=>by
  cases r with
  | cons r2 s2=>rw[Rep.uniq r1 r2,bw.uniq s1 s2]
end
section
variable {X:Cx}{pins:List (Addr×Obj)}{σ:St}{F H:Hp}{s:Shared}
theorem Sub.isTup (I:Inv X pins σ H s) (sb:Sub F H){a:Addr}{vs:List V}(h:F a=some (.tup vs)):∃its:List Value,Vals vs its/\s.heap.IsTuple a its.toArray:=by
 obtain⟨its,rv,p,_⟩:=I.tuple (.inl (Rd.of (sb a _ h)))
 exact⟨its,rv,p⟩
theorem Sub.fj (I:Inv X pins σ H s) (sb:Sub F H){a:Addr}{vs:List V}(h:F a=some (.lst vs)):∃its:List Value,Vals vs its/\s.heap.IsList a its.toArray:=by
 obtain⟨its,rv,p,_⟩:=I.list (.inl (Rd.of (sb a _ h)))
 exact⟨its,rv,p.isList⟩
noncomputable def i8 (A:Around) (s:Shared) (its bN:List Value) (ds es:List D):Prop:=∀j (h1:j < its.toArray.size) (h2:j < bN.toArray.size),SeqAt.EqAt A.in1 s its.toArray[j] bN.toArray[j] (lT ds es j)
theorem Ad {n m:Nat}(h:n=m) (e:Nat->Bool):((List.range (min n m)).all e && n == m)=(List.range n).all e:=by
 subst h;simp
theorem ow {A:Around}{ca cb:Addr}{fS bN:List Value}{ds es:List D}(hu:A.units < cLine) (pa:s.heap.IsTuple ca fS.toArray) (pb:s.heap.IsTuple cb bN.toArray) (la:fS.length=ds.length) (lb:bN.length=es.length) (h:i8 A s fS bN ds es):
  SeqAt.RcAt A s (.ref ca) (.ref cb) (nM ds es):=by
 have q:=SeqAt.RcAt.tuples (e:=lT ds es) pa pb hu h
 rw[List.size_toArray,List.size_toArray,la,lb] at q
 by_cases hl:ds.length=es.length
 ·rw[Ad hl,jL hl] at q;exact q
 ·rw[lU hl]
  have:(ds.length == es.length)=false:=by simpa using hl
  rw[this,Bool.and_false] at q
  exact q
theorem sf {A:Around}{ca cb:Addr}{fS bN:List Value}{ds es:List D}(hu:A.units < cLine) (pa:s.heap.IsTuple ca fS.toArray) (pb:s.heap.IsTuple cb bN.toArray) (la:fS.length=ds.length) (lb:bN.length=es.length) (h:i8 A s fS bN ds es):
  SeqAt.RcNeAt A s (.ref ca) (.ref cb) (!nM ds es):=by
 have q:=SeqAt.RcNeAt.tuples (e:=lT ds es) pa pb hu h
 rw[List.size_toArray,List.size_toArray,la,lb] at q
 by_cases hl:ds.length=es.length
 ·rw[Ad hl,jL hl] at q;exact q
 ·rw[lU hl]
  have:(ds.length == es.length)=false:=by simpa using hl
  rw[this,Bool.and_false] at q
  exact q
theorem qw {A:Around}{ca cb:Addr}{fS bN:List Value}{ds es:List D}(hu:A.units < cLine) (pa:s.heap.IsList ca fS.toArray) (pb:s.heap.IsList cb bN.toArray) (la:fS.length=ds.length) (lb:bN.length=es.length) (h:i8 A s fS bN ds es):
  SeqAt.RcAt A s (.ref ca) (.ref cb) (nM ds es):=by
 by_cases hl:ds.length=es.length
 ·have q:=SeqAt.RcAt.lists (e:=lT ds es) pa pb (by rw[List.size_toArray,List.size_toArray,la,lb];exact hl) hu h
  rw[List.size_toArray,la,jL hl] at q;exact q
 ·rw[lU hl]
  exact SeqAt.RcAt.lists_lengths pa pb (by rw[List.size_toArray,List.size_toArray,la,lb];simpa using hl) hu
theorem tW {A:Around}{ca cb:Addr}{fS bN:List Value}{ds es:List D}(hu:A.units < cLine) (pa:s.heap.IsList ca fS.toArray) (pb:s.heap.IsList cb bN.toArray) (la:fS.length=ds.length) (lb:bN.length=es.length) (h:i8 A s fS bN ds es):
  SeqAt.RcNeAt A s (.ref ca) (.ref cb) (!nM ds es):=by
 by_cases hl:ds.length=es.length
 ·have q:=SeqAt.RcNeAt.lists (e:=lT ds es) pa pb (by rw[List.size_toArray,List.size_toArray,la,lb];exact hl) hu h
  rw[List.size_toArray,la,jL hl] at q;exact q
 ·rw[lU hl]
  exact SeqAt.RcNeAt.lists_lengths pa pb (by rw[List.size_toArray,List.size_toArray,la,lb];simpa using hl) hu
theorem dU {α:Type}(l:List α) (j:Nat) (h:j < l.toArray.size):l[j]? =some l.toArray[j]:=by
 have z:j < l.length:=by simpa using h
 simp[z]
mutual
theorem Lz (I : Inv X pins σ H s) (sb : Sub F H) : ∀ (d : D) {e : D} {A : Around} {x y : V} {u w' : Value}, Rep F x d -> Rep F y e -> RelV x u -> RelV y w' -> A.units + ji d < cLine -> SeqAt.EqAt A s u w' (tV d e) := fun d {e A x y u w'} r1 r2 rx ry hu => by
  cases r1 with
  | cH=>
    cases rx
    cases r2 with
    | cH=>cases ry;exact SeqAt.EqAt.same _
    | bl b=>cases ry;exact SeqAt.EqAt.none_bool b
    | int b=>obtain⟨tb,rfl⟩:=ry;exact SeqAt.EqAt.none_int b tb
    | str b=>obtain⟨tb,rfl⟩:=ry;exact SeqAt.EqAt.none_str b tb
    | @tup cb lV kC eb rb=>cases ry;obtain⟨bN,jk,pb⟩:=sb.isTup I eb;exact SeqAt.EqAt.none_tuple pb (by omega)
    | @lst cb lV kC eb rb=>cases ry;obtain⟨bN,jk,pb⟩:=sb.fj I eb;exact SeqAt.EqAt.none_list pb (by omega)
  | bl a=>
    cases rx
    cases r2 with
    | cH=>cases ry;exact SeqAt.EqAt.bool_none a
    | bl b=>cases ry;exact SeqAt.EqAt.bool_bool a b
    | int b=>obtain⟨tb,rfl⟩:=ry;exact SeqAt.EqAt.bool_int a b tb
    | str b=>obtain⟨tb,rfl⟩:=ry;exact SeqAt.EqAt.bool_str a b tb
    | @tup cb lV kC eb rb=>cases ry;obtain⟨bN,jk,pb⟩:=sb.isTup I eb;exact SeqAt.EqAt.bool_tuple a pb (by omega)
    | @lst cb lV kC eb rb=>cases ry;obtain⟨bN,jk,pb⟩:=sb.fj I eb;exact SeqAt.EqAt.bool_list a pb (by omega)
  | int a=>
    obtain⟨ta,rfl⟩:=rx
    cases r2 with
    | cH=>cases ry;exact SeqAt.EqAt.int_none a ta
    | bl b=>cases ry;exact SeqAt.EqAt.int_bool a ta b
    | int b=>obtain⟨tb,rfl⟩:=ry;exact SeqAt.EqAt.int_int a ta b tb
    | str b=>obtain⟨tb,rfl⟩:=ry;exact SeqAt.EqAt.int_str a ta b tb
    | @tup cb lV kC eb rb=>cases ry;obtain⟨bN,jk,pb⟩:=sb.isTup I eb;exact SeqAt.EqAt.int_tuple a ta pb (by omega)
    | @lst cb lV kC eb rb=>cases ry;obtain⟨bN,jk,pb⟩:=sb.fj I eb;exact SeqAt.EqAt.int_list a ta pb (by omega)
  | str a=>
    obtain⟨ta,rfl⟩:=rx
    cases r2 with
    | cH=>cases ry;exact SeqAt.EqAt.str_none a ta
    | bl b=>cases ry;exact SeqAt.EqAt.str_bool a ta b
    | int b=>obtain⟨tb,rfl⟩:=ry;exact SeqAt.EqAt.str_int a ta b tb
    | str b=>obtain⟨tb,rfl⟩:=ry;exact SeqAt.EqAt.str_str a ta b tb
    | @tup cb lV kC eb rb=>cases ry;obtain⟨bN,jk,pb⟩:=sb.isTup I eb;exact SeqAt.EqAt.str_tuple a ta pb (by omega)
    | @lst cb lV kC eb rb=>cases ry;obtain⟨bN,jk,pb⟩:=sb.fj I eb;exact SeqAt.EqAt.str_list a ta pb (by omega)
  | @tup ca LA m5 ea ra=>
    cases rx;obtain⟨fS,xh,pa⟩:=sb.isTup I ea
    cases r2 with
    | cH=>cases ry;exact SeqAt.EqAt.tuple_none pa (by omega)
    | bl b=>cases ry;exact SeqAt.EqAt.tuple_bool b pa (by omega)
    | int b=>obtain⟨tb,rfl⟩:=ry;exact SeqAt.EqAt.tuple_int b tb pa (by omega)
    | str b=>obtain⟨tb,rfl⟩:=ry;exact SeqAt.EqAt.tuple_str b tb pa (by omega)
    | @tup cb lV kC eb rb=>cases ry;obtain⟨bN,jk,pb⟩:=sb.isTup I eb;exact(by
      have hd:A.units+(fE m5+1) < cLine:=hu
      have items:i8 A s fS bN m5 kC:=fun j h1 h2=>jM I sb m5 (A:=A.in1) ra rb xh jk (by show A.units+1+fE m5 < cLine;omega) (dU fS j h1) (dU bN j h2)
      by_cases hc:ca=cb
      . subst hc
        rw[ea] at eb
        cases eb
        obtain rfl:=bw.uniq ra rb
        show SeqAt.EqAt A s _ _ (nM m5 m5)
        rw[kB]
        exact SeqAt.EqAt.same _
      . exact SeqAt.EqAt.of_refs hc (ow (by omega) pa pb (xh.length.symm.trans ra.length) (jk.length.symm.trans rb.length) items))
    | @lst cb lV kC eb rb=>cases ry;obtain⟨bN,jk,pb⟩:=sb.fj I eb;exact SeqAt.EqAt.tuple_list pa pb (by omega)
  | @lst ca LA m5 ea ra=>
    cases rx;obtain⟨fS,xh,pa⟩:=sb.fj I ea
    cases r2 with
    | cH=>cases ry;exact SeqAt.EqAt.list_none pa (by omega)
    | bl b=>cases ry;exact SeqAt.EqAt.list_bool b pa (by omega)
    | int b=>obtain⟨tb,rfl⟩:=ry;exact SeqAt.EqAt.list_int b tb pa (by omega)
    | str b=>obtain⟨tb,rfl⟩:=ry;exact SeqAt.EqAt.list_str b tb pa (by omega)
    | @tup cb lV kC eb rb=>cases ry;obtain⟨bN,jk,pb⟩:=sb.isTup I eb;exact SeqAt.EqAt.list_tuple pa pb (by omega)
    | @lst cb lV kC eb rb=>cases ry;obtain⟨bN,jk,pb⟩:=sb.fj I eb;exact(by
      have hd:A.units+(fE m5+1) < cLine:=hu
      have items:i8 A s fS bN m5 kC:=fun j h1 h2=>jM I sb m5 (A:=A.in1) ra rb xh jk (by show A.units+1+fE m5 < cLine;omega) (dU fS j h1) (dU bN j h2)
      by_cases hc:ca=cb
      . subst hc
        rw[ea] at eb
        cases eb
        obtain rfl:=bw.uniq ra rb
        show SeqAt.EqAt A s _ _ (nM m5 m5)
        rw[kB]
        exact SeqAt.EqAt.same _
      . exact SeqAt.EqAt.of_refs hc (qw (by omega) pa pb (xh.length.symm.trans ra.length) (jk.length.symm.trans rb.length) items))
theorem jM (I : Inv X pins σ H s) (sb : Sub F H) : ∀ (ds : List D) {es : List D} {A : Around} {vs ws : List V} {us us' : List Value} {j : Nat} {u w' : Value}, bw F vs ds -> bw F ws es -> Vals vs us -> Vals ws us' -> A.units + fE ds < cLine -> us[j]? = some u -> us'[j]? = some w' -> SeqAt.EqAt A s u w' (lT ds es j) := fun ds {es A vs ws us us' j u w'} r1 r2 v1 v2 hu h1 h2 => by
  cases r1 with
  | nil=>cases v1;simp at h1
  | @cons v d vs ds r rs =>
    cases v1 with
    | cons q qs=>
      cases r2 with
      | nil=>cases v2;simp at h2
      | @cons w e ws es r' rs'=>
        cases v2 with
        | cons q' Uz=>
          have hd:A.units+max (ji d) (fE ds) < cLine:=hu
          cases j with
          | zero=>
            simp at h1 h2
            subst h1 h2
            exact Lz I sb d r r' q q' (by omega)
          | succ j=>
            simp at h1 h2
            have:=jM I sb ds (A:=A) rs rs' qs Uz (j:=j) (by omega) h1 h2
            simpa[lT] using this
end
end
section
variable {X:Cx}{pins:List (Addr×Obj)}{σ:St}{F H:Hp}{s:Shared}
theorem LB (I:Inv X pins σ H s) (sb:Sub F H){d e:D}{A:Around}{x y:V}{u w':Value}(r1:Rep F x d) (r2:Rep F y e) (rx:RelV x u) (ry:RelV y w') (hu:A.units+ji d < cLine):SeqAt.RcAt A s u w' (tV d e):=by
 cases r1 with
 | cH=>
  cases rx
  cases r2 with
  | cH=>cases ry;exact SeqAt.RcAt.none_none
  | bl b=>cases ry;exact SeqAt.RcAt.none_bool b
  | int b=>obtain⟨tb,rfl⟩:=ry;exact SeqAt.RcAt.none_int b tb
  | str b=>obtain⟨tb,rfl⟩:=ry;exact SeqAt.RcAt.none_str b tb
  | @tup cb lV kC eb rb=>cases ry;obtain⟨bN,jk,pb⟩:=sb.isTup I eb;exact SeqAt.RcAt.none_tuple pb (by omega)
  | @lst cb lV kC eb rb=>cases ry;obtain⟨bN,jk,pb⟩:=sb.fj I eb;exact SeqAt.RcAt.none_list pb (by omega)
 | bl a=>
  cases rx
  cases r2 with
  | cH=>cases ry;exact SeqAt.RcAt.bool_none a
  | bl b=>cases ry;exact SeqAt.RcAt.bool_bool a b
  | int b=>obtain⟨tb,rfl⟩:=ry;exact SeqAt.RcAt.bool_int a b tb
  | str b=>obtain⟨tb,rfl⟩:=ry;exact SeqAt.RcAt.bool_str a b tb
  | @tup cb lV kC eb rb=>cases ry;obtain⟨bN,jk,pb⟩:=sb.isTup I eb;exact SeqAt.RcAt.bool_tuple a pb (by omega)
  | @lst cb lV kC eb rb=>cases ry;obtain⟨bN,jk,pb⟩:=sb.fj I eb;exact SeqAt.RcAt.bool_list a pb (by omega)
 | int a=>
  obtain⟨ta,rfl⟩:=rx
  cases r2 with
  | cH=>cases ry;exact SeqAt.RcAt.int_none a ta
  | bl b=>cases ry;exact SeqAt.RcAt.int_bool a ta b
  | int b=>obtain⟨tb,rfl⟩:=ry;exact SeqAt.RcAt.int_int a ta b tb
  | str b=>obtain⟨tb,rfl⟩:=ry;exact SeqAt.RcAt.int_str a ta b tb
  | @tup cb lV kC eb rb=>cases ry;obtain⟨bN,jk,pb⟩:=sb.isTup I eb;exact SeqAt.RcAt.int_tuple a ta pb (by omega)
  | @lst cb lV kC eb rb=>cases ry;obtain⟨bN,jk,pb⟩:=sb.fj I eb;exact SeqAt.RcAt.int_list a ta pb (by omega)
 | str a=>
  obtain⟨ta,rfl⟩:=rx
  cases r2 with
  | cH=>cases ry;exact SeqAt.RcAt.str_none a ta
  | bl b=>cases ry;exact SeqAt.RcAt.str_bool a ta b
  | int b=>obtain⟨tb,rfl⟩:=ry;exact SeqAt.RcAt.str_int a ta b tb
  | str b=>obtain⟨tb,rfl⟩:=ry;exact SeqAt.RcAt.str_str a ta b tb
  | @tup cb lV kC eb rb=>cases ry;obtain⟨bN,jk,pb⟩:=sb.isTup I eb;exact SeqAt.RcAt.str_tuple a ta pb (by omega)
  | @lst cb lV kC eb rb=>cases ry;obtain⟨bN,jk,pb⟩:=sb.fj I eb;exact SeqAt.RcAt.str_list a ta pb (by omega)
 | @tup ca LA m5 ea ra=>
  cases rx;obtain⟨fS,xh,pa⟩:=sb.isTup I ea
  cases r2 with
  | cH=>cases ry;exact SeqAt.RcAt.tuple_none pa (by omega)
  | bl b=>cases ry;exact SeqAt.RcAt.tuple_bool b pa (by omega)
  | int b=>obtain⟨tb,rfl⟩:=ry;exact SeqAt.RcAt.tuple_int b tb pa (by omega)
  | str b=>obtain⟨tb,rfl⟩:=ry;exact SeqAt.RcAt.tuple_str b tb pa (by omega)
  | @tup cb lV kC eb rb=>cases ry;obtain⟨bN,jk,pb⟩:=sb.isTup I eb;exact(by
   have hd:A.units+(fE m5+1) < cLine:=hu
   have items:i8 A s fS bN m5 kC:=fun j h1 h2=>jM I sb m5 (A:=A.in1) ra rb xh jk (by show A.units+1+fE m5 < cLine;omega) (dU fS j h1) (dU bN j h2)
   exact ow (by omega) pa pb (xh.length.symm.trans ra.length) (jk.length.symm.trans rb.length) items)
  | @lst cb lV kC eb rb=>cases ry;obtain⟨bN,jk,pb⟩:=sb.fj I eb;exact SeqAt.RcAt.tuple_list pa pb (by omega)
 | @lst ca LA m5 ea ra=>
  cases rx;obtain⟨fS,xh,pa⟩:=sb.fj I ea
  cases r2 with
  | cH=>cases ry;exact SeqAt.RcAt.list_none pa (by omega)
  | bl b=>cases ry;exact SeqAt.RcAt.list_bool b pa (by omega)
  | int b=>obtain⟨tb,rfl⟩:=ry;exact SeqAt.RcAt.list_int b tb pa (by omega)
  | str b=>obtain⟨tb,rfl⟩:=ry;exact SeqAt.RcAt.list_str b tb pa (by omega)
  | @tup cb lV kC eb rb=>cases ry;obtain⟨bN,jk,pb⟩:=sb.isTup I eb;exact SeqAt.RcAt.list_tuple pa pb (by omega)
  | @lst cb lV kC eb rb=>cases ry;obtain⟨bN,jk,pb⟩:=sb.fj I eb;exact(by
   have hd:A.units+(fE m5+1) < cLine:=hu
   have items:i8 A s fS bN m5 kC:=fun j h1 h2=>jM I sb m5 (A:=A.in1) ra rb xh jk (by show A.units+1+fE m5 < cLine;omega) (dU fS j h1) (dU bN j h2)
   exact qw (by omega) pa pb (xh.length.symm.trans ra.length) (jk.length.symm.trans rb.length) items)
theorem EU (I:Inv X pins σ H s) (sb:Sub F H){d e:D}{A:Around}{x y:V}{u w':Value}(r1:Rep F x d) (r2:Rep F y e) (rx:RelV x u) (ry:RelV y w') (hu:A.units+ji d < cLine):SeqAt.RcNeAt A s u w' (!tV d e):=by
 cases r1 with
 | cH=>
  cases rx
  cases r2 with
  | cH=>cases ry;exact SeqAt.RcNeAt.none_none
  | bl b=>cases ry;exact SeqAt.RcNeAt.none_bool b
  | int b=>obtain⟨tb,rfl⟩:=ry;exact SeqAt.RcNeAt.none_int b tb
  | str b=>obtain⟨tb,rfl⟩:=ry;exact SeqAt.RcNeAt.none_str b tb
  | @tup cb lV kC eb rb=>cases ry;obtain⟨bN,jk,pb⟩:=sb.isTup I eb;exact SeqAt.RcNeAt.none_tuple pb (by omega)
  | @lst cb lV kC eb rb=>cases ry;obtain⟨bN,jk,pb⟩:=sb.fj I eb;exact SeqAt.RcNeAt.none_list pb (by omega)
 | bl a=>
  cases rx
  cases r2 with
  | cH=>cases ry;exact SeqAt.RcNeAt.bool_none a
  | bl b=>cases ry;exact SeqAt.RcNeAt.bool_bool a b
  | int b=>obtain⟨tb,rfl⟩:=ry;exact SeqAt.RcNeAt.bool_int a b tb
  | str b=>obtain⟨tb,rfl⟩:=ry;exact SeqAt.RcNeAt.bool_str a b tb
  | @tup cb lV kC eb rb=>cases ry;obtain⟨bN,jk,pb⟩:=sb.isTup I eb;exact SeqAt.RcNeAt.bool_tuple a pb (by omega)
  | @lst cb lV kC eb rb=>cases ry;obtain⟨bN,jk,pb⟩:=sb.fj I eb;exact SeqAt.RcNeAt.bool_list a pb (by omega)
 | int a=>
  obtain⟨ta,rfl⟩:=rx
  cases r2 with
  | cH=>cases ry;exact SeqAt.RcNeAt.int_none a ta
  | bl b=>cases ry;exact SeqAt.RcNeAt.int_bool a ta b
  | int b=>obtain⟨tb,rfl⟩:=ry;exact SeqAt.RcNeAt.int_int a ta b tb
  | str b=>obtain⟨tb,rfl⟩:=ry;exact SeqAt.RcNeAt.int_str a ta b tb
  | @tup cb lV kC eb rb=>cases ry;obtain⟨bN,jk,pb⟩:=sb.isTup I eb;exact SeqAt.RcNeAt.int_tuple a ta pb (by omega)
  | @lst cb lV kC eb rb=>cases ry;obtain⟨bN,jk,pb⟩:=sb.fj I eb;exact SeqAt.RcNeAt.int_list a ta pb (by omega)
 | str a=>
  obtain⟨ta,rfl⟩:=rx
  cases r2 with
  | cH=>cases ry;exact SeqAt.RcNeAt.str_none a ta
  | bl b=>cases ry;exact SeqAt.RcNeAt.str_bool a ta b
  | int b=>obtain⟨tb,rfl⟩:=ry;exact SeqAt.RcNeAt.str_int a ta b tb
  | str b=>obtain⟨tb,rfl⟩:=ry;exact SeqAt.RcNeAt.str_str a ta b tb
  | @tup cb lV kC eb rb=>cases ry;obtain⟨bN,jk,pb⟩:=sb.isTup I eb;exact SeqAt.RcNeAt.str_tuple a ta pb (by omega)
  | @lst cb lV kC eb rb=>cases ry;obtain⟨bN,jk,pb⟩:=sb.fj I eb;exact SeqAt.RcNeAt.str_list a ta pb (by omega)
 | @tup ca LA m5 ea ra=>
  cases rx;obtain⟨fS,xh,pa⟩:=sb.isTup I ea
  cases r2 with
  | cH=>cases ry;exact SeqAt.RcNeAt.tuple_none pa (by omega)
  | bl b=>cases ry;exact SeqAt.RcNeAt.tuple_bool b pa (by omega)
  | int b=>obtain⟨tb,rfl⟩:=ry;exact SeqAt.RcNeAt.tuple_int b tb pa (by omega)
  | str b=>obtain⟨tb,rfl⟩:=ry;exact SeqAt.RcNeAt.tuple_str b tb pa (by omega)
  | @tup cb lV kC eb rb=>cases ry;obtain⟨bN,jk,pb⟩:=sb.isTup I eb;exact(by
   have hd:A.units+(fE m5+1) < cLine:=hu
   have items:i8 A s fS bN m5 kC:=fun j h1 h2=>jM I sb m5 (A:=A.in1) ra rb xh jk (by show A.units+1+fE m5 < cLine;omega) (dU fS j h1) (dU bN j h2)
   exact sf (by omega) pa pb (xh.length.symm.trans ra.length) (jk.length.symm.trans rb.length) items)
  | @lst cb lV kC eb rb=>cases ry;obtain⟨bN,jk,pb⟩:=sb.fj I eb;exact SeqAt.RcNeAt.tuple_list pa pb (by omega)
 | @lst ca LA m5 ea ra=>
  cases rx;obtain⟨fS,xh,pa⟩:=sb.fj I ea
  cases r2 with
  | cH=>cases ry;exact SeqAt.RcNeAt.list_none pa (by omega)
  | bl b=>cases ry;exact SeqAt.RcNeAt.list_bool b pa (by omega)
  | int b=>obtain⟨tb,rfl⟩:=ry;exact SeqAt.RcNeAt.list_int b tb pa (by omega)
  | str b=>obtain⟨tb,rfl⟩:=ry;exact SeqAt.RcNeAt.list_str b tb pa (by omega)
  | @tup cb lV kC eb rb=>cases ry;obtain⟨bN,jk,pb⟩:=sb.isTup I eb;exact SeqAt.RcNeAt.list_tuple pa pb (by omega)
  | @lst cb lV kC eb rb=>cases ry;obtain⟨bN,jk,pb⟩:=sb.fj I eb;exact(by
   have hd:A.units+(fE m5+1) < cLine:=hu
   have items:i8 A s fS bN m5 kC:=fun j h1 h2=>jM I sb m5 (A:=A.in1) ra rb xh jk (by show A.units+1+fE m5 < cLine;omega) (dU fS j h1) (dU bN j h2)
   exact tW (by omega) pa pb (xh.length.symm.trans ra.length) (jk.length.symm.trans rb.length) items)
noncomputable def Ni:List D->Option U
 | [a,b]=>if ji a<=40 then some (.t (.bl (tV a b))) else none
 | _=>none
noncomputable def LC:List D->Option U
 | [a,b]=>if ji a<=40 then some (.t (.bl (!tV a b))) else none
 | _=>none
theorem Iq (hu:X.A.units+64 < cLine):wV X (compareOp .Eq) Ni:=by
 intro pins s σ H x y v u Q I rx ry ⟨F,ds,w,sb,rs,hw,q⟩
 obtain⟨d,e,rfl,r1,r2⟩:=rW rs
 obtain⟨hd,rfl⟩:=dF (show(if ji d<=40 then some (U.t (.bl (tV d e))) else none)=some w from hw)
 exact LB I sb r1 r2 rx ry (by omega) _ _ _ _ ⟨.bl _,H,I,rfl,q _ F H (iB.refl ..) sb (.bl _)⟩
theorem CK (hu:X.A.units+64 < cLine):wV X (compareOp .NotEq) LC:=by
 intro pins s σ H x y v u Q I rx ry ⟨F,ds,w,sb,rs,hw,q⟩
 obtain⟨d,e,rfl,r1,r2⟩:=rW rs
 obtain⟨hd,rfl⟩:=dF (show(if ji d<=40 then some (U.t (.bl (!tV d e))) else none)=some w from hw)
 exact EU I sb r1 r2 rx ry (by omega) _ _ _ _ ⟨.bl _,H,I,rfl,q _ F H (iB.refl ..) sb (.bl _)⟩
end
section
variable {X:Cx}{pins:List (Addr×Obj)}{σ:St}{F H:Hp}{s:Shared}
end
section
variable {X:Cx}{a b c e:Expr}{es:List Expr}{pos p p2 px:Pos}{x y:Str}{g ga gb gc:GD}{gA:GA}
noncomputable def CL:List D->Option (List Bool)
 | []=>some []
 | .bl b :: ds=>(CL ds).map fun bs=>b :: bs
 | _=>none
noncomputable def UA:List D->Option U
 | [.lst ds]=>(CL ds).map fun bs=>.t (.bl (bs.all id))
 | _=>none
theorem oz {P:D->Prop}{F:Hp}{xs:List V}{ds:List D}{f:List D->Option U}{w':U}(rs:bw F xs ds) (h:f ds=some w') (hn:f []=none) (h2:∀a b r,f (a :: b :: r)=none):∃x d,xs=[x]/\ds=[d]/\Rep F x d:=by
 cases rs with
 | nil=>rw[hn] at h;cases h
 | cons r rs=>
  cases rs with
  | nil=>exact⟨_,_,rfl,rfl,r⟩
  | cons _ _=>rw[h2] at h;cases h
noncomputable def LD:List D->Option U
 | [.int i,.int j,.int k]=>some (.t (.int (if j < i then(if k < j then k else j) else if k < i then k else i)))
 | _=>none
noncomputable def Ae:List D->Option U
 | [.int i,.int j]=>some (.t (.int (if j < i then j else i)))
 | _=>none
theorem yX (hc : X.calm = true) : iG X (.builtin "min") (rP Ae) := by
  intro pins s σ H xs us Q I r ⟨F,ds,w,sb,rs,hw,q⟩
  unfold Ae at hw
  split at hw
  . rename_i i j
    cases hw
    cases rs with
    | cons r1 rs=>cases rs with
      | cons r2 rs=>
        cases rs
        rw[gF r1,gF r2] at r
        exact AX hc pins s σ H _ us Q I r ⟨i,j,rfl,q _ F H (iB.refl ..) sb (.int _)⟩
  . cases hw
noncomputable def xj:List D->Option U
 | [.tup ds]=>some (.m (.lst ds))
 | [.lst ds]=>some (.m (.lst ds))
 | _=>none
noncomputable def bE:List D->Option U
 | [.tup ds]=>some (.t (.tup ds))
 | [.lst ds]=>some (.t (.tup ds))
 | _=>none
theorem yY:iG X (.type "list") (rP xj):=by
 intro pins s σ H xs us Q I r ⟨F,ds,w,sb,rs,hw,q⟩
 obtain⟨x,d,rfl,rfl,r1⟩:=oz (P:=fun _=>True) rs hw rfl (fun d _ _=>by cases d <;> rfl)
 cases d <;> try (simp[xj] at hw;done)
 ·cases hw
  obtain⟨a,vs,rfl,fa,ha,nI⟩:=sb.jZ r1
  exact nZ pins s σ H _ us Q I r ⟨a,vs,rfl,.inr (.inl ha),fun p hp=>q _ F _ (iB.obj hp _) (sb.same (iB.obj (F:=F) hp _).same) ⟨p,rfl,hp,sb.fresh hp,vs,aL,nI⟩⟩
 ·cases hw
  obtain⟨a,vs,rfl,fa,ha,nI⟩:=sb.jJ r1
  exact nZ pins s σ H _ us Q I r ⟨a,vs,rfl,.inl (.inl ha),fun p hp=>q _ F _ (iB.obj hp _) (sb.same (iB.obj (F:=F) hp _).same) ⟨p,rfl,hp,sb.fresh hp,vs,aL,nI⟩⟩
theorem bJ:iG X (.type "tuple") (rP bE):=by
 intro pins s σ H xs us Q I r ⟨F,ds,w,sb,rs,hw,q⟩
 obtain⟨x,d,rfl,rfl,r1⟩:=oz (P:=fun _=>True) rs hw rfl (fun d _ _=>by cases d <;> rfl)
 cases d <;> try (simp[bE] at hw;done)
 ·cases hw
  have r0:=r1
  obtain⟨a,vs,rfl,fa,ha,nI⟩:=sb.jZ r1
  exact m8 pins s σ H _ us Q I r ⟨a,vs,rfl,.inr ⟨.inl ha,q _ F H (iB.refl ..) sb r0⟩⟩
 ·cases hw
  obtain⟨a,vs,rfl,fa,ha,nI⟩:=sb.jJ r1
  exact m8 pins s σ H _ us Q I r ⟨a,vs,rfl,.inl ⟨.inl ha,fun p hp=>q _ _ _ (iB.root sb hp _) (sb.vm hp) (.tup aL (nI.le (nG (sb.fresh hp))))⟩⟩
end
theorem iz.ky {H:Hp}{a:Addr}{kvs:List (Key×V)}{y:V}{k:Key}(e:H a=some (.dK kvs)) (h:Ey y k):iz H a y (lF kvs k):=.inl ⟨kvs,k,.inl e,h,rfl⟩
theorem rO.ky {H:Hp}{a:Addr}{kvs:List (Key×V)}{y:V}{k:Key}{v:V}(e:H a=some (.dK kvs)) (h:Ey y k) (hl:kvs.length < sizeLine):rO H a y v (upd H a (.dK (putK kvs k v))):=.inl ⟨kvs,k,e,h,hl,rfl⟩
noncomputable def keyOf:D->Option Key
 | .bl b=>some (.inl (bI b))
 | .int i=>some (.inl i)
 | .str z=>some (.inr z)
 | _=>none
theorem ir {F:Hp}{v:V}{d:D}{k:Key}(r:Rep F v d) (h:keyOf d=some k):Ey v k:=by
 cases r <;> cases h <;> first | exact .inl rfl | exact .inr ⟨_,rfl,rfl⟩
noncomputable def aV {κ:Type} [DecidableEq κ] (kvs:List (κ×D)) (k:κ):Option D:=(kvs.find? fun kv=>decide (kv.1=k)).map (·.2)
noncomputable def putD {κ:Type} [DecidableEq κ] (kvs:List (κ×D)) (k:κ) (d:D):List (κ×D):=
 if(kvs.any fun kv=>decide (kv.1=k))=true then kvs.map (fun kv=>if kv.1=k then(kv.1,d) else kv) else kvs++[(k,d)]
theorem iQ {κ:Type} [DecidableEq κ] {F:Hp}{k:κ}{d:D}:∀{ws:List (κ×V)}{kvs:List (κ×D)},Paired (jf F) ws kvs->aV kvs k=some d->∃v,lF ws k=some v/\Rep F v d
 | _,_,.nil,h=>by cases h
 | _,_,@Paired.cons _ _ _ p q ws kvs r rs,h=>by
  by_cases e:q.1=k
  ·have e':p.1=k:=r.1.trans e
   refine⟨p.2,nW e',?_⟩
   have:aV (q :: kvs) k=some q.2:=by simp[aV,List.find?_cons,e]
   rw[this] at h
   cases h
   exact r.2
  ·have e':¬p.1=k:=fun z=>e (r.1.symm.trans z)
   have:aV (q :: kvs) k=aV kvs k:=by simp[aV,List.find?_cons,e]
   rw[this] at h
   obtain⟨v,h1,h2⟩:=iQ rs h
   exact⟨v,by rw[lO e'];exact h1,h2⟩
theorem kD {κ:Type} [DecidableEq κ] {F:Hp}{k:κ}:∀{ws:List (κ×V)}{kvs:List (κ×D)},Paired (jf F) ws kvs->aV kvs k=none->lF ws k=none
 | _,_,.nil,h=>rfl
 | _,_,@Paired.cons _ _ _ p q ws kvs r rs,h=>by
  by_cases e:q.1=k
  ·have:aV (q :: kvs) k=some q.2:=by simp[aV,List.find?_cons,e]
   rw[this] at h
   cases h
  ·have e':¬p.1=k:=fun z=>e (r.1.symm.trans z)
   have:aV (q :: kvs) k=aV kvs k:=by simp[aV,List.find?_cons,e]
   rw[this] at h
   rw[lO e']
   exact kD rs h
theorem xm {κ:Type} [DecidableEq κ] {F:Hp}{k:κ}:∀{ws:List (κ×V)}{kvs:List (κ×D)},Paired (jf F) ws kvs->(ws.any fun kv=>decide (kv.1=k))=(kvs.any fun kv=>decide (kv.1=k))
 | _,_,.nil=>rfl
 | _,_,.cons r rs=>by rw[List.any_cons,List.any_cons,xm rs,r.1]
theorem xq {κ:Type} [DecidableEq κ] {F:Hp}{k:κ}{v:V}{d:D}(r:Rep F v d):∀{ws:List (κ×V)}{kvs:List (κ×D)},Paired (jf F) ws kvs->Paired (jf F) (ws.map fun kv=>if kv.1=k then(kv.1,v) else kv) (kvs.map fun kv=>if kv.1=k then(kv.1,d) else kv)
 | _,_,.nil=>.nil
 | _,_,@Paired.cons _ _ _ p q ws kvs h hs=>by
  refine .cons ?_ (xq r hs)
  show jf F (if p.1=k then(p.1,v) else p) (if q.1=k then(q.1,d) else q)
  rw[h.1]
  by_cases e:q.1=k
  ·rw[if_pos e,if_pos e];exact⟨rfl,r⟩
  ·rw[if_neg e,if_neg e];exact h
theorem qx {α β:Type}{P:α->β->Prop}{x:α}{y:β}(p:P x y):∀{l:List α}{r:List β},Paired P l r->Paired P (l++[x]) (r++[y])
 | _,_,.nil=>.cons p .nil
 | _,_,.cons q qs=>.cons q (qx p qs)
theorem oA {κ:Type} [DecidableEq κ] {F:Hp}{k:κ}{v:V}{d:D}{ws:List (κ×V)}{kvs:List (κ×D)}(h:Paired (jf F) ws kvs) (r:Rep F v d):Paired (jf F) (putK ws k v) (putD kvs k d):=by
 unfold putK putD
 rw[xm h]
 by_cases e:(kvs.any fun kv=>decide (kv.1=k))=true
 ·rw[if_pos e,if_pos e];exact xq r h
 ·rw[if_neg e,if_neg e];exact qx ⟨rfl,r⟩ h
noncomputable def j9:D->Option D
 | .tup ds=>if fR 8 (.tup ds)=true then some (nf (.tup ds)) else none
 | _=>none
theorem jN {F H:Hp}{v:V}{d:D}{ks:D}(sb:Sub F H) (r:Rep F v d) (h:j9 d=some ks):∃b,v= .ref b/\Kd H b ks:=by
 cases r with
 | @tup a vs ds e rs=>
  obtain⟨h1,h2⟩:=dF (show(if fR 8 (.tup ds)=true then some (nf (.tup ds)) else none)=some ks from h)
  subst h2
  exact⟨a,rfl,_,Rep.le sb (.tup e rs),h1,rfl⟩
 | cH=>cases h
 | bl _=>cases h
 | int _=>cases h
 | str _=>cases h
 | lst _ _=>cases h
noncomputable def fu:U->D->Option D
 | .t (.tup ds),.int i=>fC ds i
 | .t (.lst ds),.int i=>fC ds i
 | .m (.lst ds),.int i=>fC ds i
 | .b (.lst ds),.int i=>fC ds i
 | .s ns,.int i=>(fC ns i).map D.int
 | .m (.dct kvs),k=>(keyOf k).bind (aV kvs)
 | .b (.dct kvs),k=>(keyOf k).bind (aV kvs)
 | .m (.mX kvs),k=>(j9 k).bind (aV kvs)
 | .b (.mX kvs),k=>(j9 k).bind (aV kvs)
 | _,_=>none
noncomputable def aQ (i:Nat) (gb:GD):GD:=fun S=>match S[i]? with
 | some (some _)=>(gb S).bind fun p=>match p.2[i]? with
  | some (some u)=>(fu u p.1).map fun d=>(d,p.2)
  | _=>none
 | _=>none
theorem EV {α β:Type}(f:α->β){l:List α}{i:Int}{x:α}(h:fC l i=some x):fC (l.map f) i=some (f x):=by
 unfold fC at h ⊢
 rw[List.length_map]
 obtain⟨j,h1,h2⟩:=ah h
 rw[h1]
 show(l.map f)[j]? =_
 rw[List.getElem?_map,h2]
 rfl
section
variable {X:Cx}{a b c e value:Expr}{es:List Expr}{pos p p2 px pos':Pos}{x y:Str}{g ga gb gc gk gv:GD}{gA:GA}
theorem aX {i : Nat} (hu : X.A.units + 20 < cLine) (hb : JD X b gb) (hs : qY b := by first | (intro _ _; rfl)) (hN : X.N[i]? = some x := by rfl) (hv : AR X.env.scope x := by first | exact Or.inl rfl | exact Or.inr (Or.inl rfl) | exact Or.inr (Or.inr rfl))
    (hd:(x == ("__debug__":Str))=false:=by decide) (hcd:(x == ("__classdict__":Str))=false:=by decide):JD X (.Subscript (.Name x px) b pos) (aQ i gb):=⟨fun B=>PE.orelse fun σ H Q ⟨S,F,d,S',R,hg,q⟩=>by
  unfold aQ at hg
  split at hg
  . rename_i u0 Ph
    obtain⟨v0,hv0,_⟩:=R.rep i u0 Ph
    obtain⟨⟨k,S1⟩,h1,hg⟩:=ah hg
    dsimp only at hg
    split at hg
    . rename_i u hS
      obtain⟨d',hr,hg⟩:=az hg
      cases hg
      have w4:∀F1 H1,Rel X.K B S' σ F1 H1->rT X.K F1 H1 v0 u:=fun F1 H1 R1=>by
        obtain⟨v,k1,k2⟩:=R1.rep i u hS
        rw[hv0] at k1
        cases k1
        exact k2
      have seq:∀(Y:V->V->Hp->VK->Prop),PE X (.Subscript (.Name x px) b pos) (J6 Y (Ek i) (tD X.K B gb))->(∀v F1 H1,Rel X.K B S' σ F1 H1->Step S S' σ F H F1 H1->Rep F1 v k->Y v0 v H1 Q)->∃t',PE X (.Subscript (.Name x px) b pos) t'/\t' σ H Q:=fun Y hY h=>
        ⟨_,hY,v0,hv0,S,F,k,S',R,h1,fun v F1 H1 R1 st1 r1=>h v F1 H1 R1 st1 r1⟩
      have dict:∀kvs,(∀F1 H1,Rel X.K B S' σ F1 H1->∃a ws,v0= .ref a/\H1 a=some (.dK ws)/\Paired (jf F1) ws kvs)->(keyOf k).bind (aV kvs)=some d->∃t',PE X (.Subscript (.Name x px) b pos) t'/\t' σ H Q:=fun kvs hat hr=>by
        obtain⟨kk,e1,e2⟩:=ah hr
        refine⟨_,zR hu (iF hN hv hd hcd) (hb.h B) hs,v0,hv0,S,F,k,S',R,h1,fun v F1 H1 R1 st1 r1=>?_⟩
        obtain⟨a,ws,rfl,ha,pr⟩:=hat F1 H1 R1
        obtain⟨w',z1,z2⟩:=iQ pr e2
        exact⟨a,w',rfl,by rw[<-z1];exact iz.ky ha (ir r1 e1),q w' F1 H1 R1 st1 z2⟩
      have xr:∀kvs,(∀F1 H1,Rel X.K B S' σ F1 H1->∃a ws,v0= .ref a/\H1 a=some (.dT ws)/\Paired (jf F1) ws kvs)->(j9 k).bind (aV kvs)=some d->∃t',PE X (.Subscript (.Name x px) b pos) t'/\t' σ H Q:=fun kvs hat hr=>by
        obtain⟨kk,e1,e2⟩:=ah hr
        refine⟨_,zR hu (iF hN hv hd hcd) (hb.h B) hs,v0,hv0,S,F,k,S',R,h1,fun v F1 H1 R1 st1 r1=>?_⟩
        obtain⟨a,ws,rfl,ha,pr⟩:=hat F1 H1 R1
        obtain⟨w',z1,z2⟩:=iQ pr e2
        obtain⟨b',rfl,hb'⟩:=jN R1.sub r1 e1
        exact⟨a,w',rfl,by rw[<-z1];exact iz.t ha hb',q w' F1 H1 R1 st1 z2⟩
      have list:∀ds ii,k= .int ii->fC ds ii=some d->(∀F1 H1,Rel X.K B S' σ F1 H1->∃a vs,v0= .ref a/\(nB X.K H1 a vs\/u6 X.K H1 a vs)/\bw F1 vs ds)->∃t',PE X (.Subscript (.Name x px) b pos) t'/\t' σ H Q:=fun ds ii ek hrr hat=>by
        subst ek
        refine seq _ (zU Ck (iF hN hv hd hcd) (hb.h B) hs) fun v F1 H1 R1 st1 r1=>?_
        obtain⟨a,vs,rfl,ha,rs⟩:=hat F1 H1 R1
        obtain⟨w',z1,z2⟩:=rs.fC hrr
        rw[gF r1]
        rcases ha with ha | ha
        . exact .inl ⟨a,vs,ii,w',rfl,rfl,ha,z1,q w' F1 H1 R1 st1 z2⟩
        . exact .inr (.inl ⟨a,vs,ii,w',rfl,rfl,ha,z1,q w' F1 H1 R1 st1 z2⟩)
      unfold fu at hr
      split at hr
      . rename_i ds ii
        exact list ds ii rfl hr fun F1 H1 R1=>let⟨a,vs,e1,fa,ha,rs⟩:=R1.sub.jZ (w4 F1 H1 R1);⟨a,vs,e1,.inr (.inl ha),rs⟩
      . rename_i ds ii
        exact list ds ii rfl hr fun F1 H1 R1=>let⟨a,vs,e1,fa,ha,rs⟩:=R1.sub.jJ (w4 F1 H1 R1);⟨a,vs,e1,.inl (.inl ha),rs⟩
      . rename_i ds ii
        exact list ds ii rfl hr fun F1 H1 R1=>let⟨a,e1,fa,vs,ha,rs⟩:=w4 F1 H1 R1;⟨a,vs,e1,.inl (nB.of ha),rs⟩
      . rename_i ds ii
        exact list ds ii rfl hr fun F1 H1 R1=>let⟨a,e1,fa,vs,ha,rs⟩:=w4 F1 H1 R1;⟨a,vs,e1,.inl (nB.of ha),rs⟩
      . rename_i ns ii
        obtain⟨n,z1,z2⟩:=az hr
        subst z2
        refine seq _ (zU Ck (iF hN hv hd hcd) (hb.h B) hs) fun v F1 H1 R1 st1 r1=>?_
        obtain⟨a,e1,ha⟩:=w4 F1 H1 R1
        rw[gF r1]
        exact .inl ⟨a,ns.map V.int,ii,.int n,e1,rfl,ha.sq,EV V.int z1,q _ F1 H1 R1 st1 (.int n)⟩
      . rename_i kvs
        exact dict kvs (fun F1 H1 R1=>let⟨a,e1,fa,ws,ha,pr⟩:=w4 F1 H1 R1;⟨a,ws,e1,ha,pr⟩) hr
      . rename_i kvs
        exact dict kvs (fun F1 H1 R1=>let⟨a,e1,fa,ws,ha,pr⟩:=w4 F1 H1 R1;⟨a,ws,e1,ha,pr⟩) hr
      . rename_i kvs
        exact xr kvs (fun F1 H1 R1=>let⟨a,e1,fa,ws,ha,pr⟩:=w4 F1 H1 R1;⟨a,ws,e1,ha,pr⟩) hr
      . rename_i kvs
        exact xr kvs (fun F1 H1 R1=>let⟨a,e1,fa,ws,ha,pr⟩:=w4 F1 H1 R1;⟨a,ws,e1,ha,pr⟩) hr
      . cases hr
    . cases hg
  . cases hg⟩
noncomputable def tX:U->Option Nat
 | .t (.tup ds)=>some ds.length
 | .t (.lst ds)=>some ds.length
 | .t (.str z)=>if z.length<=100000 then some z.length else none
 | .m (.lst ds)=>some ds.length
 | .b (.lst ds)=>some ds.length
 | .m (.dct ds)=>some ds.length
 | .b (.dct ds)=>some ds.length
 | .m (.mX ds)=>some ds.length
 | .b (.mX ds)=>some ds.length
 | .s ns=>some ns.length
 | _=>none
noncomputable def gQ (i:Nat):GD:=fun S=>match S[i]? with
 | some (some u)=>(tX u).map fun n=>(.int (n:Nat),S)
 | _=>none
theorem cK {α β:Type}{P:α->β->Prop}:∀{l:List α}{r:List β},Paired P l r->l.length=r.length
 | _,_,.nil=>rfl
 | _,_,.cons _ ps=>congrArg Nat.succ (cK ps)
theorem yZ {prog:Program}{w:World}{K:Type} [DecidableEq K] (knd:HeapKind prog w K) (d:Addr) (hd:(d == sysModules)=false):
  MeetsIn prog w (Builtin.«dict.__len__» ⟨[.ref d],[]⟩) (fun _ R s=>∃xs,s.heap.DictOfH knd d xs/\R (.ok (.ret (.int xs.length s.toks))) {s with toks:=s.toks+1}):=
 .of_wp fun A R s ⟨xs,hm,h⟩=>by
  obtain⟨o,es,ep,ho,hc,hdat,he,his,hn⟩:=hm
  show wpAny _ _ (dictSize d >>= _) _ _ s
  unfold dictSize
  refine wpAny_bind (wpAny_bind (wpAny_dictEntries ho hdat (wpAny_pure ?_)))
  show wpAny _ _ (Builtin.Dict.pendingCount d >>= _) _ _ s
  refine wpAny_bind (wpAny_pendingCount_other hd ?_)
  refine wpAny_ret_mkInt ?_
  rw[Nat.add_zero,size_of_entries he];exact h
theorem A9 {prog:Program}{w:World}{K:Type} [DecidableEq K] {knd:HeapKind prog w K}{A:Around}{E:Value->Shared->Prop}{s:Shared}{d:Addr}{xs:List (K×Addr×Value)}{Q:Value->Shared->Prop}(hd:(d == sysModules)=false) (hm:s.heap.DictOfH knd d xs) (hfit:(xs.length:Int) < 2 ^ 63)
  (h:Q (.int xs.length (s.toks+1)) {s with toks:=s.toks+1+1}):wpAny (model prog w) A (Builtin.«len» ⟨[.ref d],[]⟩) (fun fin s'=>∃r,fin= .done (.ret r)/\Q r s') E s:=by
 unfold Builtin.«len»
 refine wpAny_bind (m:=oneArg "len" _) (wpAny_pure ?_)
 refine wpAny_bind (m:=callSpecial? (.ref d) (Str.ofString "__len__")) (wpAny_callSpecial?_slot (name:=Str.ofString "__len__") hm.typeIs F.slot_dict_len
  (call_meetsIn F.slot_dict_len hm.typeIs F.entry_dict_len (F.args_dict_len_1 _) (yZ knd d hd) ⟨xs,hm,?_⟩))
 show wpAny _ _ _ _ _ {s with toks:=s.toks+1}
 refine wpAny_bind (wpAny_holding (wpAny_pure ?_))
 refine wpAny_bind (wpAny_letGo ?_)
 show wpAny _ _ (if((xs.length:Nat):Int) < 0 then _ else _) _ _ _
 rw[if_neg (by omega)]
 show wpAny _ _ (if((xs.length:Nat):Int)≥2 ^ 63 then _ else _) _ _ _
 rw[if_neg (by omega)]
 exact wpAny_bind (wpAny_mkInt (wpAny_pure ⟨_,rfl,h⟩))
theorem za:iG X (.builtin "len") (fun xs H Q=>∃a kvs,xs=[V.ref a]/\H a=some (.dT kvs)/\Q (.int kvs.length) H):=by
 intro pins s σ H xs us Q I r h
 obtain⟨a,kvs,rfl,ha,q⟩:=h
 obtain⟨u,rfl,ru⟩:=vals1 r
 cases ru
 obtain⟨z,hd,ys,rel,dd⟩:=B9 I.hok ha
 have hl:kvs.length=ys.length:=Paired.length rel
 refine Calls.call_function_entry kind_len plain_len entry_len (args_len1 _) (A9 hd dd (by rw[<-hl];rw[sizeLine_eq] at z;omega) ?_)
 rw[<-hl]
 exact⟨.int kvs.length,H,I.tok _,⟨_,rfl⟩,q⟩
theorem gY {i:Nat}(hg:Gl X "len") (hm:X.mg "len" =none) (hN:X.N[i]? =some x:=by rfl) (hv:AR X.env.scope x:=by first | exact Or.inl rfl | exact Or.inr (Or.inl rfl) | exact Or.inr (Or.inr rfl))
  (hd:(x == ("__debug__":Str))=false:=by decide) (hcd:(x == ("__classdict__":Str))=false:=by decide) (he:starEach [.Name x px] X.env=(false,eval (.Name x px) X.env) :: starEach [] X.env:=by rfl) (hpl:(backTo pos (starEach [] X.env)).any (·.1)=false:=by rfl):
  JD X (.Call (.Name "len" p) [.Name x px] [] pos) (gQ i):=⟨fun B=>PE.orelse fun σ H Q ⟨S,F,d,S',R,hg',q⟩=>by
 unfold gQ at hg'
 split at hg'
 ·rename_i u hS
  obtain⟨n,hn,hg'⟩:=az hg'
  cases hg'
  obtain⟨v0,hv0,r0⟩:=R.rep i u hS
  have fin:=q (.int n) F H R (Step.refl ..) (.int _)
  have arg:PA X [.Name x px] (Gv (Ek i) K2):=mJ (iF hN hv hd hcd) pC he
  have list:∀a vs,v0= .ref a->(nB X.K H a vs\/u6 X.K H a vs)->vs.length=n->∃t',PE X (.Call (.Name "len" p) [.Name x px] [] pos) t'/\t' σ H Q:=fun a vs e1 ha hl=>
   ⟨_,lN kM hg hm PySem.boot_len arg (by decide) (by decide) he hpl,v0,hv0,a,vs,by rw[e1],ha,by rw[hl];exact fin⟩
  have dict:∀a ws,v0= .ref a->H a=some (.dK ws)->ws.length=n->∃t',PE X (.Call (.Name "len" p) [.Name x px] [] pos) t'/\t' σ H Q:=fun a vs e1 ha hl=>
   ⟨_,lN A5 hg hm PySem.boot_len arg (by decide) (by decide) he hpl,v0,hv0,a,vs,by rw[e1],ha,by rw[hl];exact fin⟩
  have xr:∀a ws,v0= .ref a->H a=some (.dT ws)->ws.length=n->∃t',PE X (.Call (.Name "len" p) [.Name x px] [] pos) t'/\t' σ H Q:=fun a vs e1 ha hl=>
   ⟨_,lN za hg hm PySem.boot_len arg (by decide) (by decide) he hpl,v0,hv0,a,vs,by rw[e1],ha,by rw[hl];exact fin⟩
  unfold tX at hn
  split at hn
  ·cases hn;obtain⟨a,vs,e1,fa,ha,rs⟩:=R.sub.jZ r0;exact list a vs e1 (.inr (.inl ha)) rs.length
  ·cases hn;obtain⟨a,vs,e1,fa,ha,rs⟩:=R.sub.jJ r0;exact list a vs e1 (.inl (.inl ha)) rs.length
  ·rename_i z
   obtain⟨hl,rfl⟩:=dF hn
   exact⟨_,lN nY hg hm PySem.boot_len arg (by decide) (by decide) he hpl,v0,hv0,z,by rw[Aa r0],jY hl,fin⟩
  ·cases hn;obtain⟨a,e1,fa,vs,ha,rs⟩:=r0;exact list a vs e1 (.inl (nB.of ha)) rs.length
  ·cases hn;obtain⟨a,e1,fa,vs,ha,rs⟩:=r0;exact list a vs e1 (.inl (nB.of ha)) rs.length
  ·cases hn;obtain⟨a,e1,fa,ws,ha,pr⟩:=r0;exact dict a ws e1 ha (cK pr)
  ·cases hn;obtain⟨a,e1,fa,ws,ha,pr⟩:=r0;exact dict a ws e1 ha (cK pr)
  ·cases hn;obtain⟨a,e1,fa,ws,ha,pr⟩:=r0;exact xr a ws e1 ha (cK pr)
  ·cases hn;obtain⟨a,e1,fa,ws,ha,pr⟩:=r0;exact xr a ws e1 ha (cK pr)
  ·cases hn;obtain⟨a,e1,ha⟩:=r0;exact list a _ e1 (.inl ha.sq) (by simp)
  ·cases hn
 ·cases hg'⟩
end
noncomputable def iR (o:MO) (k d:D):Option MO:=match o with
 | .dct kvs=>(keyOf k).bind fun kk=>if kvs.length < 100000 then some (.dct (putD kvs kk d)) else none
 | .mX kvs=>(j9 k).bind fun kk=>if kvs.length < 10000000 then some (.mX (putD kvs kk d)) else none
 | .ins _ _=>none
 | .lst ds=>match k with
  | .int i=>(wL ds.length i).map fun j=>.lst (ds.set j d)
  | _=>none
noncomputable def pI (i:Nat) (gk gv:GD):GS:=fun S=>(gv S).bind fun p=>match p.2[i]? with
 | some (some _)=>(gk p.2).bind fun r=>(j8 r.2 i fun o=>(iR o r.1 p.1).map fun o'=>(.cH,o')).map fun z=>.nx z.2
 | _=>none
theorem bw.set {F:Hp}{v:V}{d:D}(r:Rep F v d):∀{vs:List V}{ds:List D}(j:Nat),bw F vs ds->bw F (vs.set j v) (ds.set j d)
 | _,_,_,.nil=>.nil
 | _,_,0,.cons _ rs=>.cons r rs
 | _,_,j+1,.cons q rs=>.cons q (bw.set r j rs)
section
variable {X:Cx}{a b c e value k:Expr}{es:List Expr}{pos p p2 px pos':Pos}{x y:Str}{g ga gb gc gk gv:GD}{gA:GA}
theorem kR {i:Nat}(hu:X.A.units+20 < cLine) (hk:JD X k gk) (hval:JD X value gv) (hN:X.N[i]? =some x:=by rfl) (hv:AR X.env.scope x:=by first | exact Or.inl rfl | exact Or.inr (Or.inl rfl) | exact Or.inr (Or.inr rfl))
  (hd:(x == ("__debug__":Str))=false:=by decide) (hcd:(x == ("__classdict__":Str))=false:=by decide)
  (hs:swapsWith value (some (.Subscript (.Name x px) k pos')) pos.line X.env=pure false:=by rfl)
  (hs1:swapsWithSole [.Subscript (.Name x px) k pos'] value pos.line X.env=pure false:=by rfl) (hs2:swappedStores [.Subscript (.Name x px) k pos'] value X.env=pure none:=by rfl)
  (UB:(assignEach [.Subscript (.Name x px) k pos'] X.env).map (·.2)=[assign (.Subscript (.Name x px) k pos') X.env]:=by rfl)
  (UC:∀v,assign (.Subscript (.Name x px) k pos') X.env v=(do
   let ov <-holding [v] (eval (.Name x px) X.env)
   let iv <-holding [v,ov] (eval k X.env)
   standAt pos'
   holding [v,ov,iv] (setItem ov iv v)
   release [v,ov,iv] []):=by intro _;rfl):
  JS X (.Assign [.Subscript (.Name x px) k pos'] value pos) (pI i gk gv):=⟨fun B=>PS.orelse fun D σ H ⟨S,F,o,R,hg,q⟩=>by
 obtain⟨⟨d,S1⟩,h1,hg⟩:=ah hg
 dsimp only at hg
 split at hg
 ·rename_i u0 Ph
  obtain⟨⟨kd,S2⟩,h2,hg⟩:=ah hg
  obtain⟨⟨nd,S3⟩,h3,hg⟩:=az hg
  subst hg
  obtain⟨u,u',mo,mo',hS,Io,hio,hf,Eg,rfl⟩:=pG h3
  obtain⟨WN,hw,hf2⟩:=az hf
  cases hf2
  have hv0:∀F1 H1,Rel X.K B S1 σ F1 H1->∃v,σ[i]? =some (some v):=fun F1 H1 R1=>let⟨v,k1,_⟩:=R1.rep i u0 Ph;⟨v,k1⟩
  cases mo with
  | dct kvs=>
   obtain⟨kk,e1,hw⟩:=ah hw
   obtain⟨hl,rfl⟩:=dF hw
   refine⟨_,zS hu (iF hN hv hd hcd) (hk.h B) (hval.h B) hs,S,F,d,S1,R,h1,fun v F1 H1 R1 st1 r1=>?_⟩
   obtain⟨v0,hv0⟩:=hv0 F1 H1 R1
   refine⟨v0,hv0,S1,F1,kd,S2,R1,h2,fun y F2 H2 R2 st2 r2=>?_⟩
   obtain⟨v',k1,k2⟩:=R2.rep i u hS
   rw[hv0] at k1
   cases k1
   obtain⟨a,o2,rfl,fa,eo,k3⟩:=k2.cy Io
   rw[hio] at eo
   cases eo
   obtain⟨ws,ha,pr⟩:=k3
   refine⟨a,_,rfl,rO.ky ha (ir r2 e1) (by rw[cK pr];exact Nat.lt_of_lt_of_le hl (by decide)),?_⟩
   obtain⟨R3,st3⟩:=R2.write (ho:=.dK (putK ws kk v)) hS Eg hv0 ⟨_,aL,oA pr (r1.le st2.ext.le)⟩
   exact q σ F2 _ R3 fun b o z=>st2.ext.le b o (st1.ext.le b o z)
  | ins C kvs=>cases hw
  | mX kvs=>
   obtain⟨kk,e1,hw⟩:=ah hw
   obtain⟨hl,rfl⟩:=dF hw
   refine⟨_,zS hu (iF hN hv hd hcd) (hk.h B) (hval.h B) hs,S,F,d,S1,R,h1,fun v F1 H1 R1 st1 r1=>?_⟩
   obtain⟨v0,hv0⟩:=hv0 F1 H1 R1
   refine⟨v0,hv0,S1,F1,kd,S2,R1,h2,fun y F2 H2 R2 st2 r2=>?_⟩
   obtain⟨v',k1,k2⟩:=R2.rep i u hS
   rw[hv0] at k1
   cases k1
   obtain⟨a,o2,rfl,fa,eo,k3⟩:=k2.cy Io
   rw[hio] at eo
   cases eo
   obtain⟨ws,ha,pr⟩:=k3
   obtain⟨b',rfl,hb'⟩:=jN R2.sub r2 e1
   refine⟨a,_,rfl,rO.t ha hb' (by rw[cK pr];exact Nat.lt_of_lt_of_le hl (by decide)),?_⟩
   obtain⟨R3,st3⟩:=R2.write (ho:=.dT (putK ws kk v)) hS Eg hv0 ⟨_,aL,oA pr (r1.le st2.ext.le)⟩
   exact q σ F2 _ R3 fun b o z=>st2.ext.le b o (st1.ext.le b o z)
  | lst ds=>
   unfold iR at hw
   dsimp only at hw
   split at hw
   ·rename_i ii
    obtain⟨j,e1,rfl⟩:=az hw
    refine⟨_,BX (hval.h B) (Hl (iF hN hv hd hcd) (hk.h B) set_list UC) hs1 hs2 UB,S,F,d,S1,R,h1,fun v F1 H1 R1 st1 r1=>?_⟩
    obtain⟨v0,hv0⟩:=hv0 F1 H1 R1
    refine⟨v0,hv0,S1,F1,_,S2,R1,h2,fun y F2 H2 R2 st2 r2=>?_⟩
    obtain⟨v',k1,k2⟩:=R2.rep i u hS
    rw[hv0] at k1
    cases k1
    obtain⟨a,o2,rfl,fa,eo,k3⟩:=k2.cy Io
    rw[hio] at eo
    cases eo
    obtain⟨vs,ha,rs⟩:=k3
    rw[gF r2]
    refine⟨a,vs,_,j,rfl,rfl,ha,by rw[rs.length];exact e1,?_⟩
    obtain⟨R3,st3⟩:=R2.write (ho:=.lst (vs.set j v)) hS Eg hv0 ⟨_,aL,rs.set (r1.le st2.ext.le) j⟩
    exact q σ F2 _ R3 fun b o z=>st2.ext.le b o (st1.ext.le b o z)
   ·cases hw
 ·cases hg⟩
theorem Rel.Pj {K:PySem.W.Frag}{B:Base}{S:SS}{σ:St}{F H:Hp}{a:Addr}{o o':HO}(R:Rel K B S σ F H) (hn:¬cy S σ a) (hf:F a=none) (hB:B.H a=none) (hh:H a=some o) (hz:∀ob u,o≠.jw ob u):Rel K B S σ F (upd H a o'):=by
 have GP:∀b ob w,H b=some (.jw ob w)->upd H a o' b=some (.jw ob w):=fun b ob w z=>by
  rw[aE (fun e=>by rw[e,hh] at z;cases z;exact hz _ _ rfl)];exact z
 refine⟨fun b u z=>?_,R.len,fun j w z=>?_,R.wR,R.own,R.bor,R.par,⟨R.ext.le,fun b u z n=>?_,R.ext.iE,fun b u z=>?_,fun b ob w z=>GP b ob w (R.ext.jw b ob w z)⟩⟩
 ·have hb:b≠a:=fun e=>by rw[e,hf] at z;cases z
  rw[aE hb];exact R.sub b u z
 ·obtain⟨v,h1,h2⟩:=R.rep j w z
  refine⟨v,h1,h2.le (fun _ _ z=>z) GP fun c hm hc=>?_⟩
  have hca:c≠a:=fun e=>hn ⟨j,w,z,hm,by rw[h1,hc,e]⟩
  obtain⟨c',_,e,f,_⟩:=h2.cy hm
  rw[hc] at e
  cases e
  exact⟨fun o z=>by rw[aE hca];exact z,f⟩
 ·rw[aE (fun e=>by rw[e,hB] at z;cases z)];exact R.ext.keep b u z n
 ·by_cases hb:b=a
  ·exact⟨o',by rw[hb,aL]⟩
  ·rw[aE hb];exact R.ext.there b u z
end
section
variable {X:Cx}{a b c e:Expr}{lo hi:Option Expr}{pos p p2 px:Pos}{x y:Str}{g ga:GD}{gA:GA}{gl gh:Option GD}
noncomputable def yE (d:D):Prop:=(toPy d).showable=true/\(toPy d).depth<=20/\(toPy d).shown.length<=sizeLine
noncomputable instance (d:D):Decidable (yE d):=by unfold yE;infer_instance
noncomputable def kE:List D->Option U
 | [d]=>if yE d then some (.t (.str (toPy d).shown)) else none
 | _=>none
mutual
theorem Rep.pJ {pins:List (Addr×Obj)}{σ:St}{F H:Hp}{s:Shared}(I:Inv X pins σ H s) (sb:Sub F H):∀{v:V}{d:D}{u:Value},Rep F v d->RelV v u->∃as,Reads s.heap u (toPy d) as
 | _,_,_,.cH,r=>by cases r;exact⟨[],.none⟩
 | _,_,_,.bl b,r=>by cases r;exact⟨[],.bool b⟩
 | _,_,_,.int i,r=>by obtain⟨t,rfl⟩:=r;exact⟨[],.int i t⟩
 | _,_,_,.str z,r=>by obtain⟨t,rfl⟩:=r;exact⟨[],.str z t⟩
 | _,_,_,.tup e rs,r=>by
  cases r
  obtain⟨its,rv,p⟩:=sb.isTup I e
  obtain⟨as,h⟩:=bw.pJ I sb rs rv
  obtain⟨o,ho,hc,n,hd⟩:=p
  exact⟨as,.tuple ho hc hd (by simpa using h)⟩
 | _,_,_,.lst e rs,r=>by
  cases r
  obtain⟨its,rv,p⟩:=sb.fj I e
  obtain⟨as,h⟩:=bw.pJ I sb rs rv
  obtain⟨o,ho,hc,n,hd⟩:=p
  exact⟨_ :: as,.list ho hc hd (by simpa using h)⟩
theorem bw.pJ {pins:List (Addr×Obj)}{σ:St}{F H:Hp}{s:Shared}(I:Inv X pins σ H s) (sb:Sub F H):∀{vs:List V}{ds:List D}{us:List Value},bw F vs ds->Vals vs us->∃as,ReadsAll s.heap us (gO ds) as
 | _,_,_,.nil,r=>by cases r;exact⟨[],.nil⟩
 | _,_,_,.cons q qs,r=>by
  cases r with
  | cons r rs=>
   obtain⟨as,h⟩:=Rep.pJ I sb q r
   obtain⟨bs,k⟩:=bw.pJ I sb qs rs
   exact⟨as++bs,.cons h k⟩
end
theorem jO (hg:X.A.guards=some []) (hu:X.A.units+64 < cLine):iG X (.builtin "repr") (rP kE):=by
 intro pins s σ H xs us Q I r ⟨F,ds,w,sb,rs,hw,q⟩
 obtain⟨x,d,rfl,rfl,r1⟩:=oz (P:=fun _=>True) rs hw rfl (fun d _ _=>rfl)
 obtain⟨hok,rfl⟩:=dF (show(if yE d then some (U.t (.str (toPy d).shown)) else none)=some w from hw)
 have fin:=q (.str (toPy d).shown) F H (iB.refl ..) sb (.str _)
 obtain⟨u,rfl,ru⟩:=vals1 r
 obtain⟨h1,h2,h3⟩:=hok
 have seq:∀a,x= .ref a->wpAny (model X.prog X.w) X.A (call (.builtin "repr") [u]) (EP X pins σ Q) X.xe s:=fun a e1=>by
  subst e1
  cases ru
  obtain⟨as,hr⟩:=Rep.pJ I sb r1 (u:=.ref a) rfl
  exact repr_of_reads' hr h1 (fun z=>by rw[qo] at z;cases z) hg (by omega) (fun _ _ e=>e) (fun h' u tk hk=>⟨.str _,H,I.kept (t':=tk) hk,⟨u,rfl⟩,fin⟩) h3
 cases r1 with
 | cH=>cases ru;exact PySem.P.repr_of_none ⟨.str _,H,I.tok _,⟨_,rfl⟩,fin⟩
 | bl b=>cases ru;exact PySem.P.repr_of_bool ⟨.str _,H,I.tok _,⟨_,rfl⟩,fin⟩
 | int i=>obtain⟨t,rfl⟩:=ru;exact PySem.P.repr_of_int (by simpa[toPy,PyData.showable] using h1) ⟨.str _,H,I.tok _,⟨_,rfl⟩,fin⟩
 | str z=>obtain⟨t,rfl⟩:=ru;exact PySem.P.repr_of_str ⟨.str _,H,I.tok _,⟨_,rfl⟩,fin⟩ h3
 | tup e rs=>exact seq _ rfl
 | lst e rs=>exact seq _ rfl
end
theorem gm {X : Cx} {x y : Str} {scope : Scope} {c : Addr} {i : Nat} (clos : closureFor scope X.env = pure [(y, c)]) (lP : ∀ z ∈ scope.names, z.2 ≠ .cell) (kind : scope.kind = .function) (names : ∀ z ∈ scope.names, z.2 = .local -> scope.names.lookup z.1 = some .local)
    (loc:scope.names.lookup x=some .local) (hc:X.env.cells.lookup y=some c) (only:∀z∈scope.names,z.2= .free->z.1=y) (ne:x≠y) (hN:X.N[i]? =some y) (vis:X.env.scope.names.lookup y=some .cell) (rel:(relabel scope X.env).names.lookup y=some .cell):
    iH X x [y] [i] scope [(y,c)]:=by
  have look:∀n c',([(y,c)]:List (Str×Addr)).lookup n=some c'->n=y/\c'=c:=fun n c' h=>by
    rw[List.lookup_cons] at h
    cases e:n == y with
    | true=>rw[e] at h;cases h;exact⟨eq_of_beq e,rfl⟩
    | false=>rw[e] at h;cases h
  have self:([(y,c)]:List (Str×Addr)).lookup y=some c:=by rw[List.lookup_cons,beq_self_eq_true]
  refine⟨clos,lP,kind,names,loc,fun n c' h=>?_,fun n h=>?_,?_,rfl,fun j n h=>?_,fun n h=>?_⟩
  . obtain⟨rfl,rfl⟩:=look n c' h
    exact hc
  . have key:n=y:=by
      have go:∀k,(k=NameKind.cell\/k=NameKind.free)->(relabel scope X.env).names.lookup n=some k->n=y:=fun k hk e=>by
        have m:=PySem.mem_of_lookup e
        unfold relabel at m
        obtain⟨⟨n',k'⟩,hm,q⟩:=List.mem_map.mp m
        by_cases hf:k'= .free
        . have h0:n'=y:=only _ hm hf
          have e1:n'=n:=by
            have h1:=congrArg Prod.fst q
            dsimp only at h1
            split at h1 <;> exact h1
          exact e1.symm.trans h0
        . have z:(k' == NameKind.free)=false:=by simpa using hf
          simp only[z,Bool.false_and] at q
          have q2:k'=k:=by
            have:=congrArg Prod.snd q
            simpa using this
          rcases hk with rfl | rfl
          . exact absurd q2 (lP _ hm)
          . exact absurd q2 hf
      rcases h with h | h
      . exact go _ (.inl rfl) h
      . exact go _ (.inr rfl) h
    subst key
    exact⟨c,self⟩
  . simp[ne]
  . cases j with
    | zero=>cases h;exact⟨i,rfl,hN,.inr (.inl vis)⟩
    | succ j=>simp at h
  . have e:n=y:=by simpa using h
    subst e
    exact⟨.inl rel,⟨c,self⟩,by rw[vis];decide⟩
section
variable {X:Cx}{a b c e:Expr}{es:List Expr}{pos p p2 px:Pos}{x y:Str}{f:FM}{fa:Addr}{fd:FuncData}{ps:List Str}{k n:Nat}
theorem jC (a:List D) (o:MO) (h:fj o=false):hAppend a o=none:=by
 cases o with
 | lst ds=>cases h
 | dct k=>unfold hAppend;split <;> first | rfl | (rename_i e;cases e)
 | mX k=>unfold hAppend;split <;> first | rfl | (rename_i e;cases e)
 | ins C k=>unfold hAppend;split <;> first | rfl | (rename_i e;cases e)
end
noncomputable def bC:List D->Option (List Int)
 | []=>some []
 | .int b :: ds=>(bC ds).map fun bs=>b :: bs
 | _=>none
theorem sr {F:Hp}:∀{vs:List V}{ds:List D}{bs:List Int},bw F vs ds->bC ds=some bs->vs=bs.map V.int
 | _,_,_,.nil,h=>by cases h;rfl
 | _,_,_,@bw.cons _ v d vs ds r rs,h=>by
  cases d <;> try (simp[bC] at h;done)
  obtain⟨bs,h1,h2⟩:=az (show(bC ds).map _=_ from h)
  subst h2
  rw[gF r,sr rs h1]
  rfl
section
variable {X:Cx}
end
section
variable {prog:Program}{w:World}{A:Around}{R:Result->Shared->Prop}{I:Addr}{fp wr:List Addr}{G:Array GenState->Array GenState->Prop}{n:Nat}{P:Nat->Value->Prop}{St:Nat->Shared->Prop}
end
section
variable {prog:Program}{w:World}{A:Around}{E:Value->Shared->Prop}{s:Shared}
end
section
variable {X:Cx}{a:Expr}{pos p p1 p2:Pos}{ga:GD}
end
section
variable {X:Cx}{a:Expr}{x:Str}{px pos:Pos}{ga:GD}
end
noncomputable def look:U->Option D
 | .t d=>some d
 | .m (.lst ds)=>some (.lst ds)
 | .b (.lst ds)=>some (.lst ds)
 | _=>none
section
variable {X:Cx}{x y:Str}{p px py pos:Pos}{f:List D->Option U}
end
section
variable (S:SS) (i:Nat) (g:GD)
end
section
variable {X:Cx}{a b c e:Expr}{es:List Expr}{pos p p2 px:Pos}{x y:Str}
noncomputable def LF:R2:=fun x y H Q=>∃l k xs,x= .ref l/\y= .int k/\Rd H l (.lst xs)/\-(2 ^ 63)<=k/\k < 2 ^ 63/\xs.length * k.toNat<=sizeLine/\
 ∀p,H p=none->Q (.ref p) (upd H p (.lst (List.replicate k.toNat xs).flatten))
theorem EW:tR X (binaryOp .Mult) LF:=by
 intro pins s σ H x y v u Q I rx ry h
 obtain⟨l,k,xs,rfl,rfl,hH,h1,h2,hz,q⟩:=h
 cases rx
 obtain⟨t,rfl⟩:=ry
 obtain⟨z,its,n,r,hl,e⟩:=hH.yR I
 have hlen:its.toArray.size * k.toNat<=sizeLine:=by rw[List.size_toArray,<-hl];exact hz
 have hcap:¬its.toArray.size * k.toNat > (2 ^ 63 - 1) / 8:=by
  have:(sizeLine:Nat)<=(2 ^ 63 - 1) / 8:=by decide
  omega
 have hfit:¬(!Builtin.List.listFitsIndex k)=true:=by
  rw[fitsIndex_both h1 h2]
  exact Bool.false_ne_true
 have CM:¬Builtin.List.listTooLong (its.toArray.size * k.toNat)=true:=by
  rw[wM hlen]
  exact Bool.false_ne_true
 have hnew:List.foldl (fun x1 x2=>x1++x2) #[] (List.replicate (if its.toArray.isEmpty=true then 0 else k.toNat) its.toArray)=(List.replicate k.toNat its).flatten.toArray:=by
  have f0:∀m:Nat,List.foldl (fun x1 x2=>x1++x2) #[] (List.replicate m its.toArray)=(List.replicate m its).flatten.toArray:=fun m=>by
   have:=foldl_rep its m []
   rw[List.nil_append] at this
   exact this
  rw[f0]
  cases its with
  | nil=>simp
  | cons a r'=>rw[if_neg (by simp)]
 refine wpAny_binaryOp_repeat_ref (T:="list") (U:="int") (by decide) ⟨_,e,rfl⟩ (fun s'=>typeIs_int s' k t) noFill_list_mul F.fills_int_mul F.slot_int_rmul repeat_list F.slot_int_index.lookup
  (call_meets F.slot_int_rmul (typeIs_int s k t) F.entry_int_rmul (F.args_int_rmul_2 _ _) (int___rmul___int_list k t l its.toArray n)
   ⟨e,rfl,⟨_,e,rfl⟩,call_meets F.slot_list_mul ⟨_,e,rfl⟩ F.entry_list_mul (F.args_list_mul_2 _ _) (AutoListH.list___mul___list_int_3 l its.toArray n k t hfit hcap CM) ⟨e,?_⟩⟩)
 rw[hnew]
 exact⟨.ref _,_,I.Lh (t':=s.toks) (r.rep k.toNat) (by rw[len_rep,Nat.mul_comm];exact hz),rfl,q _ I.fresh⟩
theorem bw.rep {F:Hp}{vs:List V}{ds:List D}(r:bw F vs ds):∀k:Nat,bw F (List.replicate k vs).flatten (List.replicate k ds).flatten
 | 0=>.nil
 | k+1=>by rw[List.replicate_succ,List.replicate_succ,List.flatten_cons,List.flatten_cons];exact r.append (bw.rep r k)
noncomputable def qL:List D->Option U
 | [.lst ds,.int k]=>if 0<=k/\k.toNat<=100000/\ds.length * k.toNat<=100000 then some (.m (.lst (List.replicate k.toNat ds).flatten)) else none
 | _=>none
theorem vA:wV X (binaryOp .Mult) qL:=by
 intro pins s σ H x y v u Q I rx ry ⟨F,ds,w,sb,rs,hw,q⟩
 obtain⟨d,e,rfl,r1,r2⟩:=rW rs
 cases d <;> cases e <;> try (simp[qL] at hw;done)
 rename_i ds k
 obtain⟨⟨h1,h2,h3⟩,rfl⟩:=dF hw
 obtain⟨a,vs,rfl,fa,ha,nI⟩:=sb.jJ r1
 have hy:=gF r2
 subst hy
 exact EW pins s σ H _ _ v u Q I rx ry ⟨a,k,vs,rfl,rfl,ha,by omega,by omega,by rw[nI.length];exact Nat.le_trans h3 (by decide),
  fun p hp=>q _ F _ (iB.obj hp _) (sb.same (iB.obj (F:=F) hp _).same) ⟨p,rfl,hp,sb.fresh hp,_,aL,nI.rep _⟩⟩
noncomputable def EX:List D->Option U
 | [.int i]=>some (.t (.int i))
 | [.bl k]=>some (.t (.int (if k then 1 else 0)))
 | _=>none
theorem Ba:iG X (.type "int") (rP EX):=by
 intro pins s σ H xs us Q I r ⟨F,ds,w,sb,rs,hw,q⟩
 obtain⟨x,d,rfl,rfl,r1⟩:=oz (P:=fun _=>True) rs hw rfl (fun d _ _=>by cases d <;> rfl)
 cases d <;> try (simp[EX] at hw;done)
 ·cases hw
  have hx:=vo r1
  subst hx
  exact uB pins s σ H _ us Q I r (.inr ⟨_,rfl,q _ F H (iB.refl ..) sb (.int _)⟩)
 ·cases hw
  have hx:=gF r1
  subst hx
  exact uB pins s σ H _ us Q I r (.inl ⟨_,rfl,q _ F H (iB.refl ..) sb (.int _)⟩)
noncomputable def xw:V->List V->Hp->VK->Prop:=fun x vs H Q=>∃l b xs zs,x= .ref l/\vs=[.ref b]/\H l=some (.lst xs)/\Rd H b (.lst zs)/\xs.length+zs.length<=sizeLine/\Q .cH (upd H l (.lst (xs++zs)))
theorem zb:OI X "list.extend" xw:=by
 intro pins s σ H x vs v us Q I rx rv h
 obtain⟨l,b,xs,zs,rfl,rfl,hH,hB,hz,q⟩:=h
 cases rx
 obtain⟨u,rfl,ru⟩:=rv.one
 cases ru
 obtain⟨z,its,n,r,hl,e⟩:=I.yR hH
 obtain⟨z2,its2,n2,r2,hl2,e2⟩:=hB.yR I
 have hsz:its.toArray.size+its2.toArray.size<=sizeLine:=by rw[List.size_toArray,List.size_toArray];omega
 have CM:¬(!its.toArray.isEmpty && Builtin.List.listTooLong (its.toArray.size+its2.toArray.size))=true:=by
  rw[wM hsz,Bool.and_false]
  exact Bool.false_ne_true
 refine call_meets F.slot_list_extend ⟨_,e,rfl⟩ F.entry_list_extend (F.args_list_extend_2 _ _)
  (AutoSeq1.list_extend_list_list_0 l its.toArray n b its2.toArray n2 CM (by rw[List.size_toArray];omega) (by omega)) ⟨e,e2,?_⟩
 refine⟨.cH,_,I.Lg (its':=its++its2) hH e (by simp) (r.append r2) ?_,rfl,q⟩
 rw[List.length_append]
 omega
noncomputable def j3:List D->MO->Option (D×MO)
 | [.lst es],.lst ds=>if ds.length+es.length<=100000 then some (.cH,.lst (ds++es)) else none
 | _,_=>none
theorem Bb:O9 xw j3:=by
 intro F H a vs xs ds args res o' sb hH fa rs rx hw Q q
 unfold j3 at hw
 split at hw
 ·rename_i es ds' e2
  cases e2
  obtain⟨hl,hw⟩:=dF hw
  cases hw
  cases rx with
  | cons r rr=>
   cases rr
   obtain⟨b,zs,rfl,fb,hb,CC⟩:=sb.jJ r
   exact⟨a,b,vs,zs,rfl,rfl,hH,hb,by rw[rs.length,CC.length];exact Nat.le_trans hl (by decide),q .cH _ .cH ⟨_,aL,rs.append CC⟩⟩
 ·cases hw
theorem Bc (a:List D) (o:MO) (h:fj o=false):j3 a o=none:=by
 cases o with
 | lst ds=>cases h
 | dct k=>unfold j3;split <;> first | rfl | (rename_i e;cases e)
 | mX k=>unfold j3;split <;> first | rfl | (rename_i e;cases e)
 | ins C k=>unfold j3;split <;> first | rfl | (rename_i e;cases e)
noncomputable def xx:D->Bool
 | .cH=>true
 | _=>false
noncomputable def EY (f:Int->Int->Int) (i:Nat) (g:GD):GS:=fun S=>match S[i]? with
 | some (some (.t (.int n)))=>(g S).bind fun p=>match p.1 with
  | .int m=>(mY i (.t (.int (f n m))) p.2).map .nx
  | _=>none
 | _=>none
theorem Ir {i:Nat}{pos':Pos}{op:Operator}{f:Int->Int->Int}{g:GD}(ho:Ot X op (SM f)) (hN:X.N.Nodup) (hi:X.N[i]? =some x) (hx:Loc X.env.scope x) (he:JD X e g)
  (hf:X.fn x=true\/X.env.scope.names.lookup x=some .local:=by first | exact .inl rfl | exact .inr rfl | assumption):JS X (.AugAssign (.Name x pos') op e pos) (EY f i g):=
 ⟨fun B=>(Hq hN hi hx (he.h B) ho hf).imp fun D σ H ⟨S,F,o,R,h,k⟩=>by
 unfold EY at h
 split at h
 ·rename_i n hS
  obtain⟨⟨d,S1⟩,h1,h⟩:=ah h
  dsimp only at h
  split at h
  ·rename_i m
   obtain⟨S2,h2,h⟩:=az h
   subst h
   obtain⟨v,k1,k2⟩:=R.rep i _ hS
   have hv:v= .int n:=gF k2
   subst hv
   refine⟨_,k1,S,F,_,S1,R,h1,fun y F1 H1 R1 st1 r1=>⟨n,m,rfl,gF r1,?_⟩⟩
   exact k _ F1 H1 (R1.put h2 (.int _)) st1.ext.le
  ·cases h
 ·cases h⟩
theorem ez {x : Str} {bB : List Str} {cap : List Nat} {scope : Scope} {cl : List (Str × Addr)} (clos : closureFor scope X.env = pure cl) (lP : ∀ z ∈ scope.names, z.2 ≠ .cell) (kind : scope.kind = .function) (names : ∀ z ∈ scope.names, z.2 = .local -> scope.names.lookup z.1 = some .local)
    (loc:scope.names.lookup x=some .local) (hc:cl.map (fun p=>X.env.cells.lookup p.1)=cl.map (fun p=>some p.2)) (only:∀z∈scope.names,z.2= .free->z.1∈bB) (hcl:cl.map (·.1)=bB.reverse\/cl.map (·.1)=bB) (nd:(x :: bB).Nodup)
    (slot:cap.map (fun i=>X.N[i]?)=bB.map some) (vis:bB.map (fun n=>X.env.scope.names.lookup n)=bB.map fun _=>some .cell) (rel:bB.map (fun n=>(relabel scope X.env).names.lookup n)=bB.map fun _=>some .cell):
    iH X x bB cap scope cl:=by
  have all:∀{α β:Type}{f g:α->β}{l:List α},l.map f=l.map g->∀a∈l,f a=g a:=fun {α β f g l} h=>by
    induction l with
    | nil=>intro a m;cases m
    | cons b r ih=>
      intro a m
      rw[List.map_cons,List.map_cons] at h
      injection h with h1 h2
      rcases List.mem_cons.mp m with z | z
      . rw[z];exact h1
      . exact ih h2 a z
  have LG:∀n,n∈bB->∃c,cl.lookup n=some c:=fun n hn=>lookup_some (hcl.elim (fun z=>by rw[z];exact List.mem_reverse.mpr hn) fun z=>by rw[z];exact hn)
  have len:cap.length=bB.length:=by have:=congrArg List.length slot;simpa using this
  refine⟨clos,lP,kind,names,loc,fun n c h=>all hc (n,c) (PySem.mem_of_lookup h),fun n h=>?_,nd,len,fun j n h=>?_,fun n h=>⟨.inl (all rel n h),LG n h,by rw[all vis n h];decide⟩⟩
  . refine LG n ?_
    have go:∀k,(k=NameKind.cell\/k=NameKind.free)->(relabel scope X.env).names.lookup n=some k->n∈bB:=fun k hk e=>by
      have m:=PySem.mem_of_lookup e
      unfold relabel at m
      obtain⟨⟨n',k'⟩,hm,q⟩:=List.mem_map.mp m
      by_cases hf:k'= .free
      . have h0:n'∈bB:=only _ hm hf
        have e1:n'=n:=by
          have h1:=congrArg Prod.fst q
          dsimp only at h1
          split at h1 <;> exact h1
        rw[<-e1]
        exact h0
      . have z:(k' == NameKind.free)=false:=by simpa using hf
        simp only[z,Bool.false_and] at q
        have q2:k'=k:=by
          have:=congrArg Prod.snd q
          simpa using this
        rcases hk with rfl | rfl
        . exact absurd q2 (lP _ hm)
        . exact absurd q2 hf
    rcases h with h | h
    . exact go _ (.inl rfl) h
    . exact go _ (.inr rfl) h
  . have e:=congrArg (fun l=>l[j]?) slot
    simp only[List.getElem?_map,h,Option.map_some] at e
    cases q:cap[j]? with
    | none=>rw[q] at e;cases e
    | some i=>
      rw[q] at e
      exact⟨i,rfl,Option.some.inj e,.inr (.inl (all vis n (List.mem_of_getElem? h)))⟩
end
open AutoSeq1 (wpAny_loadPart')
noncomputable def CN (k:Bool) (h:Heap) (a:Addr) (its:Array Value):Prop:=match k with
 | true=>h.IsList a its
 | false=>h.IsTuple a its
noncomputable def zc (k:Bool) (h:Heap) (it a:Addr) (i:Nat):Prop:=match k with
 | true=>h.IsListIter it a i
 | false=>h.IsTupleIter it a i
noncomputable def UD:Bool->String
 | true=>"list_iterator"
 | false=>"tuple_iterator"
noncomputable def Ka (k:Bool) (a:Addr):Obj:={cls:=.type (UD k),data:=.fields #[.ref a,.int 0 0]}
theorem CN.at {k:Bool}{h h':Heap}{a:Addr}{its:Array Value}(x:CN k h a its) (g:∀o,h.get? a=some o->h'.get? a=some o):CN k h' a its:=by
 cases k <;> exact let⟨o,ho,r⟩:=x;⟨o,g o ho,r⟩
theorem zc.at {k:Bool}{h h':Heap}{it a:Addr}{i:Nat}(x:zc k h it a i) (g:∀o,h.get? it=some o->h'.get? it=some o):zc k h' it a i:=by
 cases k <;> exact let⟨o,ho,r⟩:=x;⟨o,g o ho,r⟩
theorem zc.obj {k:Bool}{h:Heap}{it a:Addr}{i:Nat}(x:zc k h it a i):∃o,h.get? it=some o/\∀v,o.data≠.cell v:=by
 cases k <;> exact let⟨o,ho,_,r⟩:=x;⟨o,ho,fun v z=>by rw[r] at z;cases z⟩
theorem zc.new (k:Bool) (h:Heap) (a:Addr):zc k (h.push (Ka k a)) h.objs.size a 0:=by
 cases k <;> exact⟨_,Heap.get?_push_size _ rfl,rfl,rfl⟩
section
variable {prog:Program}{w:World}{A:Around}{E:Value->Shared->Prop}{s:Shared}
theorem EZ {ad t:Addr}{n:Nat}{vals:Array Value}{y:Value}{Q:Value->Shared->Prop}(st:s.heap.IsTupleIter ad t n) (hv:s.heap.IsTuple t vals) (hy:vals[n]? =some y)
  (q:∀h',h'.IsTupleIter ad t (n+1)->Heap.SameBut ad s.heap h'->Q y {s with heap:=h'}):wpAny (model prog w) A (Builtin.SmallTypes.nextOf (.ref ad)) Q E s:=by
 obtain⟨ob,hob,hcl,hdat⟩:=id st
 obtain⟨LH,Iu,_,nn,CO⟩:=hv
 unfold Builtin.SmallTypes.nextOf
 refine wpAny_bind (wpAny_callSpecial?_slot (name:=Str.ofString "__next__") st.typeIs F.slot_tuple_iterator_next (wpAny_call_entry F.slot_tuple_iterator_next st.typeIs F.entry_tuple_iterator_next ?_ (F.args_tuple_iterator_next_1 _)))
 show wpAny _ _ (field (.ref ad) 0 >>= _) _ _ s
 refine wpAny_bind (wpAny_field hob hdat (x:=.ref t) rfl ?_)
 show wpAny _ _ (if(Value.ref t == Value.none)=true then _ else _) _ _ s;rw[if_neg (show ¬((Value.ref t == Value.none)=true) from Bool.false_ne_true)]
 show wpAny _ _ (field (.ref ad) 1 >>= _) _ _ s
 refine wpAny_bind (wpAny_field hob hdat (x:=.int n 0) rfl ?_)
 show wpAny _ _ (seqItems? (.ref t) >>= _) _ _ s;refine wpAny_bind (wpAny_seqItems Iu CO ?_)
 simp only[Int.toNat_natCast,hy]
 refine wpAny_bind (wpAny_setField hob hdat (by simp) (wpAny_pure ⟨y,rfl,wpAny_pure (q _ ?_ (Heap.SameBut.update ..))⟩))
 exact⟨_,Heap.get?_update_self _ hob (Obj.isFreed_of_fields (Obj.data_mapFields hdat _)),(Obj.cls_mapFields ..).trans hcl,by rw[Obj.data_mapFields hdat];simp[rawInt]⟩
theorem Iv {ad t:Addr}{n:Nat}{vals:Array Value}{Q:Value->Shared->Prop}(hn:A.handled=none) (st:s.heap.IsTupleIter ad t n) (hv:s.heap.IsTuple t vals) (hy:vals[n]? =none)
  (q:∀h' e,Heap.ExtBut ad s.heap h'->(∃o,h'.get? e=some o/\o.cls= .type "StopIteration")->E (.ref e) {s with heap:=h'}):wpAny (model prog w) A (Builtin.SmallTypes.nextOf (.ref ad)) Q E s:=by
 obtain⟨ob,hob,hcl,hdat⟩:=id st
 obtain⟨LH,Iu,_,nn,CO⟩:=hv
 unfold Builtin.SmallTypes.nextOf
 refine wpAny_bind (wpAny_callSpecial?_slot (name:=Str.ofString "__next__") st.typeIs F.slot_tuple_iterator_next (wpAny_call_entry F.slot_tuple_iterator_next st.typeIs F.entry_tuple_iterator_next ?_ (F.args_tuple_iterator_next_1 _)))
 show wpAny _ _ (field (.ref ad) 0 >>= _) _ _ s
 refine wpAny_bind (wpAny_field hob hdat (x:=.ref t) rfl ?_)
 show wpAny _ _ (if(Value.ref t == Value.none)=true then _ else _) _ _ s;rw[if_neg (show ¬((Value.ref t == Value.none)=true) from Bool.false_ne_true)]
 show wpAny _ _ (field (.ref ad) 1 >>= _) _ _ s
 refine wpAny_bind (wpAny_field hob hdat (x:=.int n 0) rfl ?_)
 show wpAny _ _ (seqItems? (.ref t) >>= _) _ _ s;refine wpAny_bind (wpAny_seqItems Iu CO ?_)
 simp only[Int.toNat_natCast,hy]
 refine wpAny_bind (wpAny_rule (wpAny_bind (wpAny_setField hob hdat (by simp) ?_)))
 show wpAny _ _ (newExc (.type "StopIteration") [] >>= _) _ _ _;refine wpAny_bind ?_;simp only[newExc,newTuple]
 refine wpAny_bind (wpAny_newObj_type ?_ (by size_fits));refine wpAny_bind (m:=firstArgMember _ _) (wpAny_of_eq (a:=Value.none) (by first | rfl | (simp only[firstArgMember];rfl)) ?_)
 refine wpAny_newObj_type ?_ (by size_fits);simp only[raiseNew];refine wpAny_bind (wpAny_handled ?_)
 first | rw[show A.in1.handled=none from hn] | rw[hn]
 refine wpAny_bind (wpAny_pure (wpAny_throw ?_));exact q _ _ (((Heap.SameBut.update ..).extBut.push _).push _) ⟨_,Heap.get?_push_size _ rfl,rfl⟩
theorem nextK {k:Bool}{ad t:Addr}{n:Nat}{vals:Array Value}{y:Value}{Q:Value->Shared->Prop}(st:zc k s.heap ad t n) (hv:CN k s.heap t vals) (hy:vals[n]? =some y)
  (q:∀h',zc k h' ad t (n+1)->Heap.SameBut ad s.heap h'->Q y {s with heap:=h'}):wpAny (model prog w) A (Builtin.SmallTypes.nextOf (.ref ad)) Q E s:=by
 cases k with
 | true=>exact wpAny_nextOf_list_item st hv hy q
 | false=>exact EZ st hv hy q
theorem LI {k:Bool}{ad t:Addr}{n:Nat}{vals:Array Value}{Q:Value->Shared->Prop}(hn:A.handled=none) (st:zc k s.heap ad t n) (hv:CN k s.heap t vals) (hy:vals[n]? =none)
  (q:∀h' e,Heap.ExtBut ad s.heap h'->(∃o,h'.get? e=some o/\o.cls= .type "StopIteration")->E (.ref e) {s with heap:=h'}):wpAny (model prog w) A (Builtin.SmallTypes.nextOf (.ref ad)) Q E s:=by
 cases k with
 | true=>exact wpAny_nextOf_list_end hn st hv hy q
 | false=>exact Iv hn st hv hy q
theorem Iw {k:Bool}(hn:A.handled=none) (ad t:Addr) (hne:t≠ad) (vals:Array Value):Draws prog w A ad [ad,t] vals.size (fun i v=>vals[i]? =some v) (fun i h=>zc k h ad t i/\CN k h t vals) where
 live:=fun _ _ st=>let⟨o,ho,_⟩:=st.1.obj;⟨o,ho⟩
 frame:=fun _ _ _ st hk=>⟨st.1.at fun o e=>hk ad (by simp) o e,st.2.at fun o e=>hk t (by simp) o e⟩
 item:=fun i s Q E hi st hQ=>nextK st.1 st.2 (y:=vals[i]) (by simp[hi]) fun h' Iz hs'=>hQ _ h' s.toks (by simp[hi]) ⟨Iz,st.2.at fun o e=>hs'.extBut _ _ hne e⟩ hs'
 done:=fun s Q E st hE=>LI hn st.1 st.2 (by simp) hE
end
theorem CP (l:Addr) (vals:Array Value) (n:Nat) (dct:Option Addr) (sl:Array (Option Value)):
  Meets (Builtin.«enumerate.__new__» ⟨[.type "enumerate",.ref l],[]⟩) (fun _ R s=>s.heap.get? l=some {cls:=.type "tuple",dict:=dct,data:=.seq vals n,slots:=sl}/\
   R (.ok (.ret (.ref (s.heap.push (Ka false l)).objs.size))) {s with heap:=(s.heap.push (Ka false l)).push {cls:=.type "enumerate",data:=.fields #[.none,.bool false,.ref s.heap.objs.size,rawInt 0,.none,.none]}}):=
 .of_wp fun prog w A R s h=>by
  obtain⟨hp,g,d,tk,os⟩:=s;obtain⟨hl,h⟩:=h
  have hsub:=sub_enumerate
  have hT:Heap.IsTuple (Shared.heap ⟨hp,g,d,tk,os⟩) l vals:=⟨_,hl,rfl,n,rfl⟩
  wp_walk using wpAny_loadPart' hl
  refine wpAny_stack_any fun st=>wpAny_pure ?_
  split
  ·rename_i c _ _ _ _ _
   cases(c == Value.type "enumerate")
   ·wp_walk using wpAny_loadPart' hl,wpAny_pyIter_tuple hT;exact⟨_,rfl,h⟩
   ·wp_walk using wpAny_loadPart' hl,wpAny_pyIter_tuple hT;exact⟨_,rfl,h⟩
  ·wp_walk using wpAny_loadPart' hl,wpAny_pyIter_tuple hT;exact⟨_,rfl,h⟩
section
variable {prog:Program}{w:World}{A:Around}{E:Value->Shared->Prop}{s:Shared}
theorem zd {k:Bool}{l:Addr}{vals:Array Value}{Q:Value->Shared->Prop}(hL:CN k s.heap l vals)
  (h:∀h',IsEnum h' (s.heap.objs.size+1) s.heap.objs.size 0 .none->zc k h' s.heap.objs.size l 0->(∀b o,s.heap.get? b=some o->h'.get? b=some o)->Q (.ref (s.heap.objs.size+1)) {s with heap:=h'}):
  wpAny (model prog w) A (call (.type "enumerate") [.ref l]) Q E s:=by
 cases k with
 | true=>exact call_enumerate_list hL fun h' a b _ c=>h h' a b c
 | false=>
  obtain⟨⟨c,dct,dt,sl⟩,hl,hc,n,hd⟩:=hL
  have hc:c= .type "tuple":=hc
  have hd:dt= .seq vals n:=hd
  subst hc hd
  refine callType_new F.called_enumerate (by decide) (F.typeCall_enumerate_1 _) (F.newCall_enumerate_1 _) (fun obj=>F.args_object_init_2 obj _) F.entry_enumerate_new (CP l vals n dct sl) ⟨hl,?_⟩
  have hz:(s.heap.push (Ka false l)).objs.size=s.heap.objs.size+1:=Heap.size_push ..
  show _/\_
  rw[hz]
  have he:IsEnum ((s.heap.push (Ka false l)).push {cls:=.type "enumerate",data:=.fields #[.none,.bool false,.ref s.heap.objs.size,rawInt 0,.none,.none]}) (s.heap.objs.size+1) s.heap.objs.size 0 .none:=by
   have:=Heap.get?_push_size (s.heap.push (Ka false l)) (o:={cls:=.type "enumerate",data:=.fields #[.none,.bool false,.ref s.heap.objs.size,rawInt 0,.none,.none]}) rfl
   rw[hz] at this;exact this
  exact⟨⟨_,he,rfl⟩,h _ he ((zc.new false s.heap l).at fun o e=>Heap.get?_push_of_some _ e) fun b o x=>Heap.get?_push_of_some _ (Heap.get?_push_of_some _ x)⟩
end
theorem IA {prog:Program}{w:World}{A:Around}{k:Bool}(hn:A.handled=none) (ad t:Addr) (vals:Array Value) (n:Nat) (he:vals[n]? =none):Draws prog w A ad [ad,t] n (fun _ _=>True) (fun i h=>zc k h ad t i/\CN k h t vals/\i=n) where
 live:=fun _ _ st=>let⟨o,ho,_⟩:=st.1.obj;⟨o,ho⟩
 frame:=fun _ _ _ st hk=>⟨st.1.at fun o e=>hk ad (by simp) o e,st.2.1.at fun o e=>hk t (by simp) o e,st.2.2⟩
 item:=fun i s Q E hi st hQ=>absurd hi (by rw[st.2.2];exact Nat.lt_irrefl _)
 done:=fun s Q E st hE=>LI hn st.1 st.2.1 he hE
noncomputable def GQ (K:PySem.W.Frag) (H:Hp) (k:Bool) (a:Addr) (xs:List V):Prop:=match k with
 | true=>nB K H a xs
 | false=>u6 K H a xs
section
variable {X:Cx}{pins:List (Addr×Obj)}{σ:St}{H:Hp}{s:Shared}
theorem Inv.Pk (I:Inv X pins σ H s){k:Bool}{a:Addr}{xs:List V}(h:GQ X.K H k a xs):∃its:List Value,Vals xs its/\CN k s.heap a its.toArray/\xs.length<=sizeLine:=by
 cases k with
 | true=>obtain⟨its,r,p,z⟩:=I.list h;exact⟨its,r,p.isList,z⟩
 | false=>obtain⟨its,r,p,z⟩:=I.tuple h;exact⟨its,r,p,z⟩
theorem Inv.E1 (I:Inv X pins σ H s){k:Bool}{a:Addr}{xs ys:List V}(h:GQ X.K H k a xs) (h':GQ X.K H k a ys):xs=ys:=by
 cases k with
 | true=>exact I.wF h h'
 | false=>exact I.uA h h'
theorem Inv.Af {t':Nat}{h':Heap}{fp:List Addr}(I:Inv X pins σ H s) (k:∀b o,b∉fp->s.heap.get? b=some o->h'.get? b=some o) (hf:∀b∈fp,lE X pins H b):Inv X pins σ H {s with heap:=h',toks:=t'}:=by
 have KC:∀b u,H b=some u->b∉fp:=fun b u e z=>by rw[(hf b z).1] at e;cases e
 refine I.step (g':=s.gens) (d':=s.drawn) (ch:=fp) (fun b hb=>?_) (fun b o _ _ hc e _=>k b o hc e) (fun b o _ _ hc e _=>⟨o.slots,k b o hc e⟩) (fun _ _ _ _ n=>n)
  (fun b o hc e=>⟨o,k b o hc e⟩) (fun _ _ e=>e) (fun _ _ _ e=>e) (fun b ps e=>⟨#[],by rw[e];simp⟩) (fun m hm=>?_) (fun b u e=>?_) I.bare
 ·obtain⟨_,f1,_,f3,f4,f5⟩:=hf b hb
  exact⟨f3,f1,f4,f5⟩
 ·obtain⟨o,es,ep,ho,r⟩:=hm
  exact⟨o,es,ep,k _ o (fun z=>(hf _ z).2.1 rfl) ho,r⟩
 ·refine(I.hok b u e).stay (fun c v hc q=>k c v ?_ q) (fun _ q=>q) fun _ _ q=>q
  rcases hc with z | z
  ·rw[z];exact KC b u e
  ·exact KC c _ z
theorem Inv.handed {t':Nat}{h':Heap}{fp:List Addr}{xs:List V}{its:List Value}(I:Inv X pins σ H s) (hf:∀b∈fp,lE X pins H b) (hlt:∀b∈fp,b < s.heap.objs.size) (k:∀b o,b∉fp->s.heap.get? b=some o->h'.get? b=some o)
  (ht:h'.get? s.heap.objs.size=some {cls:=.type "tuple",data:=.seq its.toArray}) (hv:Vals xs its) (hz:xs.length<=sizeLine):Inv X pins σ (upd H s.heap.objs.size (.tup xs)) {s with heap:=h',toks:=t'}:=by
 have I1:Inv X pins σ (upd H s.heap.objs.size (.tup xs)) {s with heap:=s.heap.push {cls:=.type "tuple",data:=.seq its.toArray},toks:=t'}:=
  I.laid (fun _ _ q=>Heap.get?_push_of_some _ q) (Nat.le_refl _) ⟨hz,its,hv,IsTup.new s.heap _⟩
 refine Inv.Af (s:={s with heap:=s.heap.push {cls:=.type "tuple",data:=.seq its.toArray},toks:=t'}) (t':=t') (fp:=fp) I1 (fun b o hb e=>?_) fun b hb=>?_
 ·rcases Heap.get?_push_cases (show(s.heap.push {cls:=.type "tuple",data:=.seq its.toArray}).get? b=some o from e) with⟨z1,z2⟩ | z
  ·rw[z1,z2];exact ht
  ·exact k b o hb z
 ·obtain⟨f0,f1,f2,f3,f4,f5⟩:=hf b hb
  exact⟨by rw[aE (Nat.ne_of_lt (hlt b hb))];exact f0,f1,f2,f3,f4,f5⟩
end
noncomputable def S7 (K:PySem.W.Frag) (k:Bool) (a:Addr):It:=
 ⟨fun i H=>∃xs x,GQ K H k a xs/\xs[i]? =some x,fun i H x H'=>∃p y,H p=none/\x= .ref p/\H'=upd H p (.tup [.int i,y])/\∀xs,GQ K H k a xs->xs[i]? =some y,fun i H=>∃xs,GQ K H k a xs/\xs.length<=i⟩
theorem Bd {P : Program} {w : World} {K : PySem.W.Frag} {elts : List Expr} {j : Nat} {pos : Pos} (k : Bool) (a it e : Addr) (hai : a ≠ it) (UE : e ≠ a) (hei : e ≠ it) : Turn P w K (.Tuple elts j pos) (S7 K k a) [e, it] e (fun i h => (∃ old, IsEnum h e it (i : Int) old) /\ zc k h it a i) where
  mem:=by simp
  obj := fun i h ⟨⟨old, he⟩, st⟩ b hb => by
    rcases List.mem_cons.mp hb with z | z
    . subst z;exact⟨_,he,fun v z=>by cases z⟩
    . have z:b=it:=by simpa using z
      subst z
      exact st.obj
  keep:=fun i h h' ⟨⟨old,he⟩,st⟩ g=>⟨⟨old,g e (by simp) _ he⟩,st.at fun o q=>g it (by simp) o q⟩
  item:=by
    intro X hP hw hK hc i pins s σ H E I hf st hg
    subst hP hw hK
    obtain⟨xs,x,hq,hx⟩:=hg
    obtain⟨its,rv,p,hz⟩:=I.Pk hq
    obtain⟨u,hu,ru⟩:=rv.get hx
    obtain⟨⟨old,he⟩,hit⟩:=st
    have hsz:i < its.toArray.size:=by rw[List.size_toArray];exact(List.getElem?_eq_some_iff.mp hu).1
    refine wpAny_pyNext_enum_itemD (Iw (k:=k) (A:=X.A.in1) (I.ok.hd hc) it a hai its.toArray) he ⟨hit,p⟩ hsz hei (by simp[UE,hei]) fun y h' tk hy ho hs' hT WO hk=>?_
    obtain⟨Iz,p'⟩:=hs'
    have ey:y=u:=by
      have h1:its.toArray[i]? =some u:=by simpa using hu
      rw[h1] at hy;exact(Option.some.inj hy).symm
    subst ey
    refine⟨_,rfl,wpAny_letOwnedTupleGo_enum ho fun h2 UG hs2=>?_⟩
    have hs2:Heap.SameBut e h' h2:=hs2
    have elt:e < s.heap.objs.size:=Heap.lt_size he
    obtain⟨oi,UH,_⟩:=hit.obj
    have UI:it < s.heap.objs.size:=Heap.lt_size UH
    have LJ:∀b∈[e,it],b < s.heap.objs.size:=fun b hb=>by
      rcases List.mem_cons.mp hb with z | z
      . rw[z];exact elt
      . rw[show b=it by simpa using z];exact UI
    have I2:Inv X pins σ (upd H s.heap.objs.size (.tup [.int i,x])) {s with heap:=h2,toks:=tk+1}:=
      I.handed (its:=[.int i tk,y]) hf LJ (fun b o hb q=>(hs2.2 b fun z=>hb (by simp[z])).trans (hk b o (fun z=>hb (by simp[z])) (fun z=>hb (by simp[z])) q))
        ((hs2.2 _ (Nat.ne_of_gt elt)).trans hT) (.cons ⟨tk,rfl⟩ (.cons ru .nil)) (show 2<=sizeLine by decide)
    refine⟨.ref s.heap.objs.size,_,I2,rfl,⟨_,x,I.fresh,rfl,rfl,fun ys UJ=>by rw[I.E1 UJ hq];exact hx⟩,⟨⟨y,by simpa using UG⟩,Iz.at fun o q=>(hs2.2 _ (Ne.symm hei)).trans q⟩,fun b hb=>?_⟩
    rw[aE (Nat.ne_of_lt (LJ b hb))]
    exact(hf b hb).1
  done:=by
    intro X hP hw hK hc i pins s σ H E I hf st hg
    subst hP hw hK
    obtain⟨xs,hq,hx⟩:=hg
    obtain⟨its,rv,p,hz⟩:=I.Pk hq
    obtain⟨⟨old,he⟩,hit⟩:=st
    have hl:=rv.length
    refine wpAny_pyNext_enum_endD (n:=i) (IA (k:=k) (A:=X.A.in1) (I.ok.hd hc) it a its.toArray i (by simp;omega)) he ⟨hit,p,rfl⟩ fun h' hx=>?_
    exact⟨rfl,I.Af (t':=s.toks) (fun b o hb q=>hx b o (fun z=>hb (by simp[z])) q) hf⟩
  self:=fun _ _ _ _ _ st h=>by
    obtain⟨⟨old,he⟩,_⟩:=st
    exact wpAny_pyIter_enum he h
section
variable {prog:Program}{w:World}{A:Around}{E:Value->Shared->Prop}{s:Shared}
end
section
variable {X:Cx}{a b c e:Expr}{body elts:List Expr}{pos p tpos:Pos}{jt:Nat}
theorem CN.lt {k:Bool}{h:Heap}{a:Addr}{its:Array Value}(x:CN k h a its):a < h.objs.size:=by
 cases k <;> exact let⟨o,ho,_⟩:=x;Heap.lt_size ho
noncomputable def LK (K:PySem.W.Frag) (ta:TA):TI:=fun σ H R=>ta σ H fun vs H1=>∃k a xs,vs=[.ref a]/\GQ K H1 k a xs/\R (S7 K k a) H1
theorem E2 {ta:TA}(hg:Gl X "enumerate") (hm:X.mg "enumerate" =none) (ha:PA X [a] ta) (hs:starEach [a] X.env=[(false,eval a X.env)]:=by rfl):PI X (.Tuple elts jt tpos) (.Call (.Name "enumerate" p) [a] [] pos) (LK X.K ta):=by
 intro pins s σ H R I h
 refine Call_ (rK I hg hm boot_enumerate (PyProof.Rows.callWith_type1 (fM (ha pos pins s σ H _ I h) fun us s1 ⟨vs,H1,I1,r1,q1⟩=>?_) hs rfl))
 obtain⟨k,a,xs,rfl,hq,q⟩:=q1
 cases r1 with
 | cons r rr=>
  cases rr
  cases r
  obtain⟨its,rv,p,hz⟩:=I1.Pk hq
  refine zd p fun h' he hit hk=>wpAny_pyIter_enum he ?_
  have lt:=p.lt
  refine⟨s1.heap.objs.size+1,[s1.heap.objs.size+1,s1.heap.objs.size],_,_,H1,rfl,I1.kept (t':=s1.toks) hk,Bd k a s1.heap.objs.size (s1.heap.objs.size+1) (Nat.ne_of_lt lt) (Nat.ne_of_gt (Nat.lt_succ_of_lt lt)) (Nat.succ_ne_self _),⟨⟨.none,he⟩,hit⟩,fun b hb=>?_,q⟩
  have hb:s1.heap.objs.size<=b:=by
   rcases List.mem_cons.mp hb with z | z
   ·rw[z];exact Nat.le_succ _
   ·rw[show b=s1.heap.objs.size by simpa using z];exact Nat.le_refl _
  exact I1.yG hb (I1.hok.fresh hb)
noncomputable def WalkN (J:It) (F:Hp) (ds:List D):Prop:=∀F' H',(∀b o,F b=some o->F' b=some o)->Sub F' H'->∀i,(∀d,ds[i]? =some d->J.go i H'/\∀x H2,J.J5 i H' x H2->∃F2,iB F' H' F2 H2/\Sub F2 H2/\Rep F2 x d)/\(ds.length<=i->J.stop i H')
noncomputable def LL (K:PySem.W.Frag) (B:Base) (gi:GI):TI:=fun σ H R=>∃S F ds S',Rel K B S σ F H/\gi S=some (ds,S')/\∀J F' H',Rel K B S' σ F' H'->Step S S' σ F H F' H'->WalkN J F' ds->R J H'
structure Nj (X:Cx) (tg e:Expr) (gi:GI):Prop where
 h:∀B,PI X tg e (LL X.K B gi)
noncomputable def CQ:D->Option (Bool×List D)
 | .lst ds=>some (true,ds)
 | .tup ds=>some (false,ds)
 | _=>none
theorem Sub.LM {K:PySem.W.Frag}{F H:Hp}{v:V}{d:D}{k:Bool}{ds:List D}(sb:Sub F H) (r:Rep F v d) (e:CQ d=some (k,ds)):
  ∃a vs,v= .ref a/\bw F vs ds/\∀F' H',(∀b o,F b=some o->F' b=some o)->Sub F' H'->GQ K H' k a vs:=by
 cases d <;> try (cases e;done)
 ·cases e
  obtain⟨a,vs,rfl,fa,ha,rs⟩:=sb.jZ r
  exact⟨a,vs,rfl,rs,fun F' H' le sb'=>.inl (Rd.of (sb' a _ (le _ _ fa)))⟩
 ·cases e
  obtain⟨a,vs,rfl,fa,ha,rs⟩:=sb.jJ r
  exact⟨a,vs,rfl,rs,fun F' H' le sb'=>.inl (Rd.of (sb' a _ (le _ _ fa)))⟩
noncomputable def jm (ds:List D):List D:=ds.mapIdx fun i d=>.tup [.int i,d]
noncomputable def ng (gA:GA):GI:=fun S=>(gA S).bind fun p=>match p.1 with
 | [d]=>(CQ d).map fun q=>(jm q.2,p.2)
 | _=>none
theorem vB {gA:GA}(hg:Gl X "enumerate") (hm:X.mg "enumerate" =none) (ha:JA X [a] gA) (hs:starEach [a] X.env=[(false,eval a X.env)]:=by rfl):Nj X (.Tuple elts jt tpos) (.Call (.Name "enumerate" p) [a] [] pos) (ng gA):=
 ⟨fun B=>PI.orelse fun σ H R0 ⟨S,F,ds,S',R,hg',k⟩=>by
 obtain⟨⟨args,S1⟩,h1,hg'⟩:=ah hg'
 refine⟨_,E2 hg hm (ha.h B) hs,S,F,args,S1,R,h1,fun vs F1 H1 R1 st1 r1=>?_⟩
 dsimp only at hg'
 split at hg'
 ·obtain⟨⟨kk,es⟩,h2,hg'⟩:=az hg'
  cases hg'
  cases r1 with
  | cons r rr=>
   cases rr
   obtain⟨a,ws,rfl,rs,sq⟩:=R1.sub.LM (K:=X.K) r h2
   refine⟨kk,a,ws,rfl,sq F1 H1 (fun _ _ z=>z) R1.sub,k _ F1 H1 R1 st1 fun F' H' le sb i=>⟨fun d hd=>?_,fun hl=>⟨ws,sq F' H' le sb,by rw[rs.length];simpa[jm] using hl⟩⟩⟩
   unfold jm at hd
   rw[List.getElem?_mapIdx] at hd
   obtain⟨d0,hd0,rfl⟩:=az hd
   obtain⟨v,k1,k2⟩:=rs.get hd0
   refine⟨⟨ws,v,sq F' H' le sb,k1⟩,fun x H2 y=>?_⟩
   obtain⟨p,y,hp,rfl,rfl,hy⟩:=y
   have ey:=hy ws (sq F' H' le sb)
   rw[k1] at ey
   cases ey
   exact⟨_,iB.root sb hp _,sb.vm hp,.tup aL (.cons (.int _) (.cons (k2.le fun b o z=>nG (sb.fresh hp) b o (le b o z)) .nil))⟩
 ·cases hg'⟩
theorem E3 {tg iter:Expr}{stmts:List Stmt}{s1:GS}{bd:GB}{gi:GI}(hp:PassesOwn (model X.prog X.w) X.A X.env X.xe) (hc:X.calm=true) (hi:Nj X tg iter gi) (hg:JG X tg bd) (hb:JB X stmts s1) (hs:∀x,foldedSetIterable iter X.env x=pure x:=by intro _;rfl):
  JS X (.For tg iter stmts [] pos) (iA bd gi s1):=⟨fun B=>(yK hp hc (hi.h B) (hg.h B) (hb.h B) hs).imp fun D σ H ⟨S,F,o,R,h,k⟩=>by
 obtain⟨⟨ds,S1⟩,h1,h⟩:=ah h
 refine⟨S,F,ds,S1,R,h1,fun J F1 H1 R1 st1 w=>?_⟩
 refine⟨fun i m σ' H'=>∃S' F',Rel X.K B S' σ' F' H'/\(∀b o,F1 b=some o->F' b=some o)/\i<=ds.length/\m=ds.length - i/\loop bd s1 (ds.drop i) S'=some o,⟨_,S1,F1,R1,fun _ _ z=>z,Nat.zero_le _,rfl,h⟩,?_⟩
 rintro i m σ' H' ⟨S',F',R',le,hl,rfl,eO⟩
 have w':=w F' H' le R'.sub i
 by_cases hlt:i < ds.length
 ·have hd:ds[i]? =some ds[i]:=List.getElem?_eq_getElem hlt
  obtain⟨go,yl⟩:=w'.1 _ hd
  rw[List.drop_eq_getElem_cons hlt] at eO
  obtain⟨S2,e2,eO⟩:=ah eO
  obtain⟨o2,e3,eO⟩:=ah eO
  refine .inr ⟨go,_,fun σ2 H2 n=>⟨ds.length - (i+1),by omega,n⟩,fun x H2 y=>?_⟩
  obtain⟨F2,nw,Pn,rx⟩:=yl x H2 y
  have R2:=R'.new nw Pn
  have le:∀b o,F1 b=some o->F2 b=some o:=fun b o z=>nw.le b o (le b o z)
  refine⟨S',F2,_,S2,R2,rx,e2,fun σ3 R3=>⟨S2,F2,o2,R3,e3,?_⟩⟩
  cases o2 with
  | nx S3=>exact fun wg F4 H4 R4 qK=>⟨S3,F4,R4,fun b o z=>qK b o (le b o z),hlt,rfl,eO⟩
  | ct S3=>exact fun wg F4 H4 R4 qK=>⟨S3,F4,R4,fun b o z=>qK b o (le b o z),hlt,rfl,eO⟩
  | bk S3=>cases eO;exact fun wg F4 H4 R4 qK=>k wg F4 H4 R4 fun b o z=>qK b o (le b o (st1.ext.le b o z))
  | rt u S3=>cases eO;exact fun v wg F4 H4 R4 qK=>k v wg F4 H4 R4 fun b o z=>qK b o (le b o (st1.ext.le b o z))
 ·have e:i=ds.length:=by omega
  subst e
  rw[List.drop_length] at eO
  cases eO
  exact .inl ⟨w'.2 (Nat.le_refl _),k σ' F' H' R' fun b o z=>le b o (st1.ext.le b o z)⟩⟩
end
section
variable {X:Cx}{a b c e:Expr}{x y:Str}{p px py pos pos' tpos:Pos}{f:List D->Option U}{gb:GD}
end
noncomputable def Ag:GE:=fun S=>some (.m (.mX []),S)
noncomputable def nh:GE:=fun S=>some (.m (.dct []),S)
section
variable {X:Cx}{a b c e k:Expr}{x y:Str}{p px py pos pos' tpos apos cpos:Pos}{gk:GD}
theorem Ah:JE X (.Dict [] [] pos) Ag:=⟨fun B=>Cc.imp fun σ H Q ⟨S,F,u,S',R,hg,q⟩=>by
 cases hg
 intro p hp
 have n:=iB.obj (F:=F) hp (.dT [])
 have hn:¬cy S σ p:=fun m=>by obtain⟨o,ho⟩:=R.has m;rw[hp] at ho;cases ho
 exact q (.ref p) F _ (R.new n (R.sub.same n.same)) n.step ⟨p,rfl,hp,R.sub.fresh hp,⟨[],aL,.nil⟩,hn,none_of R.ext.there hp⟩⟩
theorem vC:JE X (.Dict [] [] pos) nh:=⟨fun B=>Cb.imp fun σ H Q ⟨S,F,u,S',R,hg,q⟩=>by
 cases hg
 intro p hp
 have n:=iB.obj (F:=F) hp (.dK [])
 have hn:¬cy S σ p:=fun m=>by obtain⟨o,ho⟩:=R.has m;rw[hp] at ho;cases ho
 exact q (.ref p) F _ (R.new n (R.sub.same n.same)) n.step ⟨p,rfl,hp,R.sub.fresh hp,⟨[],aL,.nil⟩,hn,none_of R.ext.there hp⟩⟩
noncomputable def vD:U->D->Option Bool
 | .m (.dct kvs),k=>(keyOf k).map fun kk=>(aV kvs kk).isSome
 | .b (.dct kvs),k=>(keyOf k).map fun kk=>(aV kvs kk).isSome
 | .m (.mX kvs),k=>(j9 k).map fun kk=>(aV kvs kk).isSome
 | .b (.mX kvs),k=>(j9 k).map fun kk=>(aV kvs kk).isSome
 | _,_=>none
noncomputable def pK (n:Bool) (i:Nat) (g:GD):GD:=fun S=>(g S).bind fun p=>match p.2[i]? with
 | some (some u)=>(vD u p.1).map fun h=>(.bl (n != h),p.2)
 | _=>none
theorem oB {κ:Type} [DecidableEq κ] {F:Hp}{ws:List (κ×V)}{kvs:List (κ×D)}(pr:Paired (jf F) ws kvs) (k:κ):(lF ws k).isSome=(aV kvs k).isSome:=by
 cases e:aV kvs k with
 | none=>rw[kD pr e];rfl
 | some d=>obtain⟨v,h,_⟩:=iQ pr e;rw[h];rfl
theorem E4 {K:PySem.W.Frag}{F H:Hp}{v w:V}{u:U}{d:D}{h:Bool}(sb:Sub F H) (r:rT K F H v u) (rk:Rep F w d) (e:vD u d=some h):∃a o,v= .ref a/\iz H a w o/\o.isSome=h:=by
 unfold vD at e
 split at e
 ·obtain⟨kk,e1,rfl⟩:=az e
  obtain⟨a,rfl,fa,ws,ha,pr⟩:=r
  exact⟨a,_,rfl,iz.ky ha (ir rk e1),oB pr kk⟩
 ·obtain⟨kk,e1,rfl⟩:=az e
  obtain⟨a,rfl,fa,ws,ha,pr⟩:=r
  exact⟨a,_,rfl,iz.ky ha (ir rk e1),oB pr kk⟩
 ·obtain⟨kk,e1,rfl⟩:=az e
  obtain⟨a,rfl,fa,ws,ha,pr⟩:=r
  obtain⟨b,rfl,hb⟩:=jN sb rk e1
  exact⟨a,_,rfl,iz.t ha hb,oB pr kk⟩
 ·obtain⟨kk,e1,rfl⟩:=az e
  obtain⟨a,rfl,fa,ws,ha,pr⟩:=r
  obtain⟨b,rfl,hb⟩:=jN sb rk e1
  exact⟨a,_,rfl,iz.t ha hb,oB pr kk⟩
 ·cases e
theorem E5 {B:Base}{n:Bool}{i:Nat}{σ:St}{H:Hp}{Q:VK}(h:tD X.K B (pK n i gk) σ H Q):tD X.K B gk σ H fun y H1=>Ek i σ H1 fun x H2=>∃a o,x= .ref a/\iz H2 a y o/\Q (.bl (n != o.isSome)) H2:=by
 obtain⟨S,F,d,S',R,hg,q⟩:=h
 obtain⟨⟨d1,S1⟩,h1,hg⟩:=ah hg
 dsimp only at hg
 split at hg
 ·rename_i u hS
  obtain⟨h,h2,hg⟩:=az hg
  cases hg
  refine⟨S,F,d1,_,R,h1,fun v F1 H1 R1 st1 r1=>?_⟩
  obtain⟨v0,hv0,r0⟩:=R1.rep i u hS
  obtain⟨a,o,e1,g1,e2⟩:=E4 R1.sub r0 r1 h2
  refine⟨v0,hv0,a,o,e1,g1,?_⟩
  rw[e2]
  exact q (.bl _) F1 H1 R1 st1 (.bl _)
 ·cases hg
end
section
variable {X:Cx}{k v:Expr}{pos:Pos}{tk tv:TE}{gk gv:GD}
theorem mQ {i:Nat}{x:Str}{px:Pos}(hu:X.A.units+20 < cLine) (hk:JD X k gk) (hN:X.N[i]? =some x:=by rfl) (hv:AR X.env.scope x:=by first | exact Or.inl rfl | exact Or.inr (Or.inl rfl) | exact Or.inr (Or.inr rfl)) (hd:(x == ("__debug__":Str))=false:=by decide) (hcd:(x == ("__classdict__":Str))=false:=by decide)
  (hm:behindInMarks .NotIn (.Name x px)=false:=by with_unfolding_all rfl):JT X (.Compare k [.NotIn] [.Name x px] pos) (qB (pK true i gk)):=⟨fun B=>(Hh (A2 hu (hk.h B) (iF hN hv hd hcd)) hm).imp fun σ H Q ⟨S,F,kk,S',R,hg,q⟩=>by
 have h:tD X.K B (pK true i gk) σ H (fun v H'=>∃d,v= .bl d/\Q d H'):=⟨S,F,.bl kk,S',R,zZ hg,fun v F' H' R' st r=>⟨kk,vo r,q F' H' R' st⟩⟩
 have h2:=E5 h
 simpa[tB,zQ] using h2⟩
end
section
variable {X:Cx}{pins:List (Addr×Obj)}{σ:St}{H:Hp}{s:Shared}{a:Addr}{kvs:List (Str×Int)}
end
section
variable {X:Cx}{e f:Expr}{x:Str}{px pos apos cpos:Pos}{ty tx:TE}{g gd:GD}{a:Addr}{kvs:List (Str×Int)}
end
section
variable {X:Cx}{e:Expr}{x:Str}{px pos:Pos}{g:GD}{a:Addr}{zs:List Str}
end
noncomputable def E6:U->D->Option (Option D)
 | .m (.dct kvs),k=>(keyOf k).map (aV kvs)
 | .b (.dct kvs),k=>(keyOf k).map (aV kvs)
 | .m (.mX kvs),k=>(j9 k).map (aV kvs)
 | .b (.mX kvs),k=>(j9 k).map (aV kvs)
 | _,_=>none
noncomputable def su:U->Bool
 | .m (.dct _)=>true
 | .b (.dct _)=>true
 | .m (.mX _)=>true
 | .b (.mX _)=>true
 | _=>false
noncomputable def sy (i:Nat) (gk gd:GD):GD:=fun S=>match S[i]? with
 | some (some u)=>if su u then(gk S).bind fun p=>(gd p.2).bind fun q=>match q.2[i]? with
  | some (some u2)=>(E6 u2 p.1).map fun o=>(o.getD q.1,q.2)
  | _=>none
  else none
 | _=>none
noncomputable def LN (F:Hp):Option V->Option D->Prop
 | some v,some d=>Rep F v d
 | none,none=>True
 | _,_=>False
theorem oE {κ:Type} [DecidableEq κ] {F:Hp}{ws:List (κ×V)}{kvs:List (κ×D)}(pr:Paired (jf F) ws kvs) (k:κ):LN F (lF ws k) (aV kvs k):=by
 cases e:aV kvs k with
 | none=>rw[kD pr e];exact True.intro
 | some d=>obtain⟨v,h,r⟩:=iQ pr e;rw[h];exact r
theorem E7 {K:PySem.W.Frag}{F H:Hp}{v w:V}{u:U}{d:D}{h:Option D}(sb:Sub F H) (r:rT K F H v u) (rk:Rep F w d) (e:E6 u d=some h):∃a o,v= .ref a/\iz H a w o/\LN F o h:=by
 unfold E6 at e
 split at e
 ·obtain⟨kk,e1,rfl⟩:=az e
  obtain⟨a,rfl,fa,ws,ha,pr⟩:=r
  exact⟨a,_,rfl,iz.ky ha (ir rk e1),oE pr kk⟩
 ·obtain⟨kk,e1,rfl⟩:=az e
  obtain⟨a,rfl,fa,ws,ha,pr⟩:=r
  exact⟨a,_,rfl,iz.ky ha (ir rk e1),oE pr kk⟩
 ·obtain⟨kk,e1,rfl⟩:=az e
  obtain⟨a,rfl,fa,ws,ha,pr⟩:=r
  obtain⟨b,rfl,hb⟩:=jN sb rk e1
  exact⟨a,_,rfl,iz.t ha hb,oE pr kk⟩
 ·obtain⟨kk,e1,rfl⟩:=az e
  obtain⟨a,rfl,fa,ws,ha,pr⟩:=r
  obtain⟨b,rfl,hb⟩:=jN sb rk e1
  exact⟨a,_,rfl,iz.t ha hb,oE pr kk⟩
 ·cases e
theorem xy {K:PySem.W.Frag}{F H:Hp}{v:V}{u:U}(r:rT K F H v u) (h:su u=true):∃a,v= .ref a/\Na H a:=by
 unfold su at h
 split at h
 ·obtain⟨a,rfl,fa,ws,ha,pr⟩:=r;exact⟨a,rfl,.inl ⟨ws,.inl ha⟩⟩
 ·obtain⟨a,rfl,fa,ws,ha,pr⟩:=r;exact⟨a,rfl,.inl ⟨ws,.inl ha⟩⟩
 ·obtain⟨a,rfl,fa,ws,ha,pr⟩:=r;exact⟨a,rfl,.inr ⟨ws,.inl ha⟩⟩
 ·obtain⟨a,rfl,fa,ws,ha,pr⟩:=r;exact⟨a,rfl,.inr ⟨ws,.inl ha⟩⟩
 ·cases h
section
variable {X:Cx}{e f:Expr}{x:Str}{px pos apos cpos:Pos}{gk gd:GD}{ge:GE}
theorem E8 {i : Nat} (hu : X.A.units + 20 < cLine) (he : JD X e gk) (hf : JD X f gd) (hN : X.N[i]? = some x := by rfl) (hv : AR X.env.scope x := by first | exact Or.inl rfl | exact Or.inr (Or.inl rfl) | exact Or.inr (Or.inr rfl))
    (hb:attributeBase (.Name x px) "get" X.env (eval (.Name x px) X.env)=eval (.Name x px) X.env:=by rfl)
    (hfew:((backTo cpos (starEach [e,f] X.env)).all (fun x=>!x.1) && (backToKw cpos (keywordEach [] X.env)).all (fun x=>x.1.isSome) && decide (([e,f]:List Expr).length+([]:List Keyword).length+(if([]:List Keyword).isEmpty then 0 else 1) < 30))=true:=by rfl)
    (hline:(apos.endLine == cpos.line)=true:=by rfl) (htr:backTo cpos (starEach [e,f] X.env)=[(false,eval e X.env),(false,eval f X.env)]:=by rfl) (hd:(x == ("__debug__":Str))=false:=by decide) (hcd:(x == ("__classdict__":Str))=false:=by decide):
    JD X (.Call (.Attribute (.Name x px) "get" apos) [e,f] [] cpos) (sy i gk gd):=
  ⟨fun B => (Cf hu (iF hN hv hd hcd) (he.h B) (hf.h B) ⟨hb, hfew, hline, htr⟩).imp fun σ H Q ⟨S, F, d, S', R, hg, q⟩ => by
    unfold sy at hg
    split at hg
    . rename_i u hS
      split at hg
      . rename_i hD
        obtain⟨⟨d1,S1⟩,h1,hg⟩:=ah hg
        obtain⟨⟨d2,S2⟩,h2,hg⟩:=ah hg
        dsimp only at hg
        split at hg
        . rename_i u2 CS
          obtain⟨o,h3,hg⟩:=az hg
          cases hg
          obtain⟨v0,hv0,r0⟩:=R.rep i u hS
          obtain⟨a,rfl,ha⟩:=xy r0 hD
          refine⟨.ref a,hv0,a,rfl,ha,S,F,d1,S1,R,h1,fun v1 F1 H1 R1 st1 r1=>⟨S1,F1,d2,_,R1,h2,fun v2 F2 H2 R2 st2 r2=>?_⟩⟩
          obtain⟨v3,LO,r3⟩:=R2.rep i u2 CS
          rw[hv0] at LO
          cases LO
          obtain⟨a',ov,e1,g1,rl⟩:=E7 R2.sub r3 (r1.le st2.ext.le) h3
          cases e1
          refine⟨ov,g1,q _ F2 H2 R2 (st1.trans st2) ?_⟩
          cases o with
          | none=>cases ov with
            | none=>exact r2
            | some _=>exact(show False from rl).elim
          | some d=>cases ov with
            | none=>exact(show False from rl).elim
            | some v=>exact rl
        . cases hg
      . cases hg
    . cases hg⟩
end
end L2
end
section
namespace HT
open PySem PySem.Spec PyProof.Rows
section
variable {prog:Program}{w:World}{A:Around}{E:Value->Shared->Prop}{s:Shared}
end
end HT
namespace L2
open PySem PySem.Spec PyProof.Rows
section
variable {X:Cx}{e st:Expr}{te ts:TE}{pos p2:Pos}
end
noncomputable def oF:List Int->Int
 | []=>0
 | [a]=>a
 | a :: b :: r=>max a (oF (b :: r))
theorem Ai : ∀ {ns : List Int} {M : Int}, M ∈ ns -> (∀ a ∈ ns, a <= M) -> oF ns = M
  | [],_,h,_=>by cases h
  | [a],M,h,_=>by rw[List.mem_singleton.mp h];rfl
  | a :: b :: r, M, h, k => by
    have hb : ∀ x ∈ b :: r, x <= oF (b :: r) := by
      have:∀(l:List Int),∀x∈l,x<=oF l:=by
        intro l
        induction l with
        | nil=>intro x hx;cases hx
        | cons a l ih=>
          intro x hx
          cases l with
          | nil=>rw[List.mem_singleton.mp hx];exact Int.le_refl _
          | cons b r=>
            show x<=max a (oF (b :: r))
            rcases List.mem_cons.mp hx with rfl | q
            . omega
            . have:=ih x q;omega
      exact this _
    have hm:∀(l:List Int),l≠[]->oF l∈l:=by
      intro l
      induction l with
      | nil=>intro z;exact absurd rfl z
      | cons a l ih=>
        intro _
        cases l with
        | nil=>exact List.mem_singleton.mpr rfl
        | cons b r=>
          have:=ih (by simp)
          show max a (oF (b :: r))∈_
          by_cases c:a<=oF (b :: r)
          . rw[Int.max_eq_right c];exact List.mem_cons_of_mem _ this
          . rw[Int.max_eq_left (by omega)];exact List.mem_cons_self
    have h1:=hm (a :: b :: r) (by simp)
    have h2:=k _ h1
    show max a (oF (b :: r))=M
    have h3:max a (oF (b :: r))<=M:=h2
    rcases List.mem_cons.mp h with rfl | q
    . omega
    . have:=hb M q;omega
noncomputable def j4:List D->Option U
 | [.lst ds]=>(bC ds).bind fun bs=>if bs=[] then none else some (.t (.int (oF bs)))
 | _=>none
theorem CT {α:Type}{p:Prop} [Decidable p] {x y:α}(h:(if p then none else some x)=some y):¬p/\x=y:=by
 by_cases c:p
 ·rw[if_pos c] at h;cases h
 ·rw[if_neg c] at h;exact⟨c,Option.some.inj h⟩
section
variable {X:Cx}
theorem nN (hc:X.calm=true):iG X (.builtin "max") (rP j4):=by
 intro pins s σ H xs us Q I r ⟨F,ds,w,sb,rs,hw,q⟩
 obtain⟨x,d,rfl,rfl,r1⟩:=oz (P:=fun _=>True) rs hw rfl (fun d _ _=>by cases d <;> rfl)
 cases d <;> try (simp[j4] at hw;done)
 rename_i ds
 obtain⟨bs,h1,hw⟩:=ah (show(bC ds).bind _=some w from hw)
 obtain⟨hne,rfl⟩:=CT hw
 obtain⟨a,vs,rfl,fa,ha,nI⟩:=sb.jJ r1
 obtain rfl:=sr nI h1
 obtain⟨u,rfl,ru⟩:=vals1 r
 cases ru
 obtain⟨its,rv,pl,hz⟩:=I.list (.inl ha)
 have hi:IntsAre its.toArray.toList bs:=intsAre_of rv
 obtain⟨ys,e⟩:=hi.allInts.items
 have hns:bs=ys.toList.map (·.1):=by rw[<-hi.numsOf,<-nums_intItems,<-e]
 have hb:0 < bs.length:=by cases bs with | nil=>exact absurd rfl hne | cons _ _=>simp
 have hsz:0 < ys.size:=by
  have h3:=hb;rw[hns,List.length_map,Array.length_toList] at h3;exact h3
 have hl:=pl.isList
 have e':its.toArray=intItems ys:=by rw[<-e]
 rw[e'] at hl
 refine max_intList (I.ok.hd hc) hl hsz fun v h' tk hv hk=>?_
 obtain⟨t,rfl⟩:=intItems_at hv
 obtain⟨k1,k2⟩:=argBest_gt (numAt ys) (ys.size - 1)
 have em:oF bs=numAt ys (argBest (fun i j=>decide (numAt ys i > numAt ys j)) (ys.size - 1)):=by
  refine Ai ?_ fun a ha=>?_
  ·rw[hns,numAt_eq];exact getD_mem (by rw[List.length_map,Array.length_toList];omega)
  ·rw[hns] at ha
   obtain⟨j,hj,rfl⟩:=mem_getD ha
   rw[List.length_map,Array.length_toList] at hj
   rw[<-numAt_eq];exact k2 j (by omega)
 rw[<-em]
 exact⟨.int _,H,I.kept (t':=tk) hk,⟨t,rfl⟩,q _ F H (iB.refl ..) sb (.int _)⟩
end
@[simp] theorem Nk (ds:List D):j4 [.lst ds]=(bC ds).bind fun bs=>if bs=[] then none else some (.t (.int (oF bs))):=rfl
end L2
namespace HT
open PySem PySem.Spec PyProof.Rows
section
variable {prog:Program}{w:World}{A:Around}{E:Value->Shared->Prop}{s:Shared}
end
end HT
namespace L2
open PySem PySem.Spec PyProof.Rows
section
variable {X:Cx}{pos:Pos}
end
end L2
end
section
namespace L2
open PySem PySem.Spec PyProof.Rows PySem.Calls
section
variable {prog:Program}{w:World}{A:Around}{E:Value->Shared->Prop}{s:Shared}{a I:Addr}{ep:Nat}{t:SetTable}
end
section
variable {X:Cx}{a:Expr}{pos p p1 p2:Pos}{ga:GD}
end
end L2
end
section
namespace L2
open PySem PySem.Spec PyProof.Rows
section
variable {X:Cx}{x:Str}{p:Pos}{a:Addr}
end
section
variable {X:Cx}{e:Expr}{es:List Expr}{gu:GU}{x:Str}{p pos:Pos}{k n i:Nat}{t:TA}
end
structure oG (X:Cx) (x y0:Str) (bB:List Str) (cap:List Nat) (scope:Scope) (cl:List (Str×Addr)):Prop where
 one:iH X x bB cap scope cl
 LP:scope.names.lookup y0=some .local
 J9:(x :: y0 :: bB).Nodup
noncomputable def IB (K:PySem.W.Frag) (wi:TI) (cap:List Nat) (tc:TT) (te:TE):TE:=fun σ H Q=>wi σ H fun J H1=>∃W:Nat->Nat->List V->Hp->Prop,(∃m,W 0 m [] H1)/\∀i m ys H,W i m ys H->ys.length < sizeLine/\
  ((J.stop i H/\∀p,H p=none->Q (.ref p) (upd H p (.lst ys)))\/
   (J.go i H/\∀x H',J.J5 i H x H'->∃a x1 x2,x= .ref a/\u6 K H' a [x1,x2]/\tc (some x1 :: some x2 :: bU cap σ) H' fun b H2=>if b=true then te (some x1 :: some x2 :: bU cap σ) H2 fun y H3=>∃m',m' < m/\W (i+1) m' (ys++[y]) H3 else ∃m',m' < m/\W (i+1) m' ys H2))
theorem Be {X : Cx} {pins : List (Addr × Obj)} {σ : St} {H : Hp} {s s4 : Shared} {x y0 : Str} {bB : List Str} {cap : List Nat} {scope : Scope} {cl : List (Str × Addr)} {C : Addr} {fp : List Addr} {m' : Str -> Option Value}
    (I:Inv X pins σ H s) (T2:oG X x y0 bB cap scope cl) (hfp:∀b∈fp,lE X pins H b) (hfo:∀b∈fp,∃o,s.heap.get? b=some o)
    (hC:s.heap.objs.size<=C) (hns:s4.heap.Ns C m') (hos:s4.os=s.os) (hg:s4.gens=s.gens)
    (kept:∀b o,s.heap.get? b=some o->s4.heap.get? b=some o):
    Inv (cX X (x :: y0 :: bB) scope cl C s H fp) [] (none :: none :: bU cap σ) H s4:=by
  have T:=T2.one
  have fr:∀b,s.heap.objs.size<=b->H b=none:=fun b hb=>I.hok.fresh hb
  refine⟨⟨I.ok.mod,T.kind,I.ok.glob,I.ok.blt,hC,fun y z c h1 h2=>I.ok.inj y z c (T.cells _ _ h1) (T.cells _ _ h2),fun y hy=>T.has y hy,fun y c h=>(by cases h),I.ok.hd,I.ok.frames,.inl rfl,fun b hb=>⟨?_,fun y c e z=>?_⟩,I.bs,Nat.le_trans I.ok.Ec I.sz,fun b o e hb=>?_,fun b hb z=>?_,I.stack,I.u5⟩,
    hos,by rw[hg];exact I.bare,Un.kept kept,⟨m',hns,fun i y v h1 h2 h3=>?_⟩,fun y c h=>?_,fr C hC,fun y c h=>I.lK y c (T.cells _ _ h),fun p hp=>?_,I.hok.kept kept,?_⟩
  . obtain⟨o,e⟩:=hfo b hb
    exact Nat.ne_of_lt (Nat.lt_of_lt_of_le (Heap.lt_size e) hC)
  . exact(hfp b hb).2.2.2.2.1 y c (T.cells _ _ e) z
  . rcases(hfp b hb).2.2.2.1 with z | z
    . exact I.ok.AS b o e z
    . exact absurd (Nat.lt_of_lt_of_le (Heap.lt_size e) (Nat.le_trans I.ok.Ec z)) (Nat.lt_irrefl _)
  . rcases List.mem_cons.mp (I.pA b z) with q | q
    . exact(hfp b hb).2.1 q
    . exact(hfp b hb).2.2.1 q
  . match i,h1,h2 with
    | 0,h1,h2=>cases h2
    | 1,h1,h2=>cases h2
    | j + 2, h1, h2 =>
      have h1:bB[j]? =some y:=by simpa[cX] using h1
      have h2:(bU cap σ)[j]? =some (some v):=by simpa using h2
      obtain⟨i,e1,e2,e3⟩:=T.slot j y h1
      have e4:σ[i]? =some (some v):=by
        unfold bU at h2
        rw[List.getElem?_map,e1] at h2
        have h2:some ((σ[i]?).join)=some (some v):=h2
        have h2:=Option.some.inj h2
        cases q:σ[i]? with
        | none=>rw[q] at h2;cases h2
        | some o=>rw[q] at h2;cases h2;rfl
      obtain⟨m,hn,hl⟩:=I.loc
      obtain⟨u,r,l⟩:=hl i y v e2 e4 e3
      obtain⟨k1,⟨c,hc⟩,k3⟩:=T.vis y (List.mem_of_getElem? h1)
      refine⟨u,r,.inr ⟨k1,c,hc,?_⟩⟩
      rcases l with⟨hk,_⟩ | ⟨hk,c',hc',z⟩
      . exact absurd hk k3
      . rw[T.cells _ _ hc] at hc'
        cases hc'
        obtain⟨o,ho,hd⟩:=z
        exact⟨o,kept _ _ ho,hd⟩
  . obtain⟨v,o,ho,hd⟩:=I.cell y c (T.cells _ _ h)
    exact⟨v,o,kept _ _ ho,hd⟩
  . exact absurd (show p∈([]:List (Addr×Obj)) from hp) (by simp)
  . show(none :: none :: bU cap σ).length=(x :: y0 :: bB).length
    simp[bU,T.len]
noncomputable def pL (P:Program) (w:World) (A:Around) (env:Env) (R:Result->Shared->Prop):Value->Shared->Prop:=notedBy (model P w) A env fun e s'=>R (.error e) s'
theorem vE {P:Program}{w:World}{A:Around}{R:Result->Shared->Prop}{s:Shared}{elt tg iter:Expr}{ifs:List Expr}{scope:Scope}{pos:Pos}{it acc:Value}{env:Env}(J:Nat->Shared->Prop)
    (turn : ∀ n s, J n s -> wpAny (model P w) A (pyNext it) (fun r s1 => match r with
      | none=>R (.ok .next) s1
      | some v=>wpAny (model P w) A (letOwnedTupleGo tg it v) (fun _ s1=>wpAny (model P w) A (assign tg env v) (fun _ s2=>
          wpAny (model P w) A (forIn ifs true fun c r=>if r=true then do let ok <-isTrue c env (eval c env);pure (ForInStep.yield ok) else pure (ForInStep.yield r)) (fun ok s3=>
            if ok=true then wpAny (model P w) A (eval elt env) (fun x s4=>wpAny (model P w) A (call (.builtin "list.append") [acc,x]) (fun _ s5=>∃m,m < n/\J m s5) (pL P w A env R) s4) (pL P w A env R) s3
            else ∃m,m < n/\J m s3) (pL P w A env R) s2) (pL P w A env R) s1) (pL P w A env R) s1) (pL P w A env R) s)
    (n:Nat) (h:J n s):codeAny (model P w) A (.compLoop (.ListComp elt [⟨tg,iter,ifs,0⟩] scope pos) 0 it acc env) R s:=by
  refine codeAny_loop rfl J (fun n s hJ=>?_) n h
  show wpAny _ A ((compTurn (.ListComp elt [⟨tg,iter,ifs,0⟩] scope pos) 0 it acc env).onRaise (fun x=>do noteFrame x env;theTreesLotGoes x)) _ _ s
  refine wpAny_noted ?_
  rw[compTurn_list]
  refine wpAny_bind (wpAny_standAt (wpAny_bind (wpAny_mono (turn n s hJ) (fun r s1 k1=>?_) fun _ _ z=>z)))
  cases r with
  | none=>exact wpAny_pure k1
  | some v=>
    refine wpAny_bind (wpAny_mono k1 (fun _ s1 k1=>?_) fun _ _ z=>z)
    refine wpAny_bind (wpAny_mono k1 (fun _ s2 k2=>wpAny_bind (wpAny_mono k2 (fun ok s3 k3=>?_) fun _ _ z=>z)) fun _ _ z=>z)
    cases ok with
    | false=>exact wpAny_pure ⟨rfl,k3⟩
    | true=>exact wpAny_bind (wpAny_bind (wpAny_mono k3 (fun x s4 k4=>wpAny_bind (wpAny_mono k4 (fun _ s5 k5=>wpAny_pure (wpAny_pure ⟨rfl,k5⟩)) fun _ _ z=>z)) fun _ _ z=>z))
theorem xA {X:Cx}{elt iter:Expr}{ifs:List Expr}{x y0:Str}{px py pt pos:Pos}{k0:Nat}{scope:Scope}{cl:List (Str×Addr)}{bB:List Str}{cap:List Nat}{wi:TI}{tc:TT}{te:TE}{pins:List (Addr×Obj)}{s:Shared}{σ:St}{H:Hp}{Q:VK}{use:Option (Value->Sem Unit)}{Qf:Value->Shared->Prop}{pos2:Pos}
    (T2:oG X x y0 bB cap scope cl) (hc:X.calm=true) (hi:PI X (.Tuple [.Name x px,.Name y0 py] k0 pt) iter wi)
    (ht:∀C s H fp,EJ (cX X (x :: y0 :: bB) scope cl C s H fp) ifs tc) (he:∀C s H fp,PE (cX X (x :: y0 :: bB) scope cl C s H fp) elt te)
    (hs:∀x,foldedSetIterable iter X.env x=pure x) (I:Inv X pins σ H s) (h:IB X.K wi cap tc te σ H Q)
    (hend:∀(D C:Addr) (s7:Shared) (H6:Hp) (ys:List V),Inv X pins σ (upd H6 D (.lst ys)) s7->(∃m,s7.heap.Ns C m)->lE X pins (upd H6 D (.lst ys)) C->Q (.ref D) (upd H6 D (.lst ys))->compPost (model X.prog X.w) X.A X.xe use Qf (.ref D) C (.ok .next) s7):
    wpAny (model X.prog X.w) X.A (comprehension (.ListComp elt [⟨.Tuple [.Name x px,.Name y0 py] k0 pt,iter,ifs,0⟩] scope pos) scope X.env pos2 (newList []) false (eval iter X.env) use) Qf X.xe s:=by
  have T:=T2.one
  refine wpAny_comprehension_free (use:=use) rfl hs T.clos T.kind T.names (fM (hi pins s σ H _ I h) fun v s1 h1=>fM h1 fun itv s2 h2=>?_)
  obtain⟨it,fp,tn,J,H2,rfl,I2,tU,st2,f2,W,⟨m0,w0⟩,turn⟩:=h2
  refine wpAny_newObj_type (wpAny_newFunctionEnv T.lP (by intro y hy;simp at hy) (fun h4 vj rS=>?_) T.kind)
  dsimp only at vj rS ⊢
  generalize HQ:s2.heap.push {cls:=.type "list",dict:=none,data:=.seq ([]:List Value).toArray}=H3 at vj rS ⊢
  have eC:H3.objs.size=s2.heap.objs.size+1:=by rw[<-HQ,Heap.size_push]
  generalize Uq:H3.objs.size=C at eC vj rS ⊢
  generalize eD:s2.heap.objs.size=D at eC ⊢
  have Cs:C=D+1:=eC
  have hDC:D≠C:=by rw[Cs];exact Nat.ne_of_lt (Nat.lt_succ_self D)
  have hC:s2.heap.objs.size<=C:=by rw[eD,Cs];exact Nat.le_succ D
  have hD:s2.heap.objs.size<=D:=by rw[eD];exact Nat.le_refl D
  have kept:∀b o,s2.heap.get? b=some o->h4.get? b=some o:=fun b o e=>rS.extBut b o (Nat.ne_of_lt (Nat.lt_of_lt_of_le (Heap.lt_size e) hC)) (Heap.get?_push_of_some _ (HQ▸Heap.get?_push_of_some _ e))
  have hacc:h4.get? D=some {cls:=.type "list",data:=.seq ([]:List Value).toArray ([]:List Value).length}:=rS.extBut _ _ hDC (Heap.get?_push_of_some _ (HQ▸eD▸Heap.get?_push_size _ rfl))
  have Lk:∀b∈fp,∃o,s2.heap.get? b=some o:=fun b hb=>let⟨o,e,_⟩:=tU.obj _ _ st2 b hb;⟨o,e⟩
  have hDf:D∉fp:=fun hb=>by
    obtain⟨o,e⟩:=Lk D hb
    exact absurd (Nat.lt_of_lt_of_le (Heap.lt_size e) hD) (Nat.lt_irrefl _)
  have Ll:tn 0 h4:=tU.keep _ _ _ st2 fun b _ o e=>kept b o e
  have key : ∀ s5 : Shared, s5 = { s2 with heap := h4, toks := s2.toks + ([] : List (Str × Value)).length } ->
      codeAny (model X.prog X.w) X.A (.compLoop (.ListComp elt [⟨.Tuple [.Name x px,.Name y0 py] k0 pt,iter,ifs,0⟩] scope pos) 0 (.ref it) (.ref D) (compEnvC scope cl C X.env)) (compPost (model X.prog X.w) X.A X.xe use Qf (.ref D) C) s5:=by
    rintro s5 rfl
    have I4:Inv (cX X (x :: y0 :: bB) scope cl C s2 H2 fp) [] (none :: none :: bU cap σ) H2 {s2 with heap:=h4,toks:=s2.toks+([]:List (Str×Value)).length}:=
      Be (s4:={s2 with heap:=h4,toks:=s2.toks+([]:List (Str×Value)).length}) I2 T2 f2 Lk hC vj rfl rfl kept
    generalize hY:cX X (x :: y0 :: bB) scope cl C s2 H2 fp=Y at I4
    have fD:∀{H':Hp},H' D=none->lE Y [] H' D:=fun {H'} hn=>by
      subst hY
      refine⟨hn,hDC,fun z=>(List.mem_cons.mp (I2.pA D z)).elim (fun q=>absurd (Nat.lt_of_lt_of_le (q▸I2.lt) hD) (Nat.lt_irrefl _)) fun q=>I2.G7 hD q,.inr hD,fun y c e z=>?_,fun p hp=>absurd (show p∈([]:List (Addr×Obj)) from hp) (by simp)⟩
      obtain⟨v,q⟩:=I2.cell y c (T.cells _ _ e)
      exact absurd (Nat.lt_of_lt_of_le q.lt (by rw[z];exact hD)) (Nat.lt_irrefl _)
    have fF:∀{H':Hp},(∀b∈fp,H' b=none)->∀b∈fp,lE Y [] H' b:=fun {H'} hn b hb=>by
      have q:=I4.ok.M4 b (by subst hY;exact hb)
      exact⟨hn b hb,fun z=>q.1 z,I4.ok.AU b (by subst hY;exact hb),.inl (by subst hY;exact hb),fun y c e z=>q.2 y c e z,fun p hp=>absurd (show p∈([]:List (Addr×Obj)) from(by subst hY;exact hp)) (by simp)⟩
    have eA:Y.A=X.A:=by subst hY;rfl
    have eP:Y.prog=X.prog:=by subst hY;rfl
    have eW:Y.w=X.w:=by subst hY;rfl
    have eK:Y.K=X.K:=by subst hY;rfl
    have eE:Y.env=compEnvC scope cl C X.env:=by subst hY;rfl
    have eX:Y.xe=fun _ _=>False:=by subst hY;rfl
    have eN:Y.N=x :: y0 :: bB:=by subst hY;rfl
    have GH:Y.calm=true:=by subst hY;exact hc
    have ON:EJ Y ifs tc:=by subst hY;exact ht _ _ _ _
    have OO:PE Y elt te:=by subst hY;exact he _ _ _ _
    have OP:PG Y (.Tuple [.Name x px,.Name y0 py] k0 pt) (KP Y.K 2 (BV (qk 0) (BV (qk 1) KO))):=BW GH (rM (qX (by rw[eN];exact T2.J9) (by rw[eN];rfl) (by rw[eE];exact .inl (lookup_relabel_local T.loc)) (.inr (by rw[eE];exact lookup_relabel_local T.loc))) (rM (qX (by rw[eN];exact T2.J9) (by rw[eN];rfl) (by rw[eE];exact .inl (lookup_relabel_local T2.LP)) (.inr (by rw[eE];exact lookup_relabel_local T2.LP))) zN))
    have nC:∀(E':Value->Shared->Prop) (e:Value) (s':Shared),Y.xe e s'->E' e s':=fun E' e s' z=>by rw[eX] at z;exact z.elim
    refine vE (fun n s'=>∃i ys us H' o o',Inv Y [] (o :: o' :: bU cap σ) H' s'/\tn i s'.heap/\(∀b∈fp,H' b=none)/\H' D=none/\s'.heap.get? D=some {cls:=.type "list",data:=.seq us.toArray us.length}/\Vals ys us/\W i n ys H') ?_ m0
      ⟨0,[],[],H2,none,none,I4,Ll,fun b hb=>(f2 b hb).1,I2.hok.fresh hD,hacc,.nil,w0⟩
    rintro n s6 ⟨i,ys,us,H6,o6,Nl,I6,HR,HS,d6,a6,v6,w6⟩
    have OQ:us.length=ys.length:=v6.length.symm
    obtain⟨hz,Ct⟩:=turn i n ys H6 w6
    rcases Ct with⟨stop,qn⟩ | ⟨go,step⟩
    . have q := tU.done Y eP eW eK GH i [] s6 (o6 :: Nl :: bU cap σ) H6 (notedBy (model X.prog X.w) X.A (compEnvC scope cl C X.env) fun e s' => compPost (model X.prog X.w) X.A X.xe use Qf (.ref D) C (.error e) s') I6 (fF HS) HR stop
      rw[eA] at q
      have HU:=I6.pinned (fp:=[D]) (fun b hb=>by rw[List.mem_singleton.mp hb];exact fD d6) (fun b hb=>by rw[List.mem_singleton.mp hb];exact⟨_,a6,fun v z=>by cases z⟩)
      have q:=tU.done Y eP eW eK GH i _ s6 (o6 :: Nl :: bU cap σ) H6 (notedBy (model X.prog X.w) X.A (compEnvC scope cl C X.env) fun e s'=>compPost (model X.prog X.w) X.A X.xe use Qf (.ref D) C (.error e) s') HU (fun b hb=>?_) HR stop
      . rw [eA] at q
        refine fM q fun r s7 ⟨hr,I7⟩=>?_
        subst hr
        have a7:s7.heap.get? D=_:=(I7.pin (D,{cls:=.type "list",data:=.seq us.toArray us.length}) (List.mem_append_right _ (List.mem_append_right _ (cV (List.mem_singleton.mpr rfl) a6)))).1
        obtain⟨m7,BJ,_⟩:=I7.loc
        rw[eE] at BJ
        have Cu:H6 D=none:=d6
        have OR:H6 C=none:=by have:=I7.free;rw[eE] at this;exact this
        have HV:lJ X.prog X.w H6 s7.heap:=by have q:=I7.hok;rw[eP,eW] at q;exact q
        have new:ff X.prog X.w (upd H6 D (.lst ys)) s7.heap D (.lst ys):=⟨Nat.le_of_lt hz,us,us.length,v6,a7⟩
        have u7:Un (frs X.stack) fp H2 H6 s2.heap s7.heap:=by have:=I7.base;subst hY;exact this
        have OS:∀b o,s2.heap.get? b=some o->b≠D:=fun b o e=>Nat.ne_of_lt (Nat.lt_of_lt_of_le (Heap.lt_size e) hD)
        have u8:Un (frs X.stack) fp H2 (upd H6 D (.lst ys)) s2.heap s7.heap:=
          ⟨u7.keep,u7.slot,fun b o e n hx=>by rw[aE (OS b o e)];exact u7.free b o e n hx,u7.there,
           fun b xs e=>by have z:=u7.tups b xs e;rw[aE (bu z Cu)];exact z,fun b o u e=>by have z:=u7.rG b o u e;rw[aE (bu z Cu)];exact z,
           fun b ps e=>by obtain⟨more,z⟩:=u7.tL b ps e;exact⟨more,by rw[aE (bu z Cu)];exact z⟩⟩
        have OT:s7.os=s2.os:=by have:=I7.os;subst hY;exact this
        have I9:Inv X pins σ (upd H6 D (.lst ys)) s7:=I2.Gs (ch:=fp) OT u8 (HV.GG Cu new) I7.bare fun b hb=>⟨(f2 b hb).2.2.2.1,(f2 b hb).2.1,(f2 b hb).2.2.2.2.1,(f2 b hb).2.2.2.2.2⟩
        exact hend D C s7 H6 ys I9 ⟨m7,BJ⟩ (I2.yG hC (by rw[aE (Ne.symm hDC)];exact OR)) (qn D Cu)
      . obtain⟨f0,f1,HW,f3,f4,f5⟩:=fF HS b hb
        refine⟨f0,f1,HW,f3,f4,fun p hp z=>?_⟩
        rcases List.mem_append.mp hp with q' | q'
        . exact f5 p (List.mem_append_left _ q') z
        . rcases List.mem_append.mp q' with q' | q'
          . exact absurd q' (by simp)
          . have:=(kj q').1
            rw[List.mem_singleton.mp this] at z
            exact hDf (z▸hb)
    . have HU:=I6.pinned (fp:=[D]) (fun b hb=>by rw[List.mem_singleton.mp hb];exact fD d6) (fun b hb=>by rw[List.mem_singleton.mp hb];exact⟨_,a6,fun v z=>by cases z⟩)
      have Lm:∀{H':Hp},(∀b∈fp,H' b=none)->∀b∈fp,lE Y ([]++j6 [D] s6.heap) H' b:=fun {H'} hn b hb=>by
        obtain⟨f0,f1,HW,f3,f4,f5⟩:=fF hn b hb
        refine⟨f0,f1,HW,f3,f4,fun p hp z=>?_⟩
        rcases List.mem_append.mp hp with q' | q'
        . exact f5 p (List.mem_append_left _ q') z
        . rcases List.mem_append.mp q' with q' | q'
          . exact absurd q' (by simp)
          . have:=(kj q').1
            rw[List.mem_singleton.mp this] at z
            exact hDf (z▸hb)
      have q:=tU.item Y eP eW eK GH i _ s6 (o6 :: Nl :: bU cap σ) H6 (notedBy (model X.prog X.w) X.A (compEnvC scope cl C X.env) fun e s'=>compPost (model X.prog X.w) X.A X.xe use Qf (.ref D) C (.error e) s') HU (Lm HS) HR go
      rw[eA] at q
      refine fM q fun r WQ ⟨u,hr,h7⟩=>?_
      subst hr
      refine fM h7 fun _ s7 ⟨xv,H8,I8,r8,y8,HX,OU⟩=>?_
      have OV:=I8.pinned (Lm OU) (tU.obj _ _ HX)
      obtain⟨a8,x1,x2,e8,UK,stp⟩:=step xv _ y8
      have qa:=OP _ s7 (o6 :: Nl :: bU cap σ) H8 xv u (fun σ' H'=>σ'=some x1 :: some x2 :: bU cap σ/\H'=H8) OV r8 ⟨a8,[x1,x2],e8,by rw[eK];exact UK,rfl,x1,[x2],rfl,x2,[],rfl,rfl,rfl,rfl⟩
      rw[eP,eW,eA,eE] at qa
      refine wpAny_mono qa (fun _ s9 h9=>?_) (nC _)
      obtain⟨Ur,H9,I9,e9,OW⟩:=h9
      subst e9 OW
      have qt:=ON _ s9 _ _ _ I9 stp
      rw[eP,eW,eA,eE] at qt
      refine wpAny_mono qt (fun ok OX h10=>?_) (nC _)
      obtain⟨OY,Ln,EK⟩:=h10
      have back:∀{s':Shared}{H':Hp},Inv Y (([]++j6 [D] s6.heap)++j6 fp s7.heap) (some x1 :: some x2 :: bU cap σ) H' s'->Inv Y [] (some x1 :: some x2 :: bU cap σ) H' s'/\tn (i+1) s'.heap/\(∀b∈fp,H' b=none)/\H' D=none/\s'.heap.get? D=some {cls:=.type "list",data:=.seq us.toArray us.length}:=fun {s' H'} J=>by
        refine⟨J.jG.jG,tU.keep _ _ _ HX fun b hb o e=>(J.pin (b,o) (List.mem_append_right _ (List.mem_append_right _ (cV hb e)))).1,fun b hb=>?_,?_,?_⟩
        . obtain⟨o,e,d⟩:=tU.obj _ _ HX b hb
          exact(J.pin (b,o) (List.mem_append_right _ (List.mem_append_right _ (cV hb e)))).2.1
        . exact(J.pin (D,_) (List.mem_append_right _ (List.mem_append_left _ (List.mem_append_right _ (cV (List.mem_singleton.mpr rfl) a6))))).2.1
        . exact(J.pin (D,_) (List.mem_append_right _ (List.mem_append_left _ (List.mem_append_right _ (cV (List.mem_singleton.mpr rfl) a6))))).1
      cases ok with
      | false=>
        rw[if_neg (by decide)] at EK ⊢
        obtain⟨m',hm,OZ⟩:=EK
        obtain⟨b1,b2,b3,b4,b5⟩:=back Ln
        exact⟨m',hm,i+1,ys,us,OY,some x1,some x2,b1,b2,b3,b4,b5,v6,OZ⟩
      | true=>
        rw[if_pos rfl] at EK ⊢
        have qe:=OO _ OX _ _ _ Ln EK
        rw[eP,eW,eA,eE] at qe
        refine wpAny_mono qe (fun y HY h11=>?_) (nC _)
        obtain⟨yv,Lo,O0,O1,m',hm,O2⟩:=h11
        obtain⟨b1,b2,b3,b4,b5⟩:=back O0
        refine append_at (hsz:=by rw[List.size_toArray,OQ];exact Nat.le_of_lt hz) b5 fun h12 HZ Ia=>?_
        have Ed:∀b o,b≠D->HY.heap.get? b=some o->h12.get? b=some o:=fun b o hb e=>HZ.extBut b o hb e
        obtain⟨g0,g1,g2,g3,g4,g5⟩:=fD b4
        have O3:Inv Y [] (some x1 :: some x2 :: bU cap σ) Lo {HY with heap:=h12}:=b1.turned (t':=HY.toks) Ed g0 g1 g3 g4 g5
        refine⟨m',hm,i+1,ys++[yv],us++[y],Lo,some x1,some x2,O3,tU.keep _ _ _ b2 fun b hb o e=>Ed b o (fun z=>hDf (z▸hb)) e,b3,b4,Ia.trans (congrArg some (Cp us y)),v6.append (.cons O1 .nil),O2⟩
  exact codeAny_compStart_list (key _ rfl) (tU.self _ 0 _ _ _ Ll (key _ rfl))
theorem Bg {X:Cx}{elt iter:Expr}{ifs:List Expr}{x y0:Str}{px py pt pos:Pos}{k0:Nat}{scope:Scope}{cl:List (Str×Addr)}{bB:List Str}{cap:List Nat}{wi:TI}{tc:TT}{te:TE}
  (T2:oG X x y0 bB cap scope cl) (hc:X.calm=true) (hi:PI X (.Tuple [.Name x px,.Name y0 py] k0 pt) iter wi)
  (ht:∀C s H fp,EJ (cX X (x :: y0 :: bB) scope cl C s H fp) ifs tc) (he:∀C s H fp,PE (cX X (x :: y0 :: bB) scope cl C s H fp) elt te)
  (hs:∀x,foldedSetIterable iter X.env x=pure x:=by intro _;rfl):
  PE X (.ListComp elt [⟨.Tuple [.Name x px,.Name y0 py] k0 pt,iter,ifs,0⟩] scope pos) (IB X.K wi cap tc te):=by
 intro pins s σ H Q I h
 rw[eval_ListComp]
 refine xA T2 hc hi ht he hs I h ?_
 rintro p C s7 H6 ys I9 ⟨m7,BJ⟩ ⟨g0,g1,g2,g3,g4,g5⟩ q
 exact⟨m7,BJ,fun h' hs'=>⟨.ref p,_,I9.turned (t':=s7.toks) (fun b o hb e=>hs'.extBut b o hb e) g0 g1 g3 g4 g5,rfl,q⟩⟩
noncomputable def gn (cap:List Nat) (q:GT) (g:GD):List D->SS->List D->Option (List D×SS)
 | [],S,acc=>some (acc,S)
 | .tup [a,b] :: ds,S,acc=>(bL S cap).bind fun us=>
  if(slotsOf us).Nodup/\cS us<=1 then(cg S us).bind fun ws=>(q (some (.t a) :: some (.t b) :: ws.map some)).bind fun p=>
   if p.1 then(g p.2).bind fun r=>(aJ (.t a :: .t b :: ws) r.2).bind fun outs=>(wb us outs S).bind fun S'=>gn cap q g ds S' (acc++[r.1])
   else(aJ (.t a :: .t b :: ws) p.2).bind fun outs=>(wb us outs S).bind fun S'=>gn cap q g ds S' acc
  else none
 | _ :: _,_,_=>none
noncomputable def sA (cap:List Nat) (gi:GI) (q:GT) (g:GD):GE:=fun S=>(gi S).bind fun p=>if p.1.length<=100000 then(gn cap q g p.1 p.2 []).map fun r=>(.m (.lst r.1),r.2) else none
theorem CU {F:Hp}{xs:List V}{a b:D}(r:bw F xs [a,b]):∃x1 x2,xs=[x1,x2]/\Rep F x1 a/\Rep F x2 b:=by
 cases r with
 | cons r1 rr=>cases rr with
  | cons r2 UL=>cases UL;exact⟨_,_,rfl,r1,r2⟩
end L2
end
section
namespace L2
open PySem PySem.Spec PyProof.Rows PySem.Calls
section
variable {X:Cx}{o e:Expr}{m:Str}{apos cpos:Pos}{id:String}{go ge:GD}{f:List D->Option U}
end
section
variable {X:Cx}
end
noncomputable def Po:GS:=fun _=>none
theorem LQ {X:Cx}{st:Stmt}:JS X st Po:=⟨fun B pins s σ H Q I ⟨_,_,_,_,hg,_⟩=>by cases hg⟩
end L2
end
section
namespace L2
open PySem PySem.Spec PyProof.Rows
section
variable {X:Cx}{C:Addr}{e value:Expr}{es:List Expr}{gu:GU}{x y m:Str}{px p pos pos' apos tpos:Pos}{f:Str}{fm:FM}{fa:Addr}{fd:FuncData}{ps:List Str}{k n i:Nat}{g:GD}
end
end L2
end
section
namespace L2
open PySem PySem.Spec PyProof.Rows PySem.Calls
section
variable {X:Cx}
end
section
variable {X:Cx}{e f:Expr}{x:Str}{px pos apos cpos:Pos}{ty tx:TE}{g gd:GD}{a:Addr}{kvs:List (Str×Int)}
end
section
variable {prog:Program}{w:World}{A:Around}{E:Value->Shared->Prop}{s:Shared}
end
section
variable {X:Cx}{pins:List (Addr×Obj)}{σ:St}{A:Around}{R:Result->Shared->Prop}{N:Nat}{k0 k1:Bool}{l0 l1:Nat}{UM UN:List V}{S:Addr}{W:Nat->List V->Hp->Prop}{res:Value}
end
section
variable {X:Cx}{pins:List (Addr×Obj)}{σ:St}{A:Around}{E:Value->Shared->Prop}{N:Nat}{k0 k1:Bool}{l0 l1:Nat}{UM UN:List V}
end
section
variable {X:Cx}{a b:Expr}{p p2 pos pos2:Pos}{t:TA}{ga gb:GD}{gA:GA}
end
theorem ze {K : PySem.W.Frag} {B : Base} {cap : List Nat} {gi : GI} {q : GT} {g : GD} {σ : St} {H : Hp} {Q : VK} (h : tE K B (sA cap gi q g) σ H Q) : IB K (LL K B gi) cap (fun σ H Q => ∃ B, tQ K B q σ H Q) (fun σ H Q => ∃ B, tD K B g σ H Q) σ H Q := by
  obtain⟨x,_⟩:∃x:Str,True:=⟨"",trivial⟩
  obtain⟨S,F,u,S',R,hg,k⟩:=h
  obtain⟨⟨ds,S1⟩,h1,hg⟩:=ah hg
  dsimp only at hg
  split at hg
  . rename_i hlen
    obtain⟨⟨res,Sf⟩,h2,hg⟩:=az hg
    cases hg
    refine⟨S,F,ds,S1,R,h1,fun J F1 H1 R1 st1 w=>?_⟩
    refine⟨fun i m ys H'=>∃S2 F2 acc,Rel K B S2 σ F2 H'/\Step S S2 σ F H F2 H'/\(∀b o,F1 b=some o->F2 b=some o)/\bw F2 ys acc/\acc.length<=i/\i<=ds.length/\m=ds.length - i/\gn cap q g (ds.drop i) S2 acc=some (res,Sf),
      ⟨_,S1,F1,[],R1,st1,fun _ _ z=>z,.nil,Nat.le_refl _,Nat.zero_le _,rfl,h2⟩,?_⟩
    rintro i m ys H' ⟨S2,F2,acc,R2,st2,le,ry,ha,hl,rfl,eO⟩
    refine⟨by rw[ry.length];exact Nat.lt_of_le_of_lt (Nat.le_trans ha (Nat.le_trans hl hlen)) (by decide),?_⟩
    have w':=w F2 H' le R2.sub i
    by_cases hlt:i < ds.length
    . have hd:ds[i]? =some ds[i]:=List.getElem?_eq_getElem hlt
      obtain⟨go,yl⟩:=w'.1 _ hd
      rw[List.drop_eq_getElem_cons hlt] at eO
      refine .inr ⟨go,fun xv H3 y=>?_⟩
      obtain⟨FN,n3,UO,rx⟩:=yl xv H3 y
      obtain⟨da,db,UP⟩:∃da db,ds[i]= .tup [da,db]:=by
        generalize ds[i]=dd at eO
        unfold gn at eO
        split at eO
        . rename_i z;cases z
        . rename_i z;injection z with z1 z2;exact⟨_,_,z1⟩
        . cases eO
      have R2:Rel K B S2 σ FN H3:=R2.new n3 UO
      have st2:Step S S2 σ F H FN H3:=st2.trans n3.step
      have le:∀b o,F1 b=some o->FN b=some o:=fun b o z=>n3.le b o (le b o z)
      have ry:=ry.le n3.le
      rw[UP] at eO rx
      obtain⟨pa,WR,UQ,WS,hpa,CC⟩:=R2.sub.jZ rx
      obtain⟨x1,x2,exs,UR,US⟩:=CU CC
      subst exs UQ
      obtain⟨us,e1,eO⟩:=ah (show(bL S2 cap).bind _=_ from eO)
      split at eO
      . rename_i hnd
        obtain⟨ws,e2,eO⟩:=ah eO
        obtain⟨⟨bk,T1⟩,e3,eO⟩:=ah eO
        obtain⟨vs,k1,k2⟩:=yW R2 e1
        have rr:Paired (fun v u=>jH K B S2 σ H3 FN H3 v u) (x1 :: x2 :: vs) (.t da :: .t db :: us):=.cons UR (.cons US k2)
        have er:=rY R2 da (rY R2 db e2)
        have ar:=q9 R2 rr er
        have nd:=fq R2 rr er hnd.1 hnd.2
        have R3:=pH (n:=ws.length+2) R2.sub ar nd (List.replicate (ws.length+2) x) (by simp)
        have hvl:vs.length=ws.length:=by have:=ar.length;simpa using this
        have es:start (List.replicate (ws.length+2) x) (x1 :: x2 :: vs)=some x1 :: some x2 :: bU cap σ:=by
          unfold start;rw[k1];simp[hvl]
        have eS:(U.t da :: U.t db :: ws).map some++List.replicate (ws.length+2 - (U.t da :: U.t db :: ws).length) none=some (U.t da) :: some (U.t db) :: ws.map some:=by simp
        rw[es,eS] at R3
        have back:∀(T2:SS) (F3 H4:Hp) (outs:List MO) (S3:SS),Rel K ⟨lent (x1 :: x2 :: vs) (U.t da :: U.t db :: ws),FN,H3⟩ T2 (some x1 :: some x2 :: bU cap σ) F3 H4->aJ (U.t da :: U.t db :: ws) T2=some outs->wb us outs S2=some S3->Rel K B S3 σ F3 H4/\Step S S3 σ F H F3 H4/\(∀b o,FN b=some o->F3 b=some o):=fun T2 F3 H4 outs S3 RT ho hw=>by
          have po:=post_of ar T2 _ F3 H4 outs RT ho
          obtain⟨Ra,A8,_⟩:=nK (S0:=S2) (F0:=FN) (H0:=H3) R2 (Step.refl ..) rr er (show wb (U.t da :: U.t db :: us) outs S2=some S3 by cases outs <;> exact hw) hnd.1 po
          exact⟨Ra,st2.trans A8,A8.ext.le⟩
        refine⟨pa,x1,x2,rfl,.inl hpa,_,_,FN,bk,T1,R3,e3,fun F3 H4 Ly Pd=>?_⟩
        cases bk with
        | true=>
          obtain⟨⟨yd,T2⟩,e4,eO⟩:=ah (show(g T1).bind _=_ from eO)
          obtain⟨outs,e5,eO⟩:=ah eO
          obtain⟨S3,e6,eO⟩:=ah eO
          refine Co ⟨_,T1,F3,yd,T2,Ly,e4,fun yv F4 H5 Pe Pf Pg=>?_⟩
          obtain⟨Ra,A8,CJ⟩:=back T2 F4 H5 outs S3 Pe e5 e6
          refine⟨ds.length - (i+1),by omega,S3,F4,acc++[yd],Ra,A8,fun b o z=>CJ b o (le b o z),(ry.le CJ).append (.cons Pg .nil),by simp;omega,hlt,rfl,eO⟩
        | false=>
          obtain⟨outs,e5,eO⟩:=ah (show(aJ (U.t da :: U.t db :: ws) T1).bind _=_ from eO)
          obtain⟨S3,e6,eO⟩:=ah eO
          obtain⟨Ra,A8,CJ⟩:=back T1 F3 H4 outs S3 Ly e5 e6
          exact Cn ⟨ds.length - (i+1),by omega,S3,F3,acc,Ra,A8,fun b o z=>CJ b o (le b o z),ry.le CJ,by omega,hlt,rfl,eO⟩
      . cases eO
    . have e:i=ds.length:=by omega
      subst e
      rw[List.drop_length] at eO
      cases eO
      refine .inl ⟨w'.2 (Nat.le_refl _),fun p hp=>?_⟩
      have n:=iB.obj (F:=F2) hp (.lst ys)
      refine k (.ref p) F2 _ (R2.new n (R2.sub.same n.same)) (st2.trans n.step) ⟨p,rfl,none_of st2.ext.there hp,R2.sub.fresh hp,⟨ys,aL,ry⟩,fun m=>?_,none_of R2.ext.there hp⟩
      obtain⟨o,ho⟩:=R2.has m
      rw[hp] at ho
      cases ho
  . cases hg
theorem Bh {X:Cx}{elt iter:Expr}{ifs:List Expr}{x y0:Str}{px py pt pos:Pos}{k0:Nat}{scope:Scope}{cl:List (Str×Addr)}{bB:List Str}{cap:List Nat}{gi:GI}{q:GT}{g:GD}(T:oG X x y0 bB cap scope cl) (hc:X.calm=true) (hi:Nj X (.Tuple [.Name x px,.Name y0 py] k0 pt) iter gi)
  (ht:∀C s H fp,Nh (cX X (x :: y0 :: bB) scope cl C s H fp) ifs q) (he:∀C s H fp,JD (cX X (x :: y0 :: bB) scope cl C s H fp) elt g)
  (hs:∀x,foldedSetIterable iter X.env x=pure x:=by intro _;rfl):JE X (.ListComp elt [⟨.Tuple [.Name x px,.Name y0 py] k0 pt,iter,ifs,0⟩] scope pos) (sA cap gi q g):=⟨fun B=>
 (Bg (tc:=fun σ H Q=>∃B,tQ X.K B q σ H Q) (te:=fun σ H Q=>∃B,tD X.K B g σ H Q) T hc (hi.h B) (fun C s H fp pins s' σ H' Q I ⟨B',z⟩=>(ht C s H fp).h B' pins s' σ H' Q I z) (fun C s H fp pins s' σ H' Q I ⟨B',z⟩=>(he C s H fp).h B' pins s' σ H' Q I z) hs).imp fun σ H Q h=>ze h⟩
section
variable {X:Cx}{tg a b:Expr}{p pos:Pos}{ta:TA}{gA:GA}
variable {p2 pos2:Pos}
end
end L2
end
section
namespace L2
open PySem PySem.Spec PyProof.Rows
section
variable {M:Model}{A:Around}{E:Value->Shared->Prop}{s:Shared}{Q:Value->Shared->Prop}
end
noncomputable def GR (g g':GS):GS:=fun S=>(g S).or (g' S)
theorem GV {X:Cx}{st:List Stmt}{g g':GS}(h:JB X st g) (h':JB X st g'):JB X st (GR g g'):=⟨fun B pins s σ H Q I ⟨S,F,o,R,hg,q⟩=>by
 unfold GR at hg
 cases e:g S with
 | some o'=>
  rw[e] at hg
  exact h.h B pins s σ H Q I ⟨S,F,o,R,by rw[e];exact hg,q⟩
 | none=>
  rw[e] at hg
  exact h'.h B pins s σ H Q I ⟨S,F,o,R,hg,q⟩⟩
section
variable {prog:Program}{w:World}{K:Type} [DecidableEq K] {knd:HeapKind prog w K}{A:Around}{E:Value->Shared->Prop}{s:Shared}
theorem xB {d a : Addr} {xs : List (K × Addr × Value)} {k : K} {dflt : Value} {Q : Value -> Shared -> Prop} (hu : knd.room A) (hkey : knd.is s.heap k a) (hm : s.heap.DictOfH knd d xs)
    (h1:∀v,(atKey xs k).map (·.2)=some v->Q v {s with toks:=s.toks+knd.draws k})
    (h2:atKey xs k=none->∀h',h'.DictOfH knd d (storedH xs k a dflt)->Heap.SameBut d s.heap h'->Q dflt {s with heap:=h',toks:=s.toks+knd.draws k})
    (hsz:xs.length<=sizeLine):wpAny (model prog w) A (dictSetDefault d (.ref a) dflt) Q E s:=by
  obtain⟨o,es,ep,ho,hc,hd,he,his,hn⟩:=hm
  unfold dictSetDefault
  try with_reducible refine wpAny_holding ?_
  refine wpAny_bind (knd.pyHash hu hkey ?_)
  refine wpAny_bind (wpAny_dictFind_heap (s:={s with toks:=s.toks+knd.draws k}) hu hkey ho hd he his hn ?_ ?_)
  . intro hno
    have hnot:k∉xs.map (·.1):=not_mem_keys_of_get hno
    refine wpAny_bind (wpAny_rule (wpAny_bind (wpAny_updateDictKeys (hz:=by have e:=size_of_entries he;omega) (s:={s with toks:=s.toks+knd.draws k}) ho hd (wpAny_pure (h2 (atKey_none_of_get hno) _ ⟨_,_,ep+1,Heap.get?_update_self _ ho (Obj.isFreed_of_dict (Obj.data_mapDictKeys hd _)),
      hc.mapDictKeys _,Obj.data_mapDictKeys hd _,?_,?_,?_⟩ (Heap.SameBut.update ..))))))
    . rw[storedH_new (atKey_none_of_get hno)]
      simp[he,entryOfKey]
    . rw[storedH_new (atKey_none_of_get hno)]
      intro x hx
      rcases List.mem_append.mp hx with hx | hx
      . exact knd.keeps (his x hx) ho hd (Heap.SameBut.update ..)
      . simp only[List.mem_singleton] at hx
        subst hx
        exact knd.keeps hkey ho hd (Heap.SameBut.update ..)
    . rw[storedH_new (atKey_none_of_get hno)]
      rw[List.map_append,List.nodup_append]
      refine⟨hn,by simp,?_⟩
      intro x hx y hy
      simp only[List.map_cons,List.map_nil,List.mem_singleton] at hy
      subst hy
      exact fun e=>hnot (e▸hx)
  . intro j p hj
    refine wpAny_bind (wpAny_dictEntries (s:={s with toks:=s.toks+knd.draws k}) ho hd ?_)
    rw[entry_at he j,hj]
    exact wpAny_bind (wpAny_rule (wpAny_pure (h1 _ (by rw[atKey_of_get hn hj];rfl))))
theorem ni (knd:HeapKind prog w K) (d a:Addr) (hd:(d == sysModules)=false) (dflt:Value):
  MeetsIn prog w (Builtin.«dict.setdefault» ⟨[.ref d,.ref a,dflt],[]⟩) (fun A R s=>knd.room A.in1/\∃k xs,knd.is s.heap k a/\s.heap.DictOfH knd d xs/\xs.length<=sizeLine/\
   (∀v,(atKey xs k).map (·.2)=some v->R (.ok (.ret v)) {s with toks:=s.toks+knd.draws k})/\
   (atKey xs k=none->∀h',h'.DictOfH knd d (storedH xs k a dflt)->Heap.SameBut d s.heap h'->R (.ok (.ret dflt)) {s with heap:=h',toks:=s.toks+knd.draws k})):=
 .of_wp fun A R s ⟨hu,k,xs,hkey,hm,hz,h1,h2⟩=>by
  unfold Builtin.«dict.setdefault»
  refine wpAny_bind ?_
  unfold Builtin.Dict.keyAndDefault
  refine wpAny_bind (wpAny_notOrdered_dict hm.typeIs ?_)
  show wpAny _ _ (pure (d,Value.ref a,some dflt)) _ _ s
  refine wpAny_pure ?_
  show wpAny _ _ (if(d == sysModules)=true then _ else(dictSetDefault d (.ref a) dflt >>= _)) _ _ s
  rw[if_neg (by rw[hd];exact Bool.false_ne_true)]
  exact wpAny_bind (xB hu hkey hm (fun v hv=>wpAny_pure ⟨v,rfl,h1 v hv⟩) (fun hn h' hm' hs'=>wpAny_pure ⟨dflt,rfl,h2 hn h' hm' hs'⟩) hz)
end
noncomputable def LR (H:Hp) (a:Addr) (y v r:V) (H':Hp):Prop:=(iz H a y (some r)/\H'=H)\/(iz H a y none/\r=v/\rO H a y v H')
theorem IC {y:V}{k k':Key}(a:Ey y k) (b:Ey y k'):k=k':=by
 rcases a with rfl | ⟨c,rfl,rfl⟩ <;> rcases b with e | ⟨c',e,rfl⟩
 ·exact HH e
 ·cases k <;> cases e
 ·cases k' <;> cases e
 ·cases e;rfl
section
variable {X:Cx}{pins:List (Addr×Obj)}{σ:St}{H:Hp}{s:Shared}{a:Addr}{y v r:V}{u z:Value}{A:Around}{E:Value->Shared->Prop}
theorem CV {H' : Hp} {Q : Value -> Shared -> Prop} (hu : A.units + 20 < cLine) (I : Inv X pins σ H s) (g : LR H a y v r H') (ry : RelV y u) (rv : RelV v z) (h : ∀ w' s', Inv X pins σ H' s' -> RelV r w' -> Q w' s') :
    wpAny (model X.prog X.w) A (call (.builtin "dict.setdefault") [.ref a,u,z]) Q E s:=by
  rcases g with⟨g,rfl⟩ | ⟨g,rfl,p⟩
  . rcases g with⟨kvs,k,e,ey,l⟩ | ⟨kvs,k,b,e,ey,eb,l⟩
    . obtain⟨hz,hd,vs,rel,dd⟩:=qm I.hok e
      obtain⟨w',hw,rw'⟩:=lD.some_of (v:=r) (o:=valueAt vs k) (by rw[l];exact rel.val k)
      refine call_meetsIn PySem.F.slot_dict_setdefault dd.typeIs PySem.F.entry_dict_setdefault (PySem.F.args_dict_setdefault_3 _ _ _) (kt_meets_setdefault (fW X.prog X.w) a (ey.is ry) hd z) ⟨vs,dd,by rw[<-rel.length];exact hz,fun x hx=>?_,fun hn=>?_⟩
      . rw[hw] at hx
        cases hx
        exact h _ _ (I.tok _) rw'
      . rw[hw] at hn;cases hn
    . subst ey
      cases(show u=Value.ref b from ry)
      obtain⟨hz,hd,xs,rel,dd⟩:=rN I.hok e
      obtain⟨w',hw,rw'⟩:=lD.some_of (v:=r) (o:=(atKey xs k).map (·.2)) (by rw[l];exact rel.val k)
      refine call_meetsIn PySem.F.slot_dict_setdefault dd.typeIs PySem.F.entry_dict_setdefault (PySem.F.args_dict_setdefault_3 _ _ _) (ni (iC X.prog X.w) a b hd z) ⟨fL hu,k,xs,kK I.hok eb,dd,by rw[<-Paired.length rel];exact hz,fun x hx=>?_,fun hn=>?_⟩
      . rw[hw] at hx
        cases hx
        exact h _ _ (I.tok _) rw'
      . rw[hn] at hw;cases hw
  . rcases p with⟨kvs,k,e,ey,hl,rfl⟩ | ⟨kvs,k,b,e,ey,eb,hl,rfl⟩
    . have l:lF kvs k=none:=by
        rcases g with⟨kvs',k',e',LS,l⟩ | ⟨kvs',k',b',e',LS,eb',l⟩
        . have:=IC ey LS
          subst this
          rcases e' with e' | ⟨w,e'⟩
          . rw[e] at e';cases e';exact l.symm
          . rw[e] at e';cases e'
        . rcases e' with e' | ⟨w,e'⟩ <;> (rw[e] at e';cases e')
      obtain⟨hz,hd,vs,rel,dd⟩:=B7 I.hok e
      have hn:valueAt vs k=none:=lD.none_of (by rw[<-l];exact rel.val k)
      refine call_meetsIn PySem.F.slot_dict_setdefault dd.typeIs PySem.F.entry_dict_setdefault (PySem.F.args_dict_setdefault_3 _ _ _) (kt_meets_setdefault (fW X.prog X.w) a (ey.is ry) hd z) ⟨vs,dd,by rw[<-rel.length];exact hz,fun x hx=>?_,fun _ h' BI hs=>?_⟩
      . rw[hn] at hx;cases hx
      . have hl':(putK kvs k r).length<=sizeLine:=by have:=je kvs k r;omega
        have he:∃q,h'.get? a=some q:=let⟨q,_,_,hq,_⟩:=BI;⟨q,hq⟩
        exact h _ _ (nX I (by rw[e];exact True.intro) hs he (vd hl' hd (rel.put k rv) BI)) rv
    . subst ey
      cases(show u=Value.ref b from ry)
      have l:lF kvs k=none:=by
        rcases g with⟨kvs',k',e',LS,l⟩ | ⟨kvs',k',b',e',LS,eb',l⟩
        . rcases e' with e' | ⟨w,e'⟩ <;> (rw[e] at e';cases e')
        . cases LS
          have kk:k=k':=(kK I.hok eb).1.inj (kK I.hok eb').1
          subst kk
          rcases e' with e' | ⟨w,e'⟩
          . rw[e] at e';cases e';exact l.symm
          . rw[e] at e';cases e'
      obtain⟨hz,hd,xs,rel,dd⟩:=B9 I.hok e
      have hn:(atKey xs k).map (·.2)=none:=lD.none_of (by rw[<-l];exact rel.val k)
      refine call_meetsIn PySem.F.slot_dict_setdefault dd.typeIs PySem.F.entry_dict_setdefault (PySem.F.args_dict_setdefault_3 _ _ _) (ni (iC X.prog X.w) a b hd z) ⟨fL hu,k,xs,kK I.hok eb,dd,by rw[<-Paired.length rel];exact hz,fun x hx=>?_,fun _ h' BI hs=>?_⟩
      . rw[hn] at hx;cases hx
      . have hl':(putK kvs k r).length<=sizeLine:=by have:=je kvs k r;omega
        obtain⟨q,es,ep,hq,h2,h3,h4,_,h5⟩:=BI
        refine h _ _ (nX I (by rw[e];exact True.intro) hs ⟨q,hq⟩ ⟨hl',hd,_,(rel.put k eb rv).keeps fun c ys ec=>?_,q,es,ep,hq,h2,h3,h4,h5⟩) rv
        rw[aE (Gq ec e (fun z=>nomatch z))]
        exact ec
end
noncomputable def LU (td ty tx:TE):TE:=fun σ H Q=>td σ H fun x H1=>∃a,x= .ref a/\Na H1 a/\ty σ H1 fun y H2=>tx σ H2 fun z H3=>∃r H4,LR H3 a y z r H4/\Q r H4
section
variable {X:Cx}{o e f:Expr}{td ty tx:TE}{x:Str}{px pos apos cpos:Pos}{gk gd:GD}
theorem E9 (hu:X.A.units+20 < cLine) (ho:PE X o td) (he:PE X e ty) (hf:PE X f tx) (m:M2 X o "setdefault" apos e f cpos):PE X (.Call (.Attribute o "setdefault" apos) [e,f] [] cpos) (LU td ty tx):=by
 intro pins s σ H Q I h
 refine wpAny_Call_method m.base m.few m.line PySem.F.plainAttrs_dict PySem.F.slot_dict_setdefault PySem.F.type_dict_setdefault (fM (ho pins s σ H _ I h) fun u s1 ⟨x,H1,I1,rx,a,ex,d,q1⟩=>?_)
 subst ex
 obtain rfl:u=Value.ref a:=rx
 obtain⟨t1,t2,_⟩:=Ce I1 d
 refine⟨t1,t2,?_⟩
 rw[m.trees]
 refine Calls.callWith_builtin rfl (Calls.evalArgs_plain (Calls.spliced_cons (fM (he pins s1 σ H1 _ I1 q1) fun iv s2 ⟨y,H2,I2,ry,q2⟩=>
  Calls.spliced_cons (fM (hf pins s2 σ H2 _ I2 q2) fun fv s3 ⟨z,H3,I3,rz,ov,H4,g,q3⟩=>Calls.spliced_nil ?_))))
 exact CV hu I3 g ry rz fun w' s4 I4 rw'=>⟨_,H4,I4,rw',q3⟩
noncomputable def Fb (o:MO) (k d:D):Option (D×MO):=match o with
 | .dct kvs=>(keyOf k).bind fun kk=>match aV kvs kk with
  | some e=>some (e,.dct kvs)
  | none=>if kvs.length < 100000 then some (d,.dct (putD kvs kk d)) else none
 | .mX kvs=>(j9 k).bind fun kk=>match aV kvs kk with
  | some e=>some (e,.mX kvs)
  | none=>if kvs.length < 10000000 then some (d,.mX (putD kvs kk d)) else none
 | _=>none
noncomputable def xC (i:Nat) (gk gd:GD):GD:=fun S=>match S[i]? with
 | some (some u)=>if su u then(gk S).bind fun p=>(gd p.2).bind fun q=>j8 q.2 i fun o=>Fb o p.1 q.1
  else none
 | _=>none
theorem CW {H:Hp}{a:Addr}{o:HO}(e:H a=some o):upd H a o=H:=by
 funext b
 by_cases h:b=a
 ·subst h;rw[aL,e]
 ·rw[aE h]
theorem Aj {i : Nat} (hu : X.A.units + 20 < cLine) (he : JD X e gk) (hf : JD X f gd) (hN : X.N[i]? = some x := by rfl) (hv : AR X.env.scope x := by first | exact Or.inl rfl | exact Or.inr (Or.inl rfl) | exact Or.inr (Or.inr rfl))
    (hb:attributeBase (.Name x px) "setdefault" X.env (eval (.Name x px) X.env)=eval (.Name x px) X.env:=by rfl)
    (hfew:((backTo cpos (starEach [e,f] X.env)).all (fun x=>!x.1) && (backToKw cpos (keywordEach [] X.env)).all (fun x=>x.1.isSome) && decide (([e,f]:List Expr).length+([]:List Keyword).length+(if([]:List Keyword).isEmpty then 0 else 1) < 30))=true:=by rfl)
    (hline:(apos.endLine == cpos.line)=true:=by rfl) (htr:backTo cpos (starEach [e,f] X.env)=[(false,eval e X.env),(false,eval f X.env)]:=by rfl) (hd:(x == ("__debug__":Str))=false:=by decide) (hcd:(x == ("__classdict__":Str))=false:=by decide):
    JD X (.Call (.Attribute (.Name x px) "setdefault" apos) [e,f] [] cpos) (xC i gk gd):=
  ⟨fun B => (E9 hu (iF hN hv hd hcd) (he.h B) (hf.h B) ⟨hb, hfew, hline, htr⟩).imp fun σ H Q ⟨S, F, d, S', R, hg, q⟩ => by
    unfold xC at hg
    split at hg
    . rename_i u hS
      split at hg
      . rename_i hD
        obtain⟨⟨d1,S1⟩,h1,hg⟩:=ah hg
        obtain⟨⟨d2,S2⟩,h2,hg⟩:=ah hg
        obtain⟨u2,u',mo,mo',CS,Io,hio,hfo,Eg,rfl⟩:=pG hg
        obtain⟨v0,hv0,r0⟩:=R.rep i u hS
        obtain⟨a,rfl,ha⟩:=xy r0 hD
        refine⟨.ref a,hv0,a,rfl,ha,S,F,d1,S1,R,h1,fun v1 F1 H1 R1 st1 r1=>⟨S1,F1,d2,_,R1,h2,fun v2 F2 H2 R2 st2 r2=>?_⟩⟩
        obtain⟨v3,LO,r3⟩:=R2.rep i u2 CS
        rw[hv0] at LO
        cases LO
        obtain⟨b,o2,e1,fa,e2,k⟩:=r3.cy Io
        cases e1
        rw[hio] at e2
        cases e2
        cases mo with
        | lst ds=>cases hfo
        | ins C kvs=>cases hfo
        | dct kvs=>
          obtain⟨kk,k1,hfo⟩:=ah hfo
          obtain⟨ws,ha1,pr⟩:=k
          have ky:=ir (r1.le st2.ext.le) k1
          cases hl:aV kvs kk with
          | some e0=>
            rw[hl] at hfo
            cases hfo
            obtain⟨v,z1,z2⟩:=iQ pr hl
            obtain⟨R3,st3⟩:=R2.write (ho:=.dK ws) CS Eg hv0 ⟨_,aL,pr⟩
            rw[CW ha1] at R3 st3
            exact⟨v,H2,.inl ⟨by rw[<-z1];exact iz.ky ha1 ky,rfl⟩,q v F2 H2 R3 ((st1.trans st2).trans st3) z2⟩
          | none=>
            rw[hl] at hfo
            obtain⟨hn,hfo⟩:=iP hfo
            cases hfo
            obtain⟨R3,st3⟩:=R2.write (ho:=.dK (putK ws kk v2)) CS Eg hv0 ⟨_,aL,oA pr r2⟩
            exact⟨v2,_,.inr ⟨by rw[<-kD pr hl];exact iz.ky ha1 ky,rfl,rO.ky ha1 ky (by rw[cK pr];exact Nat.lt_of_lt_of_le hn (by decide))⟩,q v2 F2 _ R3 ((st1.trans st2).trans st3) r2⟩
        | mX kvs=>
          obtain⟨kk,k1,hfo⟩:=ah hfo
          obtain⟨ws,ha1,pr⟩:=k
          obtain⟨b',rfl,hb'⟩:=jN R2.sub (r1.le st2.ext.le) k1
          cases hl:aV kvs kk with
          | some e0=>
            rw[hl] at hfo
            cases hfo
            obtain⟨v,z1,z2⟩:=iQ pr hl
            obtain⟨R3,st3⟩:=R2.write (ho:=.dT ws) CS Eg hv0 ⟨_,aL,pr⟩
            rw[CW ha1] at R3 st3
            exact⟨v,H2,.inl ⟨by rw[<-z1];exact iz.t ha1 hb',rfl⟩,q v F2 H2 R3 ((st1.trans st2).trans st3) z2⟩
          | none=>
            rw[hl] at hfo
            obtain⟨hn,hfo⟩:=iP hfo
            cases hfo
            obtain⟨R3,st3⟩:=R2.write (ho:=.dT (putK ws kk v2)) CS Eg hv0 ⟨_,aL,oA pr r2⟩
            exact⟨v2,_,.inr ⟨by rw[<-kD pr hl];exact iz.t ha1 hb',rfl,rO.t ha1 hb' (by rw[cK pr];exact Nat.lt_of_lt_of_le hn (by decide))⟩,q v2 F2 _ R3 ((st1.trans st2).trans st3) r2⟩
      . cases hg
    . cases hg⟩
end
noncomputable def LV:List D->Option U
 | [.lst ds]=>(bC ds).bind fun ns=>if ns.length<=1000 then some (.t (.int (firstMet (fun i=>ns.getD i 0) ns.length).length)) else none
 | _=>none
section
variable {X:Cx}{a:Expr}{pos p p1 p2:Pos}{ga:GD}
end
noncomputable def oH:List D->Option U
 | [d,.cH]=>some (.t (.bl (!xx d)))
 | _=>none
theorem zf {X:Cx}:wV X (compareOp .IsNot) oH:=by
 intro pins s σ H x y v u Q I rx ry ⟨F,ds,w,sb,rs,hw,q⟩
 obtain⟨d,e,rfl,r1,r2⟩:=rW rs
 cases e <;> try (cases d <;> simp[oH] at hw;done)
 cases hw
 cases r2
 refine Es pins s σ H _ _ v u Q I rx ry ⟨rfl,?_⟩
 have k:Rep F (V.bl (!decide (x= .cH))) (.bl (!xx d)):=by
  cases r1 <;> exact .bl _
 exact q _ F H (iB.refl ..) sb k
@[simp] theorem Kc (d:D):oH [d,.cH]=some (.t (.bl (!xx d))):=rfl
theorem Fc:typeLookup (.type "list") "keys" =pure none:=by rw[typeLookup_type,builtinLookup_eq_fast];kernel_rfl
theorem uK:entryFor table "dict.update.loop" =some Builtin.«dict.update.loop»:=entryFor_of_tree (by kernel_rfl)
theorem mR:plainId "dict.update.loop" =true:=by decide +kernel
section
variable {prog:Program}{w:World}{A:Around}{E:Value->Shared->Prop}{s:Shared}
theorem Fd {a:Addr}{o:Obj}{xs:Array Value}{k:Nat}{name:Str}{u:Tok}{Q:Value->Shared->Prop}
  (hx:s.heap.get? a=some o) (hc:o.cls= .type "list") (hdat:o.data= .seq xs k) (hd:o.dict=none) (hmiss:typeLookup (.type "list") name=pure none) (hname:(["__module__","__name__","__qualname__","__doc__","__annotations__"]:List Str).contains name=false) (hA:A.handled=none)
  (h:∀h' tk e,Heap.NewExcOf s.heap h' e "AttributeError"->E (.ref e) {s with heap:=h',toks:=tk}) (hsz:name.length+100<=sizeLine:=by size_fits):
  wpAny (model prog w) A (getAttrBy (.ref a) (.str name u) false) Q E s:=by
 obtain⟨c,dct,dat,sl⟩:=o
 simp only at hc hdat hd
 subst hc hdat hd
 obtain⟨hp,g,d,tk,os⟩:=s
 have hT:∀tk',(⟨hp,g,d,tk',os⟩:Shared).TypeIs (.ref a) "list":=fun _=>⟨_,hx,rfl⟩
 have f1:=sub_AttributeError
 have f3:=F.slot_list_getattribute.lookup
 have f4:=F.slot_list_getattribute.bind (.ref a)
 have f5:=am_list_getattr_none
 unfold getAttrBy
 repeat (any_goals (first | assumption | exact hT _ | ((with_reducible show wpAny _ _ (call (Value.builtin "list.__getattribute__") _ _) _ _ _);refine call_meets F.slot_list_getattribute (hT _) am_entry_list_getattribute (F.args_list_getattribute_2 _ _) (meets_getattribute_miss_list a xs k sl name _ hmiss hname hsz) ⟨hx,hA,fun h' tk' e hx'=>?_⟩) | wp_step))
 obtain⟨t',u',he⟩:=hx'.there
 show wpAny _ _ (getattributeRaised _ _ _ _ _ _ _) _ _ _
 unfold getattributeRaised
 repeat (any_goals (first | assumption | wp_step))
 exact h _ _ _ hx'.of
theorem ID {a:Addr}{o:Obj}{xs:Array Value}{k:Nat}{name:Str}{Q:Option Value->Shared->Prop}
  (hx:s.heap.get? a=some o) (hc:o.cls= .type "list") (hdat:o.data= .seq xs k) (hd:o.dict=none) (hmiss:typeLookup (.type "list") name=pure none) (hname:(["__module__","__name__","__qualname__","__doc__","__annotations__"]:List Str).contains name=false) (hA:A.handled=none)
  (h:∀h' tk e,Heap.NewExcOf s.heap h' e "AttributeError"->Q none {s with heap:=h',toks:=tk}) (hsz:name.length+100<=sizeLine:=by size_fits):
  wpAny (model prog w) A (getAttr? (.ref a) name) Q E s:=by
 unfold getAttr?
 refine wpAny_bind (wpAny_mkText ?_)
 unfold getAttrBy?
 refine wpAny_bind (wpAny_attempt (Fd hx hc hdat hd hmiss hname hA (fun h' tk e n=>?_) hsz))
 obtain⟨ob,vs,h1,h2,_⟩:=n.there
 show wpAny _ _ (isInstance (.ref e) (.type "AttributeError") >>= _) _ _ _
 refine wpAny_bind (wpAny_isInstance (T:="AttributeError") ⟨ob,h1,h2⟩ sub_AttributeError ?_)
 exact wpAny_pure (h h' tk e n)
end
section
variable {prog:Program}{w:World}{A:Around}{R:Result->Shared->Prop}{I:Addr}{fp wr:List Addr}{G:Array GenState->Array GenState->Prop}{n:Nat}{P:Nat->Value->Prop}{St:Nat->Shared->Prop}{K:Type} [DecidableEq K] {knd:KeyKind prog w K}
noncomputable def putAll (ps:Nat->K×Value) (n:Nat):List (K×Value):=(List.range n).foldl (fun kvs i=>stored kvs (ps i).1 (ps i).2) []
theorem qy (ps:Nat->K×Value) (n:Nat):putAll ps (n+1)=stored (putAll ps n) (ps n).1 (ps n).2:=by
 unfold putAll
 rw[List.range_succ,List.foldl_append]
 rfl
theorem CY (W:WalksS prog w A.in1 I fp wr G n P St) (S:Addr) (hSf:S∉fp) (h0:Heap) (ps:Nat->K×Value) (hz:∀i,i<=n->(putAll ps i).length<=sizeLine)
  (hval:∀i v,P i v->∃b o key m,v= .ref b/\b≠S/\b∉wr/\h0.get? b=some o/\o.cls= .type "tuple"/\o.data= .seq #[key,(ps i).2] m/\knd.is (ps i).1 key=true):
  ∀(k i:Nat) (s:Shared) (q:Int) (t:Tok),n - i=k->i<=n->St i s->s.heap.DictOf knd S (putAll ps i)->(∀b o,b≠S->b∉wr->h0.get? b=some o->s.heap.get? b=some o)->
   (∀s',Moved (S :: wr) G s s'->s'.heap.DictOf knd S (putAll ps n)->R (.ok (.ret .none)) s')->
   codeAny (model prog w) A (.builtin "dict.update.loop" ⟨[.ref S,.ref I,.int q t,.none],[]⟩) R s:=by
 have S8:S∉wr:=fun h=>hSf (W.sub _ h)
 have hsub:∀b∈wr,b∈S :: wr:=fun b hb=>List.mem_cons_of_mem _ hb
 intro k
 induction k with
 | zero=>
  intro i s q t hk hi hst hS hh hR
  have hin:i=n:=by omega
  subst hin
  refine codeAny_builtin uK ?_
  rw[Around.under_plainId mR _]
  show wpAny _ A.in1 (pyNext (.ref I) >>= _) _ _ s
  refine wpAny_bind (W.done s _ _ hst fun s' hm=>?_)
  show wpAny _ A.in1 (Builtin.Dict.addKeywords S [] >>= _) _ _ s'
  refine wpAny_bind (wpAny_pure ?_)
  exact wpAny_pure (hR s' (hm.mono hsub) (by
   obtain⟨o,es,ep,ho,rest⟩:=hS
   exact⟨o,es,ep,hm.heap S _ S8 ho,rest⟩))
 | succ k ih=>
  intro i s q t hk hi hst hS hh hR
  have hlt:i < n:=by omega
  refine codeAny_builtin uK ?_
  rw[Around.under_plainId mR _]
  show wpAny _ A.in1 (pyNext (.ref I) >>= _) _ _ s
  refine wpAny_bind (W.item i s _ _ hlt hst fun v s' hP Pp hm=>?_)
  obtain⟨b,o,key,m,rfl,UT,S9,hb,hc,hd,hkey⟩:=hval i v hP
  have hb':s'.heap.get? b=some o:=hm.heap b o S9 (hh b o UT S9 hb)
  have hS':s'.heap.DictOf knd S (putAll ps i):=by
   obtain⟨o,es,ep,ho,rest⟩:=hS
   exact⟨o,es,ep,hm.heap S _ S8 ho,rest⟩
  refine wpAny_bind (wpAny_holding ?_)
  refine wpAny_bind (wpAny_tryCatch ?_)
  unfold Builtin.Dict.pairItems
  refine wpAny_bind (wpAny_typeOf (T:="tuple") ⟨o,hb',hc⟩ ?_)
  rw[if_pos (by decide)]
  refine wpAny_bind (wpAny_seqItems hb' hd (wpAny_pure ?_))
  show wpAny _ A.in1 (holding [key,(ps i).2] (dictSet S key (ps i).2)) _ _ s'
  refine wpAny_holding (wpAny_dictSet_pairs hkey hS' (fun h' hD hsb=>?_) (hz i hi))
  rw[<-qy] at hD
  refine wpAny_pure ⟨plainId_quiet mR _,ih (i+1) _ _ _ (by omega) hlt (W.frame _ s' _ _ Pp (Nat.le_succ _) fun c hc o e=>?_) hD (fun c o hcS hcw e=>?_) fun s'' Pq Pr=>?_⟩
  ·rw[hsb.2 c (fun h:c=S=>hSf (by rw[<-h];exact hc))];exact e
  ·show h'.get? c=some o
   rw[hsb.2 c hcS];exact hm.heap c o hcw (hh c o hcS hcw e)
  ·refine hR s'' (Moved.trans W.gtrans ((hm.mono hsub).then_heap (Nat.le_succ _) fun b o hb e=>?_) Pq) Pr
   rw[hsb.2 b (fun h:b=S=>hb (by rw[h];exact List.mem_cons_self))];exact e
end
section
variable {prog:Program}{w:World}{A:Around}{E:Value->Shared->Prop}{s:Shared}{K:Type} [DecidableEq K] {knd:KeyKind prog w K}
theorem tY {l b:Addr}{o ob:Obj}{m mb:Nat}{k:K}{key x:Value}{Q:Value->Shared->Prop}(hh:A.handled=none) (hl:s.heap.get? l=some o) (hc:o.cls= .type "list") (hd:o.dict=none) (hdat:o.data= .seq #[.ref b] m)
  (hb:s.heap.get? b=some ob) (hbc:ob.cls= .type "tuple") (hbd:ob.data= .seq #[key,x] mb) (hk:knd.is k key=true)
  (h:∀h' tk,h'.DictOf knd s.heap.objs.size (stored [] k x)->(∀c oc,s.heap.get? c=some oc->h'.get? c=some oc)->Q (.ref s.heap.objs.size) {s with heap:=h',toks:=tk}):
  wpAny (model prog w) A (call (.type "dict") [.ref l]) Q E s:=by
 refine callType_codes (Q₁:=fun obj s₁=>obj= .ref s.heap.objs.size/\s₁={s with heap:=s.heap.push {cls:=.type "dict",data:=.dict #[]}}) F.kt_called_dict (F.kt_typeCall_dict_1 _) F.entry_dict_init (kt_code_dict_new _ ⟨rfl,rfl⟩) ?_
 rintro obj s₁ ⟨rfl,rfl⟩
 have hnew:(s.heap.push {cls:=.type "dict",data:=.dict #[]}).DictOf knd s.heap.objs.size []:=Heap.DictOf.new s.heap
 have ol:(s.heap.push {cls:=.type "dict",data:=.dict #[]}).get? l=some o:=Heap.get?_push_of_some _ hl
 refine⟨hnew.typeIs,F.args_dict_init_2 _ _,?_⟩
 unfold Builtin.«dict.__init__»
 refine wpAny_bind ?_
 unfold Builtin.Dict.selfAndRest
 refine wpAny_bind (wpAny_notOrdered_dict hnew.typeIs ?_)
 show wpAny _ _ (pure (s.heap.objs.size,[Value.ref l])) _ _ _
 refine wpAny_pure ?_
 show wpAny _ _ (Builtin.Dict.updateFrom "dict.__init__" s.heap.objs.size (.ref l) [] .none) _ _ _
 unfold Builtin.Dict.updateFrom
 refine wpAny_bind (wpAny_typeOf (T:="list") ⟨o,ol,hc⟩ ?_)
 rw[if_pos (by decide)]
 refine wpAny_bind (ID ol hc hdat hd Fc (by decide +kernel) (by simpa using hh) fun h1 WT e1 ne=>?_)
 rw[if_pos (show(none:Option Value).isNone=true from rfl)]
 have Tc:h1.DictOf knd s.heap.objs.size []:=by
  obtain⟨o',es,ep,ho,r⟩:=hnew
  exact⟨o',es,ep,ne.keeps _ _ ho,r⟩
 have Td:h1.IsList l #[.ref b]:=⟨o,ne.keeps _ _ ol,hc,m,hdat⟩
 refine wpAny_bind (wpAny_rule ?_)
 refine wpAny_bind (wpAny_pyIter_list Td ?_)
 have nS:s.heap.objs.size < h1.objs.size:=by
  obtain⟨o',es,ep,ho,r⟩:=Tc
  exact Heap.lt_size ho
 have nl:l < s.heap.objs.size:=Heap.lt_size hl
 have nb:b < s.heap.objs.size:=Heap.lt_size hb
 have keep:∀c oc,s.heap.get? c=some oc->(h1.push {cls:=.type "list_iterator",data:=.fields #[.ref l,.int 0 0]}).get? c=some oc:=fun c oc z=>Heap.get?_push_of_some _ (ne.keeps _ _ (Heap.get?_push_of_some _ z))
 refine wpAny_pure ⟨plainId_quiet mR _,?_⟩
 refine CY (Walks.list (by simpa using hh) _ l (Nat.ne_of_lt (Nat.lt_trans nl nS)) #[.ref b]).toS s.heap.objs.size ?_ s.heap (fun _=>(k,x)) ?_ ?_ 1 0 _ 0 0 rfl (Nat.zero_le _) ⟨⟨_,Heap.get?_push_size _ rfl,rfl,rfl⟩,Td.push _⟩ (Tc.push _) (fun c oc _ _ z=>keep c oc z) fun s' hm hD=>?_
 ·simp only[List.mem_cons,List.not_mem_nil,or_false,not_or]
  exact⟨Nat.ne_of_lt nS,Nat.ne_of_gt nl⟩
 ·intro i hi
  have:i=0\/i=1:=by have:(#[Value.ref b]).size=1:=rfl;omega
  rcases this with rfl | rfl
  ·exact Nat.zero_le _
  ·rw[qy];show(stored [] k x).length<=_;unfold stored;simp;decide
 ·intro i v hP
  have hP:(#[Value.ref b])[i]? =some v:=hP
  have hi:i=0:=by
   have:=(Array.getElem?_eq_some_iff.mp hP).1
   have z:(#[Value.ref b]).size=1:=rfl
   omega
  subst hi
  cases hP
  refine⟨b,ob,key,mb,rfl,Nat.ne_of_lt nb,?_,hb,hbc,hbd,hk⟩
  simp only[List.mem_cons,List.not_mem_nil,or_false]
  exact Nat.ne_of_lt (Nat.lt_trans nb nS)
 ·obtain⟨h',g',d',tk',os'⟩:=s'
  have eg:g'=s.gens:=hm.gens
  have ed:d'=s.drawn:=hm.drawn
  have eo:os'=s.os:=hm.os
  subst eg;subst ed;subst eo
  refine⟨rfl,h h' tk' hD fun c oc z=>?_⟩
  have nc:c < s.heap.objs.size:=Heap.lt_size z
  refine hm.heap c oc ?_ (keep c oc z)
  simp only[List.mem_cons,List.not_mem_nil,or_false,not_or]
  exact⟨Nat.ne_of_lt nc,Nat.ne_of_lt (Nat.lt_trans nc nS)⟩
end
noncomputable def oJ:List D->Option U
 | [.lst [.tup [k,x]]]=>(keyOf k).map fun kk=>.m (.dct [(kk,x)])
 | _=>none
theorem xD {d:D}{u:U}(h:oJ [d]=some u):∃k x kk,d= .lst [.tup [k,x]]/\keyOf k=some kk/\u= .m (.dct [(kk,x)]):=by
 unfold oJ at h
 split at h
 ·rename_i k x e
  cases e
  obtain⟨kk,h1,h2⟩:=az h
  exact⟨k,x,kk,rfl,h1,h2.symm⟩
 ·cases h
section
variable {X:Cx}{a:Expr}{pos p p1 p2:Pos}{ga:GD}
theorem Bj (hc : X.calm = true) (UU : Gl X "dict") (hm1 : X.mg "dict" = none) (ha : JD X a ga) (hs2 : starEach [a] X.env = (false, eval a X.env) :: starEach [] X.env := by rfl) :
    JE X (.Call (.Name "dict" p) [a] [] pos) (eP oJ (aa ga ao)):=⟨fun B=>by
  rintro pins s σ H Q I ⟨S,F,u,S',R,hg,q⟩
  obtain⟨⟨dl,S1⟩,h1,hg⟩:=ah hg
  obtain⟨w',h2,hg⟩:=az hg
  cases hg
  obtain⟨⟨d,S2⟩,h3,h1⟩:=ah h1
  obtain⟨⟨dr,S3⟩,h4,h1⟩:=az h1
  cases h4
  cases h1
  obtain⟨k,x,kk,rfl,hk,rfl⟩:=xD h2
  refine wpAny_Call_Name_kw (rK I UU hm1 PyProof.Rows.Boot.dict ?_ (by decide) (by decide))
  refine PyProof.Rows.callWith_type1 (fM (mJ (ha.h B) pC hs2 pos pins s σ H (fun vs H1=>∃v F1,vs=[v]/\Rel X.K B S2 σ F1 H1/\Step S S2 σ F H F1 H1/\Rep F1 v (.lst [.tup [k,x]])) I ⟨S,F,_,S2,R,h3,fun v F1 H1 R1 st1 r1=>⟨v,F1,rfl,R1,st1,r1⟩⟩) ?_) hs2 rfl
  rintro us s1 ⟨vs,H1,I1,r1,v,F1,rfl,R1,st1,rd⟩
  obtain⟨a',vs',rfl,fa,hla,nI⟩:=R1.sub.jJ rd
  obtain⟨u',rfl,ru⟩:=vals1 r1
  cases ru
  cases nI with
  | cons rt rr =>
    cases rr
    obtain⟨b,vb,rfl,fb,hlb,LW⟩:=R1.sub.jZ rt
    cases LW with
    | cons rk LW =>
      cases LW with
      | cons rx LW =>
        cases LW
        rename_i kv xv
        obtain⟨its,rv,pl,hz⟩:=I1.list (.inl hla)
        obtain⟨itb,jk,pb,WU⟩:=I1.tuple (.inl hlb)
        cases rv with
        | cons r0 rv=>
          cases rv
          cases r0
          cases jk with
          | cons r2 jk=>
            cases jk with
            | cons r3 jk=>
              cases jk
              rename_i ku xu
              obtain⟨o,n,e1,e2,e3,e4⟩:=pl
              obtain⟨ob,e5,e6,nb,e7⟩:=pb
              have ky:=ir rk hk
              refine tY (knd:=fW X.prog X.w) (I1.ok.hd hc) e1 e2 e3 e4 e5 e6 e7 (ky.is r2) fun h' tk hD keep=>?_
              have rel:KV [(kk,xv)] (stored [] kk xu):=by
                have:KV (putK [] kk xv) (stored [] kk xu):=KV.put .nil kk r3
                exact this
              have hsm:(s1.heap.objs.size == sysModules)=false:=by
                rw[beq_eq_false_iff_ne]
                exact Nat.ne_of_gt I1.big
              have I2:=I1.laid (a:=s1.heap.objs.size) (o:=.dK [(kk,xv)]) (h':=h') (t':=tk) keep (Nat.le_refl _) (vd (by show 1<=sizeLine;decide) hsm rel hD)
              have hp:H1 s1.heap.objs.size=none:=I1.hok.fresh (Nat.le_refl _)
              have nw:=iB.obj (F:=F1) hp (.dK [(kk,xv)])
              refine⟨.ref s1.heap.objs.size,_,I2,rfl,?_⟩
              exact q _ F1 _ (R1.new nw (R1.sub.same nw.same)) (st1.trans nw.step) (Cz.Ic (u:=.m (.dct [(kk,x)])) R1 st1 ⟨_,rfl,hp,R1.sub.fresh hp,_,aL,.cons ⟨rfl,rx⟩ .nil⟩)⟩
end
structure NB (B B':Base) (N:List Addr):Prop where
 p:B'.P=B.P
 f:B'.F=B.F
 out:∀c,c∉N->B'.H c=B.H c
 new:∀c,c∈N->B.H c=none/\¬B.M c/\B.F c=none
structure NR (K:PySem.W.Frag) (B B':Base) (S:SS) (σ:St) (F H:Hp) (a:Addr) (bs:List Addr) (nest:List (List D)):Prop where
 r:Rel K B' S σ F H
 b:NB B B' (a :: bs)
 na:a∉bs
 nd:bs.Nodup
 top:B'.H a=some (.lst (bs.map V.ref))
 len:bs.length=nest.length
 ins:∀(k:Nat) c ds,bs[k]? =some c->nest[k]? =some ds->∃vs,B'.H c=some (.lst vs)/\bw F vs ds
noncomputable def Fe (K:PySem.W.Frag) (B:Base) (S:SS) (σ:St) (F H:Hp) (a:Addr) (nest:List (List D)):Prop:=∃B' bs,NR K B B' S σ F H a bs nest
section
variable {K:PySem.W.Frag}{B B':Base}{S S':SS}{σ:St}{F H F' H':Hp}{a:Addr}{bs:List Addr}{nest:List (List D)}
theorem NB.notM {N:List Addr}(n:NB B B' N){c:Addr}(h:c∈N):¬B'.M c:=fun z=>(n.new c h).2.1 (by unfold Base.M at z ⊢;rw[n.p] at z;exact z)
theorem NR.at {c:Addr}{o:HO}(R:NR K B B' S σ F H a bs nest) (hc:c∈a :: bs) (h:B'.H c=some o):H c=some o/\F c=none:=
 ⟨R.r.ext.keep c o h (R.b.notM hc),R.r.ext.iE c o h (R.b.notM hc) (by rw[R.b.f];exact(R.b.new c hc).2.2)⟩
theorem NR.apart {c:Addr}{o:HO}(R:NR K B B' S σ F H a bs nest) (hc:c∈a :: bs) (h:B'.H c=some o):¬cy S σ c:=fun⟨i,u,h1,h2,h3⟩=>by
 cases u with
 | m q=>rw[R.r.own i q c h1 h3] at h;cases h
 | b q=>exact R.b.notM hc (R.r.bor i q c h1 h3)
 | t d=>cases h2
 | v d=>cases h2
 | s d=>cases h2
 | f d=>cases h2
theorem NR.step (R:NR K B B' S σ F H a bs nest) (R':Rel K B' S' σ F' H') (le:∀b o,F b=some o->F' b=some o):NR K B B' S' σ F' H' a bs nest:=
 ⟨R',R.b,R.na,R.nd,R.top,R.len,fun k c ds h1 h2=>let⟨vs,e,r⟩:=R.ins k c ds h1 h2;⟨vs,e,r.le le⟩⟩
theorem NR.bind {σ':St}(R:NR K B B' S σ F H a bs nest) (R':Rel K B' S' σ' F H):NR K B B' S' σ' F H a bs nest:=⟨R',R.b,R.na,R.nd,R.top,R.len,R.ins⟩
theorem NR.app (R : NR K B B' S σ F H a bs nest) {k : Nat} {c : Addr} {ds : List D} {vs : List V} {y : V} {d : D} (hc : bs[k]? = some c) (hn : nest[k]? = some ds) (hv : B'.H c = some (.lst vs)) (rs : bw F vs ds) (ry : Rep F y d) :
    NR K B ⟨B'.P,B'.F,upd B'.H c (.lst (vs++[y]))⟩ S σ F (upd H c (.lst (vs++[y]))) a bs (nest.set k (ds++[d])):=by
  have mc:c∈bs:=List.mem_of_getElem? hc
  have Pu:c∈a :: bs:=List.mem_cons_of_mem _ mc
  have UW:a≠c:=fun z=>R.na (z▸mc)
  obtain⟨hH,hF⟩:=R.at Pu hv
  have ap:=R.apart Pu hv
  have GP:∀b o u,H b=some (.jw o u)->upd H c (.lst (vs++[y])) b=some (.jw o u):=fun b o u z=>by
    rw[aE (fun e=>by rw[e,hH] at z;cases z)];exact z
  refine⟨⟨fun b o z=>?_,R.r.len,fun i u h=>?_,R.r.wR,fun i o b h1 h2=>?_,R.r.bor,R.r.par,⟨R.r.ext.le,fun b o z n=>?_,fun b o z n f=>?_,fun b o z=>?_,fun b o u z=>?_⟩⟩,⟨R.b.p,R.b.f,fun b hb=>?_,R.b.new⟩,R.na,R.nd,?_,by rw[List.length_set];exact R.len,fun j b es h1 h2=>?_⟩
  . rw[aE (fun e=>by rw[e,hF] at z;cases z)];exact R.r.sub b o z
  . obtain⟨v,h1,h2⟩:=R.r.rep i u h
    refine⟨v,h1,h2.le (fun _ _ z=>z) GP fun b hm hb=>⟨fun o q=>?_,?_⟩⟩
    . rw[aE (fun e=>ap ⟨i,u,h,hm,by rw[h1,hb,e]⟩)];exact q
    . obtain⟨b',o,e,f,_⟩:=h2.cy hm
      rw[hb] at e
      cases e
      exact f
  . have z:=R.r.own i o b h1 h2
    show upd B'.H c _ b=none
    rw[aE (fun e=>by rw[e,hv] at z;cases z)]
    exact z
  . have z:upd B'.H c (.lst (vs++[y])) b=some o:=z
    by_cases e:b=c
    . subst e;rw[aL] at z ⊢;exact z
    . rw[aE e] at z ⊢;exact R.r.ext.keep b o z n
  . have z:upd B'.H c (.lst (vs++[y])) b=some o:=z
    by_cases e:b=c
    . subst e;exact hF
    . rw[aE e] at z;exact R.r.ext.iE b o z n f
  . have z:upd B'.H c (.lst (vs++[y])) b=some o:=z
    by_cases e:b=c
    . exact⟨_,by rw[e];exact aL⟩
    . rw[aE e] at z ⊢;exact R.r.ext.there b o z
  . have z:upd B'.H c (.lst (vs++[y])) b=some (.jw o u):=z
    have e:b≠c:=fun e=>by rw[e,aL] at z;cases z
    rw[aE e] at z ⊢
    exact R.r.ext.jw b o u z
  . show upd B'.H c _ b=_
    rw[aE (fun e:b=c=>hb (by rw[e];exact Pu))]
    exact R.b.out b hb
  . show upd B'.H c _ a=_
    rw[aE UW]
    exact R.top
  . show ∃ws,upd B'.H c _ b=_/\_
    by_cases e:j=k
    . subst e
      rw[hc] at h1
      cases h1
      have hl:=(List.getElem?_eq_some_iff.mp hn).1
      rw[List.getElem?_set_self hl] at h2
      cases h2
      exact⟨vs++[y],aL,rs.append (.cons ry .nil)⟩
    . rw[List.getElem?_set_ne (Ne.symm e)] at h2
      obtain⟨ws,e1,r1⟩:=R.ins j b es h1 h2
      have ne:b≠c:=fun z=>e (by
        subst z
        have l1:=(List.getElem?_eq_some_iff.mp h1)
        have l2:=(List.getElem?_eq_some_iff.mp hc)
        obtain⟨p1,q1⟩:=l1
        obtain⟨p2,q2⟩:=l2
        have z1:=R.nd.idxOf_getElem j p1
        have z2:=R.nd.idxOf_getElem k p2
        rw[q1] at z1
        rw[q2] at z2
        rw[<-z1,<-z2])
      exact⟨ws,by rw[aE ne];exact e1,r1⟩
theorem NR.freeze (R : NR K B B' S σ F H a bs nest) {i : Nat} (hi : S[i]? = some (some (.f a))) : ∃ F', Rel K B (S.set i (some (.t (.lst (nest.map D.lst))))) σ F' H /\ (∀ b o, F b = some o -> F' b = some o) := by
  have hl:=(List.getElem?_eq_some_iff.mp hi).1
  have there:∀c,c∈a :: bs->∃o,B'.H c=some o:=fun c hc=>by
    rcases List.mem_cons.mp hc with rfl | m
    . exact⟨_,R.top⟩
    . obtain⟨k,hk⟩:=List.getElem?_of_mem m
      have:k < nest.length:=by rw[<-R.len];exact(List.getElem?_eq_some_iff.mp hk).1
      obtain⟨vs,e,_⟩:=R.ins k c _ hk (List.getElem?_eq_getElem this)
      exact⟨_,e⟩
  let F':Hp:=fun c=>if c∈a :: bs then H c else F c
  have qZ:∀c,c∈a :: bs->F' c=H c:=fun c hc=>if_pos hc
  have out:∀c,c∉a :: bs->F' c=F c:=fun c hc=>if_neg hc
  have le:∀b o,F b=some o->F' b=some o:=fun b o z=>by
    by_cases m:b∈a :: bs
    . rw[qZ b m];exact R.r.sub b o z
    . rw[out b m];exact z
  have back:∀{j:Nat}{w:U},(S.set i (some (.t (.lst (nest.map D.lst)))))[j]? =some (some w)->(i=j/\w= .t (.lst (nest.map D.lst)))\/(i≠j/\S[j]? =some (some w)):=fun {j w} h=>by
    rcases get_set h with⟨e,q,_⟩ | q
    . cases q;exact .inl ⟨e,rfl⟩
    . exact .inr q
  have Pw:σ[i]? =some (some (.ref a)):=by
    obtain⟨v,h1,h2⟩:=R.r.rep i _ hi
    rw[h1]
    exact congrArg (fun z=>some (some z)) h2
  refine⟨F',⟨fun b o z=>?_,by rw[List.length_set];exact R.r.len,fun j u h=>?_,fun j k u w c h1 m1 h2 m2=>?_,fun j o c h=>?_,fun j o c h=>?_,fun j c h=>?_,?_⟩,le⟩
  . by_cases m:b∈a :: bs
    . rw[qZ b m] at z;exact z
    . rw[out b m] at z;exact R.r.sub b o z
  . rcases back h with⟨rfl,rfl⟩ | ⟨ne,q⟩
    . refine⟨.ref a,Pw,.lst (by rw[qZ a List.mem_cons_self];exact(R.at List.mem_cons_self R.top).1) ?_⟩
      have go:∀(cs:List Addr) (ns:List (List D)),cs.length=ns.length->(∀(k:Nat) c ds,cs[k]? =some c->ns[k]? =some ds->c∈a :: bs/\∃vs,B'.H c=some (.lst vs)/\bw F vs ds)->bw F' (cs.map V.ref) (ns.map D.lst):=by
        intro cs
        induction cs with
        | nil=>intro ns e _;cases ns with | nil=>exact .nil | cons=>cases e
        | cons c cs ih=>
          intro ns e h
          cases ns with
          | nil=>cases e
          | cons n ns=>
            obtain⟨m,vs,e1,r1⟩:=h 0 c n rfl rfl
            refine .cons (.lst (by rw[qZ c m];exact(R.at m e1).1) (r1.le le)) (ih ns (by simpa using e) fun k=>h (k+1))
      exact go bs nest R.len fun k c ds h1 h2=>⟨List.mem_cons_of_mem _ (List.mem_of_getElem? h1),R.ins k c ds h1 h2⟩
    . obtain⟨v,h1,h2⟩:=R.r.rep j u q
      refine⟨v,h1,h2.le le (fun _ _ _ z=>z) fun c hm hc=>⟨fun o z=>z,?_⟩⟩
      have nm:c∉a :: bs:=fun m=>by
        obtain⟨o,ho⟩:=there c m
        exact R.apart m ho ⟨j,u,q,hm,by rw[h1,hc]⟩
      rw[out c nm]
      obtain⟨c',o,e,f,_⟩:=h2.cy hm
      rw[hc] at e
      cases e
      exact f
  . rcases back h1 with⟨_,rfl⟩ | ⟨_,q1⟩
    . cases m1
    . rcases back h2 with⟨_,rfl⟩ | ⟨_,q2⟩
      . cases m2
      . exact R.r.wR j k u w c q1 m1 q2 m2
  . rcases back h with⟨_,z⟩ | ⟨_,q⟩
    . cases z
    . intro hc
      have z:=R.r.own j o c q hc
      by_cases m:c∈a :: bs
      . exact(R.b.new c m).1
      . rw[<-R.b.out c m];exact z
  . rcases back h with⟨_,z⟩ | ⟨_,q⟩
    . cases z
    . intro hc
      have z:=R.r.bor j o c q hc
      unfold Base.M at z ⊢
      rw[<-R.b.p];exact z
  . obtain⟨h1,o,h2⟩:=R.r.par j c (by rw[R.b.p];exact h)
    refine⟨h1,o,?_⟩
    have ne:i≠j:=fun z=>by subst z;rw[hi] at h2;cases h2
    rw[List.getElem?_set_ne ne]
    exact h2
  . have old:∀b o,B.H b=some o->b∉a :: bs/\B'.H b=some o:=fun b o z=>by
      have m:b∉a :: bs:=fun m=>by rw[(R.b.new b m).1] at z;cases z
      exact⟨m,by rw[R.b.out b m];exact z⟩
    have mm:∀b,B'.M b->B.M b:=fun b z=>by unfold Base.M at z ⊢;rw[<-R.b.p];exact z
    refine⟨fun b o z=>le b o (R.r.ext.le b o (by rw[R.b.f];exact z)),fun b o z n=>R.r.ext.keep b o (old b o z).2 fun q=>n (mm b q),fun b o z n f=>?_,fun b o z=>R.r.ext.there b o (old b o z).2,fun b o u z=>R.r.ext.jw b o u (old b _ z).2⟩
    rw[out b (old b o z).1]
    exact R.r.ext.iE b o (old b o z).2 (fun q=>n (mm b q)) (by rw[R.b.f];exact f)
end
noncomputable abbrev GN:=Addr->SS->List (List D)->Option (SS×List (List D))
noncomputable def CZ (S:SS) (i:Nat) (a:Addr):Bool:=match S[i]? with
 | some (some (.f b))=>b == a
 | _=>false
theorem zg {S:SS}{i:Nat}{a:Addr}(h:CZ S i a=true):S[i]? =some (some (.f a)):=by
 unfold CZ at h
 split at h
 ·rename_i b e;rw[e,eq_of_beq h]
 ·cases h
noncomputable def tN (K:PySem.W.Frag) (B:Base) (i:Nat) (g:GN):TS:=fun D σ H=>∃S F a nest S' qz,Fe K B S σ F H a nest/\S[i]? =some (some (.f a))/\g a S nest=some (S',qz)/\
 ∀σ' F' H',Fe K B S' σ' F' H' a qz->S'[i]? =some (some (.f a))->(∀b o,F b=some o->F' b=some o)->D.nx σ' H'
structure JN (X:Cx) (i:Nat) (st:Stmt) (g:GN):Prop where
 h:∀B,PS X st (tN X.K B i g)
noncomputable def C0 (i:Nat) (gk gv:GD):GN:=fun a S nest=>(gk S).bind fun p=>match p.1 with
 | .int k=>(wL nest.length k).bind fun j=>(nest[j]?).bind fun ds=>(gv p.2).bind fun q=>if CZ q.2 i a=true/\ds.length < 100000 then some (q.2,nest.set j (ds++[q.1])) else none
 | _=>none
section
variable {X:Cx}{e1 e2:Expr}{pos px ps apos cpos:Pos}{x:Str}{gk gv:GD}{i:Nat}
theorem IE (hk:JD X e1 gk) (hv:JD X e2 gv) (hx:qY e1) (hN:X.N[i]? =some x:=by rfl) (Px:AR X.env.scope x:=by first | exact Or.inl rfl | exact Or.inr (Or.inl rfl) | exact Or.inr (Or.inr rfl))
  (hbase:attributeBase (.Subscript (.Name x px) e1 ps) "append" X.env (eval (.Subscript (.Name x px) e1 ps) X.env)=eval (.Subscript (.Name x px) e1 ps) X.env:=by rfl)
  (hfew:((backTo cpos (starEach [e2] X.env)).all (fun x=>!x.1) && (backToKw cpos (keywordEach [] X.env)).all (fun x=>x.1.isSome)
   && decide (([e2]:List Expr).length+([]:List Keyword).length+(if([]:List Keyword).isEmpty then 0 else 1) < 30))=true:=by rfl)
  (hline:(apos.endLine == cpos.line)=true:=by rfl) (hs:starEach [e2] X.env=(false,eval e2 X.env) :: starEach [] X.env:=by rfl) (hplain:(backTo cpos (starEach [] X.env)).any (·.1)=false:=by rfl)
  (hsw:swapsWith (.Call (.Attribute (.Subscript (.Name x px) e1 ps) "append" apos) [e2] [] cpos) none pos.line X.env=pure false:=by rfl)
  (hd:(x == ("__debug__":Str))=false:=by decide) (hcd:(x == ("__classdict__":Str))=false:=by decide):
  JN X i (.Expr (.Call (.Attribute (.Subscript (.Name x px) e1 ps) "append" apos) [e2] [] cpos) pos) (C0 i gk gv):=⟨fun B=>by
 intro pins s σ H D I ⟨S,F,a,nest,S',qz,⟨B',bs,R⟩,hi,hg,q⟩
 refine(zM (GF PySem.F.plainAttrs_list PySem.F.slot_list_append PySem.F.type_list_append iO (zU vg (iF hN Px hd hcd) (hk.h B') hx) (mJ (hv.h B') pC hs) hbase hfew hline hs hplain) hsw) pins s σ H D I ?_
 unfold C0 at hg
 obtain⟨⟨dk,S1⟩,h1,hg⟩:=ah hg
 dsimp only at hg
 split at hg
 ·rename_i k
  obtain⟨j,h2,hg⟩:=ah hg
  obtain⟨ds,h3,hg⟩:=ah hg
  obtain⟨⟨d,S2⟩,h4,hg⟩:=ah hg
  obtain⟨⟨h5,h6⟩,hg⟩:=iP hg
  cases hg
  have Pw:σ[i]? =some (some (.ref a)):=by
   obtain⟨v,z1,z2⟩:=R.r.rep i _ hi
   rw[z1]
   exact congrArg (fun z=>some (some z)) z2
  refine⟨.ref a,Pw,S,F,_,S1,R.r,h1,fun v1 F1 H1 R1 st1 r1=>?_⟩
  have N1:=R.step R1 st1.ext.le
  have hj:j < bs.length:=by rw[R.len];exact(List.getElem?_eq_some_iff.mp h3).1
  have hb:bs[j]? =some bs[j]:=List.getElem?_eq_getElem hj
  generalize WV:bs[j]=c at hb
  have mc:c∈a :: bs:=List.mem_cons_of_mem _ (List.mem_of_getElem? hb)
  obtain⟨vs,e1,nI⟩:=N1.ins j c ds hb h3
  have hat:fC (bs.map V.ref) k=some (V.ref c):=by
   unfold fC
   rw[List.length_map,R.len,h2]
   show(bs.map V.ref)[j]? =_
   rw[List.getElem?_map,hb]
   rfl
  refine⟨a,bs.map V.ref,k,.ref c,rfl,gF r1,nB.of (N1.at List.mem_cons_self N1.top).1,hat,.inl ⟨rfl,vs,nB.of (N1.at mc e1).1⟩,?_⟩
  refine⟨S1,F1,d,S2,R1,h4,fun v2 F2 H2 R2 st2 r2=>?_⟩
  have N2:=N1.step R2 st2.ext.le
  refine⟨c,vs,v2,rfl,rfl,(N2.at mc e1).1,?_,?_⟩
  ·rw[nI.length];exact Nat.lt_of_lt_of_le h6 (by decide)
  ·exact q σ F2 _ ⟨_,bs,N2.app hb h3 e1 (nI.le st2.ext.le) r2⟩ (zg h5) fun b o z=>st2.ext.le b o (st1.ext.le b o z)
 ·cases hg⟩
end
noncomputable def Ak (bd:GB) (g:GN) (a:Addr):List D->SS->List (List D)->Option (SS×List (List D))
 | [],S,nest=>some (S,nest)
 | d :: ds,S,nest=>(bd d S).bind fun S1=>(g a S1 nest).bind fun q=>Ak bd g a ds q.1 q.2
noncomputable def C1 (i:Nat) (bd:GB) (gi:GI) (g:GN):GN:=fun a S nest=>(gi S).bind fun p=>if CZ p.2 i a=true then Ak (fun d S=>(bd d S).bind fun S1=>if CZ S1 i a=true then some S1 else none) g a p.1 p.2 nest else none
section
variable {X:Cx}{tg iter:Expr}{body:Stmt}{bd:GB}{gi:GI}{g:GN}{i:Nat}{pos:Pos}
theorem IF (hp:PassesOwn (model X.prog X.w) X.A X.env X.xe) (hc:X.calm=true) (hi:Nj X tg iter gi) (hg:JG X tg bd) (hb:JN X i body g) (hs:∀x,foldedSetIterable iter X.env x=pure x:=by intro _;rfl):
  JN X i (.For tg iter [body] [] pos) (C1 i bd gi g):=⟨fun B=>by
 refine(PS.orelse fun D σ H ⟨S,F,a,nest,Sf,nf,⟨B',bs,R⟩,hS,hw,k⟩=>?_)
 refine⟨_,yK hp hc (hi.h B') (g:=fun v σ H Q=>∃B,S5 X.K B bd v σ H Q) (fun pins s σ H v u Q I r ⟨B2,z⟩=>hg.h B2 pins s σ H v u Q I r z) (zL (hb.h B)) hs,?_⟩
 obtain⟨⟨ds,S1⟩,h1,hw⟩:=ah hw
 dsimp only at hw
 obtain⟨UX,hw⟩:=iP hw
 refine⟨S,F,ds,S1,R.r,h1,fun J F1 H1 R1 st1 w=>?_⟩
 refine⟨fun n m σ' H'=>∃S' F' qz,Fe X.K B S' σ' F' H' a qz/\S'[i]? =some (some (.f a))/\(∀b o,F1 b=some o->F' b=some o)/\n<=ds.length/\m=ds.length - n/\Ak (fun d S=>(bd d S).bind fun S1=>if CZ S1 i a=true then some S1 else none) g a (ds.drop n) S' qz=some (Sf,nf),⟨_,S1,F1,nest,⟨B',bs,R.step R1 st1.ext.le⟩,zg UX,fun _ _ z=>z,Nat.zero_le _,rfl,hw⟩,?_⟩
 rintro n m σ' H' ⟨S',F',qz,⟨B2,cs,R'⟩,hS',le,hl,rfl,eO⟩
 have w':=w F' H' le R'.r.sub n
 by_cases hlt:n < ds.length
 ·have hd:ds[n]? =some ds[n]:=List.getElem?_eq_getElem hlt
  obtain⟨go,yl⟩:=w'.1 _ hd
  rw[List.drop_eq_getElem_cons hlt] at eO
  obtain⟨S2,e2,eO⟩:=ah eO
  obtain⟨WW,UY,e2⟩:=ah e2
  obtain⟨CS,e2⟩:=iP e2
  cases e2
  obtain⟨⟨S3,GW⟩,e3,eO⟩:=ah eO
  refine .inr ⟨go,_,fun σ2 H2 z=>⟨ds.length - (n+1),by omega,z⟩,fun x H2 y=>?_⟩
  obtain⟨F2,nw,Pn,rx⟩:=yl x H2 y
  have R2:=R'.r.new nw Pn
  have N2:=R'.step R2 nw.le
  refine⟨B2,S',F2,_,S2,R2,rx,UY,fun σ3 R3=>⟨S2,F2,a,qz,S3,GW,⟨B2,cs,N2.bind R3⟩,zg CS,e3,fun wg F4 H4 R4 UZ qK=>?_⟩⟩
  exact⟨S3,F4,GW,R4,UZ,fun b o z=>qK b o (nw.le b o (le b o z)),hlt,rfl,eO⟩
 ·have e:n=ds.length:=by omega
  subst e
  rw[List.drop_length] at eO
  cases eO
  exact .inl ⟨w'.2 (Nat.le_refl _),k σ' F' H' ⟨B2,cs,R'⟩ hS' fun b o z=>le b o (st1.ext.le b o z)⟩⟩
end
section
variable {K:PySem.W.Frag}{B:Base}{S:SS}{σ:St}{F H:Hp}{a:Addr}{bs:List Addr}{i:Nat}
theorem Ff (R : Rel K B S σ F H) (hl : i < S.length) (nb : ∀ o, S[i]? ≠ some (some (.b o))) (ha : H a = some (.lst (bs.map V.ref))) (hb : ∀ c, c ∈ bs -> H c = some (.lst [])) (na : a ∉ bs) (nd : bs.Nodup)
    (fr:∀c,c∈a :: bs->F c=none/\¬cy S σ c/\B.H c=none/\¬B.M c/\B.F c=none):
    Fe K B (S.set i (some (.f a))) (σ.set i (some (.ref a))) F H a (List.replicate bs.length []):=by
  have hl':i < σ.length:=by rw[<-R.len];exact hl
  have Bk:∀{j:Nat},i≠j->(σ.set i (some (V.ref a)))[j]? =σ[j]?:=fun ne=>List.getElem?_set_ne ne
  have back:∀{j:Nat}{w:U},(S.set i (some (.f a)))[j]? =some (some w)->(i=j/\w= .f a)\/(i≠j/\S[j]? =some (some w)):=fun {j w} h=>by
    rcases get_set h with⟨e,q,_⟩ | q
    . cases q;exact .inl ⟨e,rfl⟩
    . exact .inr q
  let B':Base:=⟨B.P,B.F,fun c=>if c∈a :: bs then H c else B.H c⟩
  have qZ:∀c,c∈a :: bs->B'.H c=H c:=fun c hc=>if_pos hc
  have out:∀c,c∉a :: bs->B'.H c=B.H c:=fun c hc=>if_neg hc
  refine⟨B',bs,⟨R.sub,by rw[List.length_set,List.length_set];exact R.len,fun j u h=>?_,fun j k u w c h1 m1 h2 m2 g1 g2=>?_,fun j o c h hc=>?_,fun j o c h hc=>?_,fun j c h=>?_,⟨R.ext.le,fun b o z n=>?_,fun b o z n f=>?_,fun b o z=>?_,fun b o u z=>?_⟩⟩,⟨rfl,rfl,out,fun c hc=>⟨(fr c hc).2.2.1,(fr c hc).2.2.2.1,(fr c hc).2.2.2.2⟩⟩,na,nd,by rw[qZ a List.mem_cons_self];exact ha,by rw[List.length_replicate],fun k c ds h1 h2=>?_⟩
  . rcases back h with⟨rfl,rfl⟩ | ⟨ne,q⟩
    . exact⟨.ref a,List.getElem?_set_self hl',rfl⟩
    . obtain⟨v,h1,h2⟩:=R.rep j u q
      exact⟨v,by rw[Bk ne];exact h1,h2⟩
  . rcases back h1 with⟨_,rfl⟩ | ⟨n1,q1⟩
    . cases m1
    . rcases back h2 with⟨_,rfl⟩ | ⟨n2,q2⟩
      . cases m2
      . rw[Bk n1] at g1
        rw[Bk n2] at g2
        exact R.wR j k u w c q1 m1 q2 m2 g1 g2
  . rcases back h with⟨_,z⟩ | ⟨n,q⟩
    . cases z
    . rw[Bk n] at hc
      rw[out c (fun m=>(fr c m).2.1 ⟨j,_,q,rfl,hc⟩)]
      exact R.own j o c q hc
  . rcases back h with⟨_,z⟩ | ⟨n,q⟩
    . cases z
    . rw[Bk n] at hc
      exact R.bor j o c q hc
  . obtain⟨h1,o,h2⟩:=R.par j c h
    have ne:i≠j:=fun z=>by subst z;exact nb o h2
    exact⟨by rw[Bk ne];exact h1,o,by rw[List.getElem?_set_ne ne];exact h2⟩
  . by_cases m:b∈a :: bs
    . rw[qZ b m] at z;exact z
    . rw[out b m] at z;exact R.ext.keep b o z n
  . by_cases m:b∈a :: bs
    . exact(fr b m).1
    . rw[out b m] at z;exact R.ext.iE b o z n f
  . by_cases m:b∈a :: bs
    . rw[qZ b m] at z;exact⟨o,z⟩
    . rw[out b m] at z;exact R.ext.there b o z
  . by_cases m:b∈a :: bs
    . rw[qZ b m] at z;exact z
    . rw[out b m] at z;exact R.ext.jw b o u z
  . have m:c∈bs:=List.mem_of_getElem? h1
    have e:ds=[]:=by
      have:=List.mem_of_getElem? h2
      exact List.eq_of_mem_replicate this
    subst e
    exact⟨[],by rw[qZ c (List.mem_cons_of_mem _ m)];exact hb c m,.nil⟩
end
open Classical in
noncomputable def oK (i:Nat) (g:GN) (S:SS) (n:Nat):Option SS:=
 if h:∃r,∀a,(g a (S.set i (some (.f a))) (List.replicate n [])).map (fun q=>q.1.set i (some (.t (.lst (q.2.map D.lst)))))=some r then some (Classical.choose h) else none
theorem vF {i:Nat}{g:GN}{S r:SS}{n:Nat}(h:oK i g S n=some r) (a:Addr):∃S' nest,g a (S.set i (some (.f a))) (List.replicate n [])=some (S',nest)/\r=S'.set i (some (.t (.lst (nest.map D.lst)))):=by
 unfold oK at h
 split at h
 ·rename_i hx
  cases h
  obtain⟨⟨S',nest⟩,e,q⟩:=az (Classical.choose_spec hx a)
  exact⟨S',nest,e,q.symm⟩
 ·cases h
theorem zh {i:Nat}{g:GN}{S r:SS}{n:Nat}(h:∀a,(g a (S.set i (some (.f a))) (List.replicate n [])).map (fun q=>q.1.set i (some (.t (.lst (q.2.map D.lst)))))=some r):oK i g S n=some r:=by
 unfold oK
 rw[dif_pos ⟨r,h⟩]
 have:=Classical.choose_spec (⟨r,h⟩:∃r,∀a,(g a (S.set i (some (.f a))) (List.replicate n [])).map (fun q=>q.1.set i (some (.t (.lst (q.2.map D.lst)))))=some r) 0
 rw[h 0] at this
 exact congrArg some (Option.some.inj this).symm
noncomputable def Al (i:Nat) (gi:GI) (g:GN):GS:=fun S=>(gi S).bind fun p=>match p.2[i]? with
 | some (some (.b _))=>none
 | some _=>if p.1.length<=100000 then(oK i g p.2 p.1.length).map .nx else none
 | none=>none
section
variable {X:Cx}{iter:Expr}{st2:Stmt}{rest:List Stmt}{gi:GI}{g:GN}{gr:GS}{i:Nat}{pos px py pe spos:Pos}{x y:Str}{scope:Scope}{cl:List (Str×Addr)}
theorem Fg (hN : X.N.Nodup) (hy : X.N[i]? = some y) (hx : Loc X.env.scope y) (T : iH X x [] [] scope cl) (hc : X.calm = true) (hi : JI X (.Name x px) iter gi) (h2 : JN X i st2 g) (hr : JB X rest gr)
    (hsw:swapsWith (.ListComp (.List [] pe) [⟨.Name x px,iter,[],0⟩] scope pos) (some (.Name y py)) spos.line X.env=pure true:=by rfl) (hf:X.fn y=true\/X.env.scope.names.lookup y=some .local:=by first | exact .inl rfl | exact .inr rfl | assumption)
    (hs:∀x,foldedSetIterable iter X.env x=pure x:=by intro _;rfl):
    JB X (.Assign [.Name y py] (.ListComp (.List [] pe) [⟨.Name x px,iter,[],0⟩] scope pos) spos :: st2 :: rest) (aK (Al i gi g) gr):=⟨fun B=>by
  refine(rL (wO T hc (hi.h B) (fun C s H fp=>zX) (fun C s H fp=>B6 pC) hs hN hy hx hsw hf) (rL (h2.h B) (hr.h B))).imp fun D σ H ⟨S,F,o,R,h,k⟩=>?_
  obtain⟨o1,e1,h⟩:=ah h
  obtain⟨⟨ds,S1⟩,h1,e1⟩:=ah e1
  dsimp only at e1
  split at e1
  . cases e1
  . rename_i w hi1 hnb
    obtain⟨hlen,e1⟩:=iP e1
    obtain⟨r,h3,e1⟩:=az e1
    cases e1
    have hil:i < S1.length:=(List.getElem?_eq_some_iff.mp hnb).1
    refine⟨S,F,ds,S1,R,h1,fun J F1 H1 R1 st1 w=>?_⟩
    refine⟨fun n m ys H'=>∃bs:List Addr,ys=bs.map V.ref/\bs.length=n/\n<=ds.length/\m=ds.length - n/\iB F1 H1 F1 H'/\Sub F1 H'/\bs.Nodup/\∀c,c∈bs->H' c=some (.lst [])/\H1 c=none,⟨_,[],rfl,rfl,Nat.zero_le _,rfl,iB.refl ..,R1.sub,List.nodup_nil,fun c hc=>(by cases hc)⟩,?_⟩
    rintro n m ys H' ⟨bs,rfl,Py,hn,rfl,nw,sb,nd,hb⟩
    refine⟨by rw[List.length_map,Py];exact Nat.lt_of_le_of_lt (Nat.le_trans hn hlen) (by decide),?_⟩
    have w':=w F1 H' (fun _ _ z=>z) sb n
    by_cases hlt:n < ds.length
    . have hd:ds[n]? =some ds[n]:=List.getElem?_eq_getElem hlt
      obtain⟨go,yl⟩:=w'.1 _ hd
      refine .inr ⟨go,fun xv H3 y=>?_⟩
      obtain⟨rfl,rx⟩:=yl xv H3 y
      simp only[Lj,↓reduceIte]
      refine⟨by show 0<=_;exact Nat.zero_le _,fun p hp=>⟨ds.length - (n+1),by omega,bs++[p],by rw[List.map_append];rfl,by rw[List.length_append,Py];rfl,hlt,rfl,nw.trans (iB.obj hp _),sb.same (iB.obj (F:=F1) hp (.lst [])).same,?_,fun c hc=>?_⟩⟩
      . rw[List.nodup_append]
        refine⟨nd,by simp,fun c hc d hd e=>?_⟩
        rw[List.mem_singleton] at hd
        rw[<-e,] at hd
        rw[<-hd] at hp
        rw[(hb c hc).1] at hp
        cases hp
      . have old:H1 p=none:=none_of (fun b o z=>⟨o,nw.same b o z⟩) hp
        rcases List.mem_append.mp hc with m | m
        . have ne:c≠p:=fun e=>by rw[e] at m;rw[(hb p m).1] at hp;cases hp
          exact⟨by rw[aE ne];exact(hb c m).1,(hb c m).2⟩
        . rw[List.mem_singleton.mp m]
          exact⟨aL,old⟩
    . have e:n=ds.length:=by omega
      subst e
      refine .inl ⟨w'.2 (Nat.le_refl _),fun p hp=>?_⟩
      have old:H1 p=none:=none_of (fun b o z=>⟨o,nw.same b o z⟩) hp
      have Te:=nw.trans (iB.obj (F:=F1) hp (.lst (bs.map V.ref)))
      have R2:=R1.new Te (R1.sub.same Te.same)
      have Tf:p∉bs:=fun m=>by rw[(hb p m).1] at hp;cases hp
      have fresh:∀c,H1 c=none->F1 c=none/\¬cy S1 σ c/\B.H c=none/\¬B.M c/\B.F c=none:=fun c hc=>by
        have fc:=R1.sub.fresh hc
        refine⟨fc,fun mm=>?_,none_of R1.ext.there hc,fun mm=>?_,?_⟩
        . obtain⟨o,ho⟩:=R1.has mm;rw[hc] at ho;cases ho
        . obtain⟨q,hq⟩:=List.getElem?_of_mem mm
          obtain⟨g1,o,g2⟩:=R1.par q c hq
          obtain⟨v,g3,g4⟩:=R1.rep q _ g2
          rw[g1] at g3
          cases g3
          obtain⟨c',g5,_,g6⟩:=g4
          cases g5
          obtain⟨u,g7⟩:=g6.has
          rw[hc] at g7
          cases g7
        . cases e:B.F c with
          | none=>rfl
          | some o=>rw[R1.ext.le c o e] at fc;cases fc
      have RN:=Ff R2 hil (fun o z=>by rw[hnb] at z;cases z;exact hi1 _ rfl) aL (fun c hc=>by rw[aE (fun e:c=p=>Tf (e▸hc))];exact(hb c hc).1) Tf nd fun c hc=>by
        rcases List.mem_cons.mp hc with rfl | m
        . exact fresh c old
        . exact fresh c (hb c m).2
      rw[Py] at RN
      obtain⟨S2,nest,e4,rfl⟩:=vF h3 p
      refine⟨_,F1,p,_,S2,nest,RN,List.getElem?_set_self hil,e4,fun σ' F' H2 ⟨B2,cs,R3⟩ CS le=>?_⟩
      obtain⟨F3,R4,U0⟩:=R3.freeze CS
      exact⟨_,F3,o,R4,h,k.mono fun b o z=>U0 b o (le b o (st1.ext.le b o z))⟩
  . cases e1⟩
end
noncomputable def vG (gk gv:GD):GE:=fun S=>(gk S).bind fun p=>match p.1 with
 | .int k=>(gv p.2).map fun q=>(.m (.dct [(.inl k,q.1)]),q.2)
 | _=>none
section
variable {X:Cx}{e1 e2:Expr}{pos:Pos}{gk gv:GD}
theorem C2 (hk:JD X e1 gk) (hv:JD X e2 gv):JE X (.Dict [some e1] [e2] pos) (vG gk gv):=⟨fun B=>(ED (Cd (hk.h B) (hv.h B) EC) rfl rfl (by simp) (by show 1<=15;decide)).imp fun σ H Q ⟨S,F,u,S',R,hg,q⟩=>by
 obtain⟨⟨d1,S1⟩,h1,hg⟩:=ah hg
 dsimp only at hg
 split at hg
 ·rename_i k
  obtain⟨⟨d2,S2⟩,h2,hg⟩:=az hg
  cases hg
  intro p hp
  have n:=iB.obj (F:=F) hp (.dK [])
  have hn:¬cy S σ p:=fun m=>by obtain⟨o,ho⟩:=R.has m;rw[hp] at ho;cases ho
  refine⟨S,F,_,S1,R.new n (R.sub.same n.same),h1,fun v1 F1 H1 R1 st1 r1=>?_⟩
  refine⟨S1,F1,_,S2,R1,h2,fun v2 F2 H2 R2 st2 r2=>?_⟩
  have st:=st1.trans st2
  have hp1:H2 p=some (.dK []):=st.ext.keep p _ aL hn
  have hf1:F2 p=none:=st.ext.iE p _ aL hn (R.sub.fresh hp)
  have hn1:¬cy S2 σ p:=fun m=>hn (st.mu p m)
  have hB:B.H p=none:=none_of R.ext.there hp
  refine⟨hp1,[(.inl k,v2)],by rw[gF r1];rfl,by show 1<=15;decide,?_⟩
  have R3:=R2.Pj (o':=.dK (pF [] [(.inl k,v2)])) hn1 hf1 hB hp1 (fun _ _ z=>by cases z)
  refine q (.ref p) F2 _ R3 ⟨⟨st.ext.le,fun b o z m=>?_,fun b o z m f=>?_,fun b o z=>?_,fun b ob w z=>?_⟩,st.mu,st.slots⟩ ⟨p,rfl,hp,hf1,⟨_,aL,.cons ⟨rfl,r2⟩ .nil⟩,hn1,hB⟩
  ·have hb:b≠p:=bu z hp
   rw[aE hb]
   exact st.ext.keep b o (by rw[aE hb];exact z) m
  ·have hb:b≠p:=bu z hp
   exact st.ext.iE b o (by rw[aE hb];exact z) m f
  ·have hb:b≠p:=bu z hp
   rw[aE hb]
   exact st.ext.there b o (by rw[aE hb];exact z)
  ·have hb:b≠p:=bu z hp
   rw[aE hb]
   exact st.ext.jw b ob w (by rw[aE hb];exact z)
 ·cases hg⟩
end
@[simp] theorem LX (gk gv:GD) (S:SS):vG gk gv S=(gk S).bind fun p=>match p.1 with | .int k=>(gv p.2).map fun q=>(.m (.dct [(.inl k,q.1)]),q.2) | _=>none:=rfl
@[simp] theorem Ke (k x:D):oJ [.lst [.tup [k,x]]]=(keyOf k).map fun kk=>.m (.dct [(kk,x)]):=rfl
section
variable (S:SS) (d e:D) (o:MO) (i j:Nat) (g ga gb gc:GD) (ge:GE) (q q1 q2:GT) (gA:GA) (gu:GU) (a b:GS) (f f':List D->Option U) (fm:FM) (bd:GB) (gi:GI)
@[simp] theorem Pz:aj i S=match S[i]? with | some (some (.t d))=>some (.t d,S) | some (some (.s d))=>some (.s d,S) | some (some (.f d))=>some (.f d,S) | some (some _)=>some (.v i,S) | _=>none:=rfl
@[simp] theorem U1:eC d S=some (d,S):=rfl
@[simp] theorem PB:ao S=some ([],S):=rfl
@[simp] theorem Nm:aa g gA S=(g S).bind fun p=>(gA p.2).map fun q=>(p.1 :: q.1,q.2):=rfl
@[simp] theorem U3:eP f gA S=(gA S).bind fun p=>(f p.1).map fun u=>(u,p.2):=rfl
@[simp] theorem U4:eF ge S=(ge S).bind fun p=>fz p.1 p.2:=rfl
@[simp] theorem U5:eT g S=(g S).map fun p=>(.t p.1,p.2):=rfl
@[simp] theorem PD:fz (.t d) S=some (d,S):=rfl
@[simp] theorem PF (ds:List D):fz (.m (.lst ds)) S=some (.lst ds,S):=rfl
@[simp] theorem PJ:fz (.v i) S=match S[i]? with | some (some (.t d))=>some (d,S) | some (some (.m (.lst ds)))=>some (.lst ds,S.set i (some (.t (.lst ds)))) | _=>none:=rfl
@[simp] theorem U6:qB g S=(g S).bind fun p=>match p.1 with | .bl k=>some (k,p.2) | _=>none:=rfl
@[simp] theorem PK:EN q1 q2 S=(q1 S).bind fun p=>if p.1 then q2 p.2 else some (false,p.2):=rfl
@[simp] theorem Nn:aD S=some (true,S):=rfl
@[simp] theorem PL:mZ S=some (.nx S):=rfl
@[simp] theorem PM:aK a b S=(a S).bind fun o=>match o with | .nx S1=>b S1 | o=>some o:=rfl
@[simp] theorem PN:aZ i ge S=(ge S).bind fun p=>match p.1 with | .m o=>(mY i (.m o) p.2).map .nx | u=>(fz u p.2).bind fun q=>(mY i (.t q.1) q.2).map .nx:=rfl
@[simp] theorem dQ (u:U):mY i u S=match S[i]? with | some (some (.b _))=>none | some _=>some (S.set i (some u)) | none=>none:=rfl
@[simp] theorem Np:lQ ge S=(ge S).map fun p=>.nx p.2:=rfl
@[simp] theorem PO:gf ge S=(ge S).bind fun p=>match p.1 with
 | .v i=>match p.2[i]? with
  | some (some (.t d))=>some (.rt (.t d) p.2)
  | some (some (.m o))=>some (.rt (.m o) (p.2.set i none))
  | _=>none
 | .s _=>none
 | .f _=>none
 | u=>some (.rt u p.2):=rfl
@[simp] theorem Tg:wX q a b S=(q S).bind fun p=>if p.1 then a p.2 else b p.2:=rfl
@[simp] theorem PR:ER bd g S=(g S).bind fun p=>(bd p.1 p.2).map .nx:=rfl
@[simp] theorem Nq:bName i d S=mY i (.t d) S:=rfl
@[simp] theorem pM:iA bd gi a S=(gi S).bind fun p=>loop bd a p.1 p.2:=rfl
@[simp] theorem IG:ES g S=(g S).bind fun p=>match p.1 with | .tup ds=>some (ds,p.2) | .lst ds=>some (ds,p.2) | _=>none:=rfl
@[simp] theorem oM:dh gA S=(gA S).bind fun p=>match p.1 with | [.int j]=>if j < 1000000/\-1000000 < j then some (ig 0 j.toNat,p.2) else none | _=>none:=rfl
@[simp] theorem II:loop bd a [] S=some (.nx S):=rfl
@[simp] theorem PU:cQ S=some ([],S):=rfl
@[simp] theorem PV:bQ g gu S=(g S).bind fun p=>(gu p.2).map fun q=>(.t p.1 :: q.1,q.2):=rfl
@[simp] theorem PX:gX ge gu S=(ge S).bind fun p=>(gu p.2).map fun q=>(p.1 :: q.1,q.2):=rfl
@[simp] theorem Nr:bF fm gu S=(gu S).bind fun p=>if(slotsOf p.1).Nodup/\cS p.1<=1 then(cg p.2 p.1).bind fun us=>(fm us).bind fun r=>(wb p.1 r.2 p.2).map fun S2=>(r.1,S2) else none:=rfl
@[simp] theorem Kf:cg S []=some []:=rfl
@[simp] theorem IJ (u:U) (us:List U):cg S (u :: us)=(resolve S u).bind fun w=>(cg S us).map fun ws=>w :: ws:=rfl
@[simp] theorem Nt:resolve S (.t d)=some (.t d):=rfl
@[simp] theorem Nu:resolve S (.m o)=some (.b o):=rfl
@[simp] theorem Nv (ns:List Int):resolve S (.s ns)=some (.s ns):=rfl
@[simp] theorem Nx:resolve S (.v i)=match S[i]? with | some (some (.m o))=>some (.b o) | some (some (.b o))=>some (.b o) | _=>none:=rfl
@[simp] theorem LY:slotsOf []=[]:=rfl
@[simp] theorem PY (us:List U):slotsOf (.t d :: us)=slotsOf us:=rfl
@[simp] theorem PZ (us:List U):slotsOf (.m o :: us)=slotsOf us:=rfl
@[simp] theorem P1 (ns:List Int) (us:List U):slotsOf (.s ns :: us)=slotsOf us:=rfl
@[simp] theorem P4 (us:List U):slotsOf (.v i :: us)=i :: slotsOf us:=rfl
@[simp] theorem LZ:cS []=0:=rfl
@[simp] theorem P5 (us:List U):cS (.t d :: us)=cS us:=rfl
@[simp] theorem P6 (us:List U):cS (.m o :: us)=cS us+1:=rfl
@[simp] theorem P7 (ns:List Int) (us:List U):cS (.s ns :: us)=cS us:=rfl
@[simp] theorem P8 (us:List U):cS (.v i :: us)=cS us:=rfl
@[simp] theorem L0:wb [] [] S=some S:=rfl
@[simp] theorem P9 (us:List U) (os:List MO):wb (.t d :: us) os S=wb us os S:=by cases os <;> rfl
@[simp] theorem Qa (ns:List Int) (us:List U) (os:List MO):wb (.s ns :: us) os S=wb us os S:=by cases os <;> rfl
@[simp] theorem Qc (us:List U) (os:List MO):wb (.m o :: us) (o' :: os) S=wb us os S:=rfl
@[simp] theorem Qd (us:List U) (os:List MO):wb (.v i :: us) (o :: os) S=match S[i]? with | some (some (.m _))=>wb us os (S.set i (some (.m o))) | some (some (.b _))=>wb us os (S.set i (some (.b o))) | _=>none:=rfl
@[simp] theorem Qe:aQ i gb S=match S[i]? with | some (some _)=>(gb S).bind fun p=>(match p.2[i]? with | some (some u)=>(fu u p.1).map fun d=>(d,p.2) | _=>none) | _=>none:=rfl
@[simp] theorem Qg:gQ i S=match S[i]? with | some (some u)=>(tX u).map fun n=>(.int (n:Nat),S) | _=>none:=rfl
@[simp] theorem U7 (h:List D->MO->Option (D×MO)):eM i h gA S=if BK S i then(gA S).bind fun p=>j8 p.2 i (h p.1) else none:=rfl
@[simp] theorem Qh (gk gv:GD):pI i gk gv S=(gv S).bind fun p=>match p.2[i]? with | some (some _)=>(gk p.2).bind fun r=>(j8 r.2 i fun o=>(iR o r.1 p.1).map fun o'=>(.cH,o')).map fun z=>.nx z.2 | _=>none:=rfl
@[simp] theorem IK (ds:List D) (k:Int):fu (.t (.tup ds)) (.int k)=fC ds k:=rfl
@[simp] theorem IL (ds:List D) (k:Int):fu (.t (.lst ds)) (.int k)=fC ds k:=rfl
@[simp] theorem IM (ds:List D) (k:Int):fu (.m (.lst ds)) (.int k)=fC ds k:=rfl
@[simp] theorem IP (ds:List D) (k:Int):fu (.b (.lst ds)) (.int k)=fC ds k:=rfl
@[simp] theorem zj (kvs:List (Key×D)) (k:D):fu (.m (.dct kvs)) k=(keyOf k).bind (aV kvs):=by cases k <;> rfl
@[simp] theorem zl (kvs:List (Key×D)) (k:D):fu (.b (.dct kvs)) k=(keyOf k).bind (aV kvs):=by cases k <;> rfl
@[simp] theorem Kg (ns:List Int) (k:Int):fu (.s ns) (.int k)=(fC ns k).map D.int:=rfl
@[simp] theorem Ny (k:Int):keyOf (.int k)=some (.inl k):=rfl
@[simp] theorem Nz (k:Str):keyOf (.str k)=some (.inr k):=rfl
@[simp] theorem Kh (ds:List D):tX (.t (.tup ds))=some ds.length:=rfl
@[simp] theorem Kl (ds:List D):tX (.t (.lst ds))=some ds.length:=rfl
@[simp] theorem Km (ds:List D):tX (.m (.lst ds))=some ds.length:=rfl
@[simp] theorem Kn (ds:List D):tX (.b (.lst ds))=some ds.length:=rfl
@[simp] theorem L1 (ns:List Int):tX (.s ns)=some ns.length:=rfl
@[simp] theorem Th (C:Int->Int->Bool) (h:Int->Int->D) (x y:Int):CA C h [.int x,.int y]=if C x y then some (.t (h x y)) else none:=rfl
@[simp] theorem L3 (x y:Int):fy [.int x,.int y]=some (.t (.int (x+y))):=rfl
@[simp] theorem L4 (x y:Str):fy [.str x,.str y]=if x.length+y.length<=100000 then some (.t (.str (x++y))) else none:=rfl
@[simp] theorem L5 (x y:List D):fy [.tup x,.tup y]=if x.length+y.length<=100000 then some (.t (.tup (x++y))) else none:=rfl
@[simp] theorem L6 (x y:List D):fy [.lst x,.lst y]=if x.length+y.length<=100000 then some (.m (.lst (x++y))) else none:=rfl
@[simp] theorem Qi (x y:Int):gW [.int x,.int y]=if((decide (-(2 ^ 64) < x) && decide (x < 2 ^ 64)) || (decide (-(2 ^ 64) < y) && decide (y < 2 ^ 64))) then some (.t (.int (x * y))) else none:=rfl
@[simp] theorem Qj (ds:List D):jg ds=if ds.length<=100000 then some (.t (.tup ds)) else none:=rfl
@[simp] theorem Qk (ds:List D):fY ds=if ds.length<=100000 then some (.m (.lst ds)) else none:=rfl
@[simp] theorem NC (ds:List D) (k:Int):Ij [.tup ds,.int k]=(fC ds k).map .t:=rfl
@[simp] theorem ND (ds:List D) (k:Int):Ij [.lst ds,.int k]=(fC ds k).map .t:=rfl
@[simp] theorem Ti:Ni [d,e]=if ji d<=40 then some (.t (.bl (tV d e))) else none:=rfl
@[simp] theorem Tj:LC [d,e]=if ji d<=40 then some (.t (.bl (!tV d e))) else none:=rfl
@[simp] theorem NF (x y z:Int):LD [.int x,.int y,.int z]=some (.t (.int (if y < x then(if z < y then z else y) else if z < x then z else x))):=rfl
@[simp] theorem L7 (ds:List D):wW [.tup ds]=some (.t (.int ds.length)):=rfl
@[simp] theorem L8 (ds:List D):wW [.lst ds]=some (.t (.int ds.length)):=rfl
@[simp] theorem Ko (ds:List D):xj [.tup ds]=some (.m (.lst ds)):=rfl
@[simp] theorem Kp (ds:List D):xj [.lst ds]=some (.m (.lst ds)):=rfl
@[simp] theorem IQ (ds:List D):bE [.tup ds]=some (.t (.tup ds)):=rfl
@[simp] theorem IS (ds:List D):bE [.lst ds]=some (.t (.tup ds)):=rfl
@[simp] theorem NG:kE [d]=if yE d then some (.t (.str (toPy d).shown)) else none:=rfl
@[simp] theorem NH (x y:Int):tV (.int x) (.int y)=(x == y):=by simp[tV]
@[simp] theorem NI (x:Str):ji (.str x)=0:=by simp[ji]
@[simp] theorem NJ (x:Int):ji (.int x)=0:=by simp[ji]
@[simp] theorem Ql (h:MO->Option (D×MO)):j8 S i h=match S[i]? with | some (some (.m o))=>(h o).map fun r=>(r.1,S.set i (some (.m r.2))) | some (some (.b o))=>(h o).map fun r=>(r.1,S.set i (some (.b r.2))) | _=>none:=rfl
@[simp] theorem Tn:BK S i=match S[i]? with | some (some (.m (.lst _)))=>true | some (some (.b (.lst _)))=>true | _=>false:=rfl
@[simp] theorem Bl (kvs:List (Key×D)) (k:D):iR (.dct kvs) k d=(keyOf k).bind fun kk=>if kvs.length < 100000 then some (.dct (putD kvs kk d)) else none:=rfl
@[simp] theorem Kq (ds:List D) (k:Int):iR (.lst ds) (.int k) d=(wL ds.length k).map fun j=>.lst (ds.set j d):=rfl
@[simp] theorem Ma (ds:List D):hAppend [d] (.lst ds)=if ds.length < 100000 then some (.cH,.lst (ds++[d])) else none:=rfl
@[simp] theorem Kr:aJ [] S=some []:=by cases S <;> rfl
@[simp] theorem NK (us:List U) (o2:MO):aJ (.b o2 :: us) (some (.b o) :: S)=(aJ us S).map fun os=>o :: os:=rfl
@[simp] theorem Am (us:List U) (x:Option U):aJ (.t d :: us) (x :: S)=aJ us S:=by cases x <;> rfl
end
end L2
end
section
namespace Sw
open PySem PySem.Spec PyProof.Rows L2
noncomputable def d7 (T:List (Str×Int)):D:=.tup (T.map fun p=>.tup [.str p.1,.int p.2])
noncomputable def upTo (n:Nat):List Int:=(List.range n).map fun(k:Nat)=>(k:Int)
theorem C3 (n:Nat):ig 0 n=(upTo n).map D.int:=by
 unfold ig upTo
 simp
theorem C4:∀(ts:List D) (S:SS),S.length=ts.length->aJ (ts.map U.t) S=some []
 | [],S,_=>by cases S <;> rfl
 | d :: ts,[],h=>by cases h
 | d :: ts,x :: S,h=>by
  show aJ (U.t d :: ts.map U.t) (x :: S)=_
  rw[Am]
  exact C4 ts S (by simpa using h)
theorem GX (S:SS):∀ts:List D,cg S (ts.map U.t)=some (ts.map U.t)
 | []=>rfl
 | d :: ts=>by
  show(some (U.t d)).bind _=_
  rw[GX S ts]
  rfl
theorem Mb:∀ts:List D,slotsOf (ts.map U.t)=[]
 | []=>rfl
 | d :: ts=>Mb ts
theorem Mc:∀ts:List D,cS (ts.map U.t)=0
 | []=>rfl
 | d :: ts=>Mc ts
theorem IT (S:SS):∀ts:List D,wb (ts.map U.t) [] S=some S
 | []=>rfl
 | d :: ts=>IT S ts
theorem vH {cap:List Nat}{q:GT}{g:GD}{S:SS}{ts:List D}(hc:bL S cap=some (ts.map U.t)) (p:D->Bool) (f:D->D):∀(ds acc:List D),
    (∀d∈ds,q (some (.t d) :: ts.map fun x=>some (.t x))=some (p d,some (.t d) :: ts.map fun x=>some (.t x)))->(∀d∈ds,p d=true->g (some (.t d) :: ts.map fun x=>some (.t x))=some (f d,some (.t d) :: ts.map fun x=>some (.t x)))->
    aN cap q g ds S acc=some (acc++(ds.filter p).map f,S)
  | [],acc,_,_=>by simp[aN]
  | d :: ds, acc, hq, hg => by
    have em:(ts.map U.t).map some=ts.map fun x=>some (U.t x):=by simp
    have eo:aJ (.t d :: ts.map U.t) (some (.t d) :: ts.map fun x=>some (.t x))=some []:=by rw[Am];exact C4 ts _ (by simp)
    have q0:=hq d (List.mem_cons_self)
    unfold aN
    rw[hc]
    simp only[Option.bind_some]
    rw[if_pos ⟨by rw[Mb];exact List.nodup_nil,by rw[Mc];exact Nat.zero_le _⟩,GX]
    simp only[Option.bind_some]
    rw[em,q0]
    simp only[Option.bind_some]
    by_cases hp:p d=true
    . rw[if_pos hp,hg d List.mem_cons_self hp]
      simp only[Option.bind_some]
      rw[eo]
      simp only[Option.bind_some]
      rw[IT]
      simp only[Option.bind_some]
      rw[vH hc p f ds (acc++[f d]) (fun e he=>hq e (List.mem_cons_of_mem _ he)) (fun e he=>hg e (List.mem_cons_of_mem _ he)),List.filter_cons_of_pos hp]
      simp
    . rw[if_neg hp,eo]
      simp only[Option.bind_some]
      rw[IT]
      simp only[Option.bind_some]
      rw[vH hc p f ds acc (fun e he=>hq e (List.mem_cons_of_mem _ he)) (fun e he=>hg e (List.mem_cons_of_mem _ he)),List.filter_cons_of_neg hp]
@[simp] theorem Fi (cap:List Nat) (gi:GI) (q:GT) (g:GD) (S:SS):bG cap gi q g S=(gi S).bind fun p=>if p.1.length<=100000 then(aN cap q g p.1 p.2 []).map fun r=>(.m (.lst r.1),r.2) else none:=rfl
theorem cZ (g:GD) (S:SS):cC g S=(g S).bind fun p=>match p.1 with | .tup ds=>some (ds,p.2) | .lst ds=>some (ds,p.2) | .str z=>some (z.cps.toList.map fun c=>.str ⟨#[c]⟩,p.2) | _=>none:=rfl
noncomputable def qM (p:Str×Int):D:=.tup [.str p.1,.int p.2]
mutual
noncomputable def Sane:D->Prop
 | .int i=>i.natAbs < 10 ^ 30
 | .str z=>∀c∈z.cps.toList,c < 16 ^ 8
 | .tup ds=>uL ds
 | .lst ds=>uL ds
 | .cH=>True
 | .bl _=>True
noncomputable def uL:List D->Prop
 | []=>True
 | d :: ds=>Sane d/\uL ds
end
mutual
noncomputable def wD:D->Nat
 | .cH=>6
 | .bl _=>6
 | .int _=>40
 | .str z=>10 * z.length+2
 | .tup ds=>C5 ds+4
 | .lst ds=>C5 ds+4
noncomputable def C5:List D->Nat
 | []=>0
 | d :: ds=>wD d+2+C5 ds
end
theorem Bm (s:String):(Str.ofString s).length=s.length:=PySem.ofString_length s
theorem An:∀(ts:List Str) (k:Nat) (acc:Str),(textFrom k acc ts).length<=acc.length+piled ts
  | [],k,acc=>Nat.le_refl _
  | t :: ts, k, acc => by
    have ih:=An ts (k+1) (acc++(if k > 0 then ", " else "":String)++t)
    have e:(acc++(if k > 0 then ", " else "":String)++t).length<=acc.length+2+t.length:=by
      rw[strLen_append,strLen_append]
      split
      . show acc.length+2+t.length<=_;omega
      . show acc.length+0+t.length<=_;omega
    rw[piled_cons]
    show(textFrom (k+1) _ ts).length<=_
    omega
mutual
theorem shown_le:∀d:D,Sane d->(toPy d).shown.length<=wD d
 | .cH,_=>by show(Str.ofString "None").length<=6;decide
 | .bl b,_=>by cases b <;> (show(Str.ofString _).length<=6;decide)
 | .int i,h=>by
  show(Str.ofString (toString i)).length<=40
  rw[Bm]
  exact Nat.le_trans (int_text_length_le10 (k:=30) (by decide) h) (by decide)
 | .str z,h=>PySem.StrLaws.reprText_len z h
 | .tup ds,h=>by
  have k:=pN ds h
  show(tupleText (PyData.shownAll (gO ds))).length<=C5 ds+4
  unfold tupleText
  rw[strLen_append,strLen_append]
  have e1:("(":Str).length=1:=rfl
  have e2:((if(PyData.shownAll (gO ds)).length == 1 then ",)" else ")":String):Str).length<=2:=by split <;> decide
  by_cases hn:PyData.shownAll (gO ds)=[]
  ·rw[hn] at e2 ⊢
   have e3:(Str.join ", " []).length=0:=rfl
   omega
  ·have:=join_length_add _ hn
   omega
 | .lst ds,h=>by
  have k:=pN ds h
  show(listText (PyData.shownAll (gO ds))).length<=C5 ds+4
  unfold listText
  rw[strLen_append]
  have e1:=An (PyData.shownAll (gO ds)) 0 "["
  have e2:("[":Str).length=1:=rfl
  have e3:("]":Str).length=1:=rfl
  omega
theorem pN:∀ds:List D,uL ds->piled (PyData.shownAll (gO ds))<=C5 ds
 | [],_=>Nat.le_refl _
 | d :: ds,h=>by
  show piled ((toPy d).shown :: PyData.shownAll (gO ds))<=wD d+2+C5 ds
  rw[piled_cons]
  have:=shown_le d h.1
  have:=pN ds h.2
  omega
end
mutual
theorem qA:∀d:D,Sane d->(toPy d).showable=true
 | .cH,_=>rfl
 | .bl b,_=>rfl
 | .int i,h=>by
  show decide (i.natAbs.log2 < 1920)=true
  rw[decide_eq_true_eq]
  by_cases hz:i.natAbs=0
  ·rw[hz];decide
  ·exact(Nat.log2_lt hz).mpr (Nat.lt_trans h (Nat.lt_of_lt_of_le (show(10:Nat) ^ 30 < 2 ^ 100 by decide) (Nat.pow_le_pow_right (by decide) (by decide))))
 | .str z,_=>rfl
 | .tup ds,h=>by show PyData.showableAll (gO ds)=true;exact kT ds h
 | .lst ds,h=>by show PyData.showableAll (gO ds)=true;exact kT ds h
theorem kT:∀ds:List D,uL ds->PyData.showableAll (gO ds)=true
 | [],_=>rfl
 | d :: ds,h=>by
  show((toPy d).showable && PyData.showableAll (gO ds))=true
  rw[qA d h.1,kT ds h.2]
  rfl
end
mutual
theorem depth_eq:∀d:D,(toPy d).depth=ji d
 | .cH=>rfl
 | .bl _=>rfl
 | .int _=>rfl
 | .str _=>rfl
 | .tup ds=>by show PyData.depthAll (gO ds)+1=fE ds+1;rw[pO ds]
 | .lst ds=>by show PyData.depthAll (gO ds)+1=fE ds+1;rw[pO ds]
theorem pO:∀ds:List D,PyData.depthAll (gO ds)=fE ds
 | []=>rfl
 | d :: ds=>by show max (toPy d).depth (PyData.depthAll (gO ds))=max (ji d) (fE ds);rw[depth_eq d,pO ds]
end
theorem C6 {d:D}(h:Sane d) (hw:wD d<=1000000) (hd:ji d<=20):yE d:=
 ⟨qA d h,by rw[depth_eq];exact hd,Nat.le_trans (shown_le d h) (Nat.le_trans hw (by decide))⟩
structure Good (n k:Nat) (d:D):Prop where
 C7:Sane d
 w:wD d<=n
 dep:ji d<=k
theorem Good.mono {n k n' k':Nat}{d:D}(h:Good n k d) (a:n<=n') (b:k<=k'):Good n' k' d:=⟨h.C7,Nat.le_trans h.w a,Nat.le_trans h.dep b⟩
theorem Good.yE {n k:Nat}{d:D}(h:Good n k d) (a:n<=1000000) (b:k<=20):L2.yE d:=C6 h.C7 (Nat.le_trans h.w a) (Nat.le_trans h.dep b)
structure zm (z:Str):Prop where
 len:z.length<=8
 WX:∀c∈z.cps.toList,c < 16 ^ 8
structure kU (p:Str×Int):Prop where
 nm:zm p.1
 lo:0<=p.2
 hi:p.2<=10
theorem getD_mem {α:Type}{l:List α}{i:Nat}{x:α}(h:i < l.length):l.getD i x∈l:=by simp[List.getD,h]
noncomputable def zo (n:Nat):FM
 | [.s ns]=>if ns.length<=n then some (.t (.bl true),[]) else none
 | _=>none
theorem IU {K:PySem.W.Frag}{H:Hp}{a:Addr}{ns:List Int}{n:Nat}{E:XK}(hl:ns.length<=n) (hO:EH H) (hS:nB K H a (ns.map V.int)):spT K 1 (zo n) [.ref a] H (fun v _=>v= .bl true) E:=by
 have sc:EL K H a ns:=by
  rcases hS with(h | h) | h
  ·rcases hO a with z | ⟨o,xs,z⟩
   ·rw[h] at z;cases z
   ·rw[h] at z;cases z
  ·exact .inl h
  ·exact .inr h
 exact⟨rfl,fun _=>none,[.s ns],.t (.bl true),[],(fun b o z=>by cases z),.cons ⟨a,rfl,sc⟩ .nil,List.nodup_nil,by simp[zo,hl],fun v F' H' _ r=>vo r⟩
end Sw
end
section
namespace L2
open PySem PySem.Spec PyProof.Rows
section
variable (S:SS) (d:D) (i:Nat) (g ga gb gc:GD) (gA:GA)
@[simp] theorem Qm (f:Int->Int->Int):EY f i g S=match S[i]? with
 | some (some (.t (.int n)))=>(g S).bind fun p=>match p.1 with
  | .int m=>(mY i (.t (.int (f n m))) p.2).map .nx
  | _=>none
 | _=>none:=rfl
@[simp] theorem NL (k:Bool):EX [.bl k]=some (.t (.int (if k then 1 else 0))):=rfl
@[simp] theorem vI (ds:List D) (k:Int):qL [.lst ds,.int k]=if 0<=k/\k.toNat<=100000/\ds.length * k.toNat<=100000 then some (.m (.lst (List.replicate k.toNat ds).flatten)) else none:=rfl
@[simp] theorem Ks (es ds:List D):j3 [.lst es] (.lst ds)=if ds.length+es.length<=100000 then some (.cH,.lst (ds++es)) else none:=rfl
@[simp] theorem NN:ng gA S=(gA S).bind fun p=>match p.1 with
 | [d]=>(CQ d).map fun q=>(jm q.2,p.2)
 | _=>none:=rfl
@[simp] theorem Me (ds:List D):CQ (.lst ds)=some (true,ds):=rfl
@[simp] theorem Mf (ds:List D):CQ (.tup ds)=some (false,ds):=rfl
theorem bT (cap:List Nat) (gi:GI) (q:GT):bG cap gi q g S=(gi S).bind fun p=>if p.1.length<=100000 then(aN cap q g p.1 p.2 []).map fun r=>(.m (.lst r.1),r.2) else none:=rfl
@[simp] theorem NO (x y:Int):Ae [.int x,.int y]=some (.t (.int (if y < x then y else x))):=rfl
end
end L2
namespace Sq
open PySem PySem.Spec PyProof.Rows L2 Sw
theorem oN {bd:GB}{body:GS}:∀(ds:List D) (I:List D->SS->Prop) (S:SS),I ds S->(∀d r S,I (d :: r) S->∃S1 S2,bd d S=some S1/\body S1=some (.nx S2)/\I r S2)->∃S',loop bd body ds S=some (.nx S')/\I [] S'
 | [],I,S,h,_=>⟨S,rfl,h⟩
 | d :: ds,I,S,h,k=>by
  obtain⟨S1,S2,e1,e2,h2⟩:=k d ds S h
  obtain⟨S',e,h'⟩:=oN ds I S2 h2 k
  refine⟨S',?_,h'⟩
  show((bd d S).bind fun S1=>(body S1).bind _)=_
  rw[e1,Option.bind_some,e2,Option.bind_some]
  exact e
theorem kW (cap : List Nat) (q : GT) (g : GD) (d : D) (ds : List D) (S : SS) (acc : List D) : aN cap q g (d :: ds) S acc = (aN cap q g [d] S acc).bind fun r => aN cap q g ds r.2 r.1 := by
  simp only[aN]
  cases bL S cap with
  | none=>rfl
  | some us =>
    simp only[Option.bind_some]
    split
    . cases cg S us with
      | none=>rfl
      | some ws =>
        simp only[Option.bind_some]
        cases q (some (.t d) :: ws.map some) with
        | none=>rfl
        | some p=>
          simp only[Option.bind_some]
          split
          . cases g p.2 with
            | none=>rfl
            | some r=>
              simp only[Option.bind_some]
              cases aJ (.t d :: ws) r.2 with
              | none=>rfl
              | some outs=>
                simp only[Option.bind_some]
                cases wb us outs S with
                | none=>rfl
                | some S'=>rfl
          . cases aJ (.t d :: ws) p.2 with
            | none=>rfl
            | some outs=>
              simp only[Option.bind_some]
              cases wb us outs S with
              | none=>rfl
              | some S'=>rfl
    . rfl
theorem rq {cap:List Nat}{g:GD}:∀(ds:List D) (I:List D->List D->SS->Prop) (S:SS) (acc:List D),I ds acc S->(∀d r acc S,I (d :: r) acc S->∃acc' S',aN cap aD g [d] S acc=some (acc',S')/\I r acc' S')->∃acc' S',aN cap aD g ds S acc=some (acc',S')/\I [] acc' S'
 | [],I,S,acc,h,_=>⟨acc,S,rfl,h⟩
 | d :: ds,I,S,acc,h,k=>by
  obtain⟨a1,S1,e1,h1⟩:=k d ds acc S h
  obtain⟨a2,S2,e2,h2⟩:=rq ds I S1 a1 h1 k
  exact⟨a2,S2,by rw[kW,e1];exact e2,h2⟩
theorem pP {α:Type}{l:List α}{i:Int}{x:α}(h0:0<=i) (h:l[i.toNat]? =some x):fC l i=some x:=by
 have hl:=(List.getElem?_eq_some_iff.mp h).1
 unfold fC wL
 rw[if_pos h0,if_pos (by omega)]
 exact h
theorem vJ {α:Type}{l:List α}{i:Int}(h0:0<=i) (h1:i < l.length):∃x,fC l i=some x/\l[i.toNat]? =some x:=by
 have h:i.toNat < l.length:=by omega
 exact⟨l[i.toNat],pP h0 (List.getElem?_eq_getElem h),List.getElem?_eq_getElem h⟩
theorem jD {gA:GA}{S S':SS}{j:Int}(h:gA S=some ([.int j],S')) (h1:j < 1000000) (h2:-1000000 < j):dh gA S=some (ig 0 j.toNat,S'):=by
 unfold dh
 rw[h]
 simp only[Option.bind_some]
 rw[if_pos ⟨h1,h2⟩]
theorem IV (i n:Nat) (j:Int) (S:SS) (h:S[i]? =some (some (.t (.int j)))) (hj:j.toNat=n) (h1:j < 1000000) (h2:-1000000 < j):dh (aa (eF (aj i)) ao) S=some (ig 0 n,S):=by
 have e:(aa (eF (aj i)) ao) S=some ([.int j],S):=by simp[h]
 rw[jD e h1 h2,hj]
theorem zp (n:Nat):(-1000000:Int) < n:=Int.lt_of_lt_of_le (by decide) (Int.natCast_nonneg n)
theorem C8 (i n:Nat) (S:SS) (h:S[i]? =some (some (.t (.int n)))) (hn:n < 1000000):dh (aa (eF (aj i)) ao) S=some (ig 0 n,S):=
 IV i n n S h (Int.toNat_natCast n) (Int.ofNat_lt.mpr hn) (zp n)
theorem IW (ds:List D) (n:Nat) (k:Int) (hk:k.toNat=n) (h:ds.length * n<=100000) (h1:0<=k) (h2:n<=100000):qL [.lst ds,.int k]=some (.m (.lst (List.replicate n ds).flatten)):=by
 subst hk
 rw[vI,if_pos ⟨h1,h2,h⟩]
theorem C9 (ds:List D) (n:Nat) (h:ds.length * n<=100000) (hn:n<=100000):qL [.lst ds,.int n]=some (.m (.lst (List.replicate n ds).flatten)):=
 IW ds n n (Int.toNat_natCast n) h (Int.natCast_nonneg n) hn
theorem Ao (x:D):∀n:Nat,(List.replicate n [x]).flatten=List.replicate n x
 | 0=>rfl
 | n+1=>by rw[List.replicate_succ,List.flatten_cons,Ao x n];rfl
theorem sC (x:D) (n:Nat) (hn:n<=100000):qL [.lst [x],.int n]=some (.m (.lst (List.replicate n x))):=by
 rw[C9 [x] n (by rw[List.length_singleton,Nat.one_mul];exact hn) hn,Ao]
noncomputable def jP:GS:=
 (aK (aZ 2 (eP fy (aa (eF (eP fy (aa (eF (eP gW (aa (eF (eP fy (aa (eF (eP nH (aa (eF (aj 0)) (aa (eF (eP EO (aa (eC (.int 10)) (aa (eC (.int 15)) ao)))) ao)))) (aa (eC (.int 1)) ao)))) (aa (eC (.int 48271)) ao)))) (aa (eF (eP gW (aa (eF (eP gW (aa (eF (aj 1)) (aa (eF (aj 1)) ao)))) (aa (eC (.int 16807)) ao)))) ao)))) (aa (eF (eP gW (aa (eF (aj 1)) (aa (eC (.int 7919)) ao)))) ao))))
 (gf (eP nH (aa (eF (eP gW (aa (eF (eP nH (aa (eF (aj 2)) (aa (eC (.int 2147483647)) ao)))) (aa (eC (.int 69621)) ao)))) (aa (eC (.int 2147483629)) ao)))))
noncomputable def xE:FM:=bY 3 jP
theorem Fj:∀us r,xE us=some r->bY 3 jP us=some r:=fun _ _ h=>h
theorem Dc (c k:Int) (h0:0<=k) (h1:k < 1000000):∃v,xE [.t (.int c),.t (.int k)]=some (.t (.int v),[])/\0<=v/\v < 2147483629:=by
 refine⟨(((c % 10 ^ 15+1) * 48271+k * k * 16807+k * 7919) % 2147483647 * 69621) % 2147483629,?_,Int.emod_nonneg _ (by decide),Int.emod_lt_of_pos _ (by decide)⟩
 have a1:-18446744073709551616 < k:=by omega
 have a2:k < 18446744073709551616:=by omega
 simp[xE,bY,jP,aJ,a1,a2]
noncomputable abbrev fd (c i l:Int):MO:=.lst [.int c,.int i,.int l]
noncomputable def gq (eV:FM):GS:=
 (aK (aZ 2 (eP fy (aa (eF (eP gW (aa (eC (.int 7919)) (aa (eF (aj 1)) ao)))) (aa (eC (.int 1)) ao))))
 (aK (wX (qB (eF (eP Ih (aa (eF (aj 1)) (aa (gQ 0) ao))))) (aZ 2 (eT (aQ 0 (eF (aj 1))))) (wX (qB (eF (eP Lq (aa (gQ 0) (aa (eC (.int 0)) ao))))) (aZ 2 (bF eV (bQ (aQ 0 (eF (eP nH (aa (eF (aj 1)) (aa (gQ 0) ao))))) (bQ (eF (aj 1)) cQ)))) mZ))
 (gf (eP fY (aa (eF (aj 2)) (aa (eC (.int 0)) (aa (eF (eP gW (aa (eF (eP qJ (aa (eF (aj 2)) (aa (eF (eP EO (aa (eC (.int 10)) (aa (eC (.int 18)) ao)))) ao)))) (aa (eF (eP EX (aa (eF (eP Lr (aa (eF (aj 2)) (aa (eF (eP EO (aa (eC (.int 10)) (aa (eC (.int 18)) ao)))) ao)))) ao))) ao)))) ao)))))))
noncomputable def qC:FM:=bY 3 (gq xE)
theorem Dd:∀us r,qC us=some r->bY 3 (gq xE) us=some r:=fun _ _ h=>h
theorem Aq {ns:List Int}{k:Int}(h0:0<=k) (h1:k < 1000) (hn:ns.length < 1000):∃c l,qC [.s ns,.t (.int k)]=some (.m (fd c 0 l),[]):=by
 have a1:-18446744073709551616 < k:=by omega
 have a2:k < 18446744073709551616:=by omega
 by_cases hk:k < ns.length
 ·obtain⟨x,hx,_⟩:=vJ (l:=ns) h0 hk
  refine⟨x,(x - 10 ^ 18) * (if decide (10 ^ 18<=x)=true then 1 else 0),?_⟩
  have e:fC ns k=some x:=hx
  by_cases hc:(1000000000000000000:Int)<=x <;> simp[qC,bY,gq,aJ,a1,a2,hk,e,hc]
 ·by_cases hp:0 < ns.length
  ·have U8:(0:Int) < ns.length:=by omega
   have hne:(ns.length:Int)≠0:=by omega
   obtain⟨x,hx,_⟩:=vJ (l:=ns) (i:=k % ns.length) (Int.emod_nonneg _ hne) (Int.emod_lt_of_pos _ U8)
   obtain⟨v,hv,v0,v1⟩:=Dc x k h0 (by omega)
   have hc:¬(1000000000000000000:Int)<=v:=by omega
   refine⟨v,0,?_⟩
   simp[qC,bY,gq,aJ,a1,a2,hk,hp,hx,hv,hc]
  ·have hc:¬(1000000000000000000:Int)<=7919 * k+1:=by omega
   refine⟨7919 * k+1,0,?_⟩
   simp[qC,bY,gq,aJ,a1,a2,hk,hp,hc]
noncomputable def iu (eV:FM):GS:=
 (aK (pI 0 (eC (.int 1)) (eF (eP fy (aa (aQ 0 (eC (.int 1))) (aa (eC (.int 1)) ao)))))
 (aK (wX (qB (eF (eP Lq (aa (aQ 0 (eC (.int 2))) (aa (eC (.int 0)) ao))))) (aK (aZ 2 (eP nH (aa (aQ 0 (eC (.int 2))) (aa (eF (aj 1)) ao))))
 (aK (pI 0 (eC (.int 2)) (eF (eP Ii (aa (aQ 0 (eC (.int 2))) (aa (eF (aj 1)) ao)))))
 (gf (aj 2)))) mZ)
 (gf (eP nH (aa (eF (eP Ii (aa (eF (bF eV (bQ (aQ 0 (eC (.int 0))) (bQ (aQ 0 (eC (.int 1))) cQ)))) (aa (eC (.int 7)) ao)))) (aa (eF (aj 1)) ao))))))
noncomputable def cu:FM:=bY 3 (iu xE)
theorem De:∀us r,cu us=some r->bY 3 (iu xE) us=some r:=fun _ _ h=>h
theorem i9 (c l:Int){i m:Int}(h0:0<=i) (h1:i < 900000) (m0:0 < m) (m1:m < 1000000):∃v l',cu [.b (fd c i l),.t (.int m)]=some (.t (.int v),[fd c (i+1) l'])/\0<=v/\v < m:=by
 have q0:∀(a b c:D),fC [a,b,c] 0=some a/\fC [a,b,c] 1=some b/\fC [a,b,c] 2=some c:=fun _ _ _=>⟨rfl,rfl,rfl⟩
 have q1:wL 3 1=some 1/\wL 3 2=some 2:=⟨rfl,rfl⟩
 have m2:m < 1073741824:=by omega
 by_cases hl:0 < l
 ·refine⟨l % m,l / m,?_,Int.emod_nonneg _ (by omega),Int.emod_lt_of_pos _ m0⟩
  simp[cu,bY,iu,aJ,q0,q1,hl,m0,m2,j8,iR]
 ·obtain⟨v,hv,v0,v1⟩:=Dc c (i+1) (by omega) (by omega)
  refine⟨v / 7 % m,l,?_,Int.emod_nonneg _ (by omega),Int.emod_lt_of_pos _ m0⟩
  simp[cu,bY,iu,aJ,q0,q1,hl,m0,m2,j8,iR,hv]
end Sq
end
section
namespace L2
open PySem PySem.Spec PyProof.Rows
noncomputable def gZ:Option U->Bool
 | some (.b _)=>true
 | _=>false
@[simp] theorem To:gZ none=false:=rfl
@[simp] theorem Tp (d:D):gZ (some (.t d))=false:=rfl
@[simp] theorem Tq (o:MO):gZ (some (.m o))=false:=rfl
theorem cB (i:Nat) (u:U) (S:SS):mY i u S=(S[i]?).bind fun x=>if gZ x then none else some (S.set i (some u)):=by
 unfold mY
 cases S[i]? with
 | none=>rfl
 | some x=>cases x with
  | none=>rfl
  | some u=>cases u <;> rfl
@[simp] theorem Qn (n:Nat) (bs:Ef) (ds:List D) (S:SS):nJ n bs (.tup ds) S=if ds.length=n then bs ds S else none:=rfl
@[simp] theorem NP (b:GB) (bs:Ef) (d:D) (r:List D) (S:SS):fh b bs (d :: r) S=(b d S).bind fun S1=>bs r S1:=rfl
@[simp] theorem Qo (S:SS):oq [] S=some S:=rfl
@[simp] theorem NQ (S:SS):Ag S=some (.m (.mX []),S):=rfl
@[simp] theorem NS (S:SS):nh S=some (.m (.dct []),S):=rfl
@[simp] theorem zq (kvs:List (D×D)) (k:D):fu (.m (.mX kvs)) k=(j9 k).bind (aV kvs):=by cases k <;> rfl
@[simp] theorem zu (kvs:List (D×D)) (k:D):fu (.b (.mX kvs)) k=(j9 k).bind (aV kvs):=by cases k <;> rfl
@[simp] theorem Bo (kvs:List (D×D)) (k d:D):iR (.mX kvs) k d=(j9 k).bind fun kk=>if kvs.length < 10000000 then some (.mX (putD kvs kk d)) else none:=by cases k <;> rfl
@[simp] theorem Mg (z:Str):uH (.str z)=true:=rfl
@[simp] theorem Mh (b:Bool):uH (.bl b)=true:=rfl
@[simp] theorem Mi (b:Int):uH (.int b)=true:=rfl
theorem jQ {bd:GB}{body:GS}(ds:List D) (I:Nat->SS->Prop) (S:SS) (h0:I 0 S) (hs:∀j d S,ds[j]? =some d->I j S->∃S1 S2,bd d S=some S1/\body S1=some (.nx S2)/\I (j+1) S2):∃S',loop bd body ds S=some (.nx S')/\I ds.length S':=by
 obtain⟨S',e,j,hr,hj,hI⟩:=Sq.oN (bd:=bd) (body:=body) ds (fun r S=>∃j,ds.drop j=r/\j<=ds.length/\I j S) S ⟨0,rfl,Nat.zero_le _,h0⟩ (by
  rintro d r S ⟨j,hr,hj,hI⟩
  have hlt:j < ds.length:=by
   have:=congrArg List.length hr
   rw[List.length_drop,List.length_cons] at this
   omega
  rw[List.drop_eq_getElem_cons hlt] at hr
  injection hr with h1 h2
  obtain⟨S1,S2,e1,e2,h3⟩:=hs j d S (by rw[List.getElem?_eq_getElem hlt,h1]) hI
  exact⟨S1,S2,e1,e2,j+1,h2,hlt,h3⟩)
 have:j=ds.length:=by
  have:=congrArg List.length hr
  rw[List.length_drop,List.length_nil] at this
  omega
 subst this
 exact⟨S',e,hI⟩
theorem lW {cap:List Nat}{g:GD}(ds:List D) (I:Nat->List D->SS->Prop) (S:SS) (h0:I 0 [] S) (hs:∀j d acc S,ds[j]? =some d->I j acc S->∃x S',aN cap aD g [d] S acc=some (acc++[x],S')/\I (j+1) (acc++[x]) S'):∃acc S',aN cap aD g ds S []=some (acc,S')/\I ds.length acc S':=by
 obtain⟨acc,S',e,j,hr,hj,hI⟩:=Sq.rq (cap:=cap) (g:=g) ds (fun r acc S=>∃j,ds.drop j=r/\j<=ds.length/\I j acc S) S [] ⟨0,rfl,Nat.zero_le _,h0⟩ (by
  rintro d r acc S ⟨j,hr,hj,hI⟩
  have hlt:j < ds.length:=by
   have:=congrArg List.length hr
   rw[List.length_drop,List.length_cons] at this
   omega
  rw[List.drop_eq_getElem_cons hlt] at hr
  injection hr with h1 h2
  obtain⟨x,S',e1,h3⟩:=hs j d acc S (by rw[List.getElem?_eq_getElem hlt,h1]) hI
  exact⟨_,S',e1,j+1,h2,hlt,h3⟩)
 have:j=ds.length:=by
  have:=congrArg List.length hr
  rw[List.length_drop,List.length_nil] at this
  omega
 subst this
 exact⟨acc,S',e,hI⟩
theorem comp_map {cap:List Nat}{g:GD}{S:SS}(f:D->D):∀(ds acc:List D),(∀d∈ds,∀acc,aN cap aD g [d] S acc=some (acc++[f d],S))->aN cap aD g ds S acc=some (acc++ds.map f,S)
 | [],acc,_=>by simp[aN]
 | d :: ds,acc,h=>by
  rw[Sq.kW,h d List.mem_cons_self,Option.bind_some,comp_map f ds (acc++[f d]) fun e he=>h e (List.mem_cons_of_mem _ he)]
  simp
theorem mS {n j:Nat}{d:D}(h:(ig 0 n)[j]? =some d):j < n/\d= .int j:=by
 unfold ig at h
 rw[List.getElem?_map] at h
 cases e:(List.range n)[j]? with
 | none=>rw[e] at h;cases h
 | some k=>
  rw[e] at h
  obtain⟨h1,h2⟩:=List.getElem?_eq_some_iff.mp e
  rw[List.getElem_range] at h2
  rw[List.length_range] at h1
  subst h2
  refine⟨h1,?_⟩
  have:=Option.some.inj h
  rw[<-this]
  show D.int (0+(j:Int))=_
  rw[Int.zero_add]
theorem iS (bd:GB) (body:GS) (d:D) (ds:List D) (S:SS):loop bd body (d :: ds) S=(bd d S).bind fun S1=>(body S1).bind fun o=>match o with
  | .nx S2=>loop bd body ds S2
  | .ct S2=>loop bd body ds S2
  | .bk S2=>some (.nx S2)
  | .rt u S2=>some (.rt u S2):=rfl
end L2
end
section
namespace Sw
open PySem PySem.Spec PyProof.Rows L2
noncomputable def one (p:Str×Int):List (Str×Int):=(upTo (p.2+1).toNat).map fun k=>(p.1,k)
noncomputable def iT (T:List (Str×Int)):List (Str×Int):=T.flatMap one
theorem xF (n:Nat):(upTo n).length=n:=by simp[upTo]
theorem oO:∀{T:List (Str×Int)},(∀p∈T,kU p)->(iT T).length<=11 * T.length
 | [],_=>Nat.le_refl _
 | p :: T,h=>by
  have ih:=oO (T:=T) fun q hq=>h q (List.mem_cons_of_mem _ hq)
  have a:=(h p List.mem_cons_self).lo
  have b:=(h p List.mem_cons_self).hi
  have e:(iT (p :: T)).length=(one p).length+(iT T).length:=by show(one p++iT T).length=_;rw[List.length_append]
  have e2:(one p).length=(p.2+1).toNat:=by unfold one;rw[List.length_map,xF]
  rw[e,e2]
  show _<=11 * (T.length+1)
  omega
theorem at2 (a b:D):fC [a,b] 0=some a/\fC [a,b] 1=some b:=⟨rfl,rfl⟩
end Sw
end
section
namespace Sq
open PySem PySem.Spec PyProof.Rows L2 Sw
theorem oR {n j:Nat}{d:D}{r:List D}(h:(ig 0 n).drop j=d :: r):j < n/\d= .int j/\(ig 0 n).drop (j+1)=r:=by
 have hl:j < n:=by
  have:=congrArg List.length h
  simp[ig] at this
  omega
 have h2:j < (ig 0 n).length:=by simpa[ig] using hl
 rw[List.drop_eq_getElem_cons h2] at h
 injection h with h3 h4
 refine⟨hl,?_,h4⟩
 rw[<-h3]
 simp[ig]
theorem iK (n:Nat):(ig 0 n).length=n:=by simp[ig]
noncomputable def yF (x:Option U):Prop:=x=none\/∃d,x=some (.t d)
theorem yF.t {d:D}:yF (some (.t d)):=.inr ⟨d,rfl⟩
theorem yF.n:yF none:=.inl rfl
noncomputable def lX:List D:=[.str "a",.str "ab",.str "abc",.str "now",.str "any",.str "name",.str "less",.str "x",.str "zzzzzzzz"]
theorem Fl {i:Int}(h0:0<=i) (h1:i < 9):∃z,fC lX i=some (.str z)/\zm z:=by
 have:i=0\/i=1\/i=2\/i=3\/i=4\/i=5\/i=6\/i=7\/i=8:=by omega
 rcases this with rfl | rfl | rfl | rfl | rfl | rfl | rfl | rfl | rfl <;> exact⟨_,rfl,by decide,by decide⟩
theorem Fp {i:Int}(h0:0<=i) (h1:i < 4):∃m:Int,fC [D.int 1,.int 2,.int 2,.int 3] i=some (.int m)/\1<=m/\m<=3:=by
 have:i=0\/i=1\/i=2\/i=3:=by omega
 rcases this with rfl | rfl | rfl | rfl <;> exact⟨_,rfl,by decide,by decide⟩
noncomputable def fO (au:FM):GS:=
 (aK (aZ 7 (eP Ae (aa (eF (bF au (gX (aj 0) (bQ (eC (.int 3)) cQ)))) (aa (eF (eP fy (aa (eF (eP qJ (aa (eF (aj 4)) (aa (eF (aj 3)) ao)))) (aa (eF (aj 6)) ao)))) ao))))
 (aK (lQ (eT (eM 5 hAppend (aa (eF (eP jg (aa (aQ 1 (eF (eP nH (aa (eF (eP fy (aa (eF (aj 2)) (aa (eF (aj 6)) ao)))) (aa (eC (.int 9)) ao))))) (aa (eF (aj 7)) ao)))) ao))))
 (aZ 4 (eP qJ (aa (eF (eP qJ (aa (eF (aj 4)) (aa (eF (aj 7)) ao)))) (aa (eC (.int 1)) ao))))))
noncomputable def iL (au:FM):GS:=
 (aK (aZ 1 (eP fY (aa (eC (.str "a")) (aa (eC (.str "ab")) (aa (eC (.str "abc")) (aa (eC (.str "now")) (aa (eC (.str "any")) (aa (eC (.str "name")) (aa (eC (.str "less")) (aa (eC (.str "x")) (aa (eC (.str "zzzzzzzz")) ao)))))))))))
 (aK (aZ 2 (bF au (gX (aj 0) (bQ (eC (.int 9)) cQ))))
 (aK (aZ 3 (eP Ij (aa (eF (eP fY (aa (eC (.int 1)) (aa (eC (.int 2)) (aa (eC (.int 2)) (aa (eC (.int 3)) ao)))))) (aa (eF (bF au (gX (aj 0) (bQ (eC (.int 4)) cQ)))) ao))))
 (aK (aZ 4 (eT (eC (.int 5))))
 (aK (aZ 5 (eP fY ao))
 (aK (iA (bName 6) (dh (aa (eF (aj 3)) ao)) (fO au))
 (gf (eP bE (aa (eF (aj 5)) ao)))))))))
noncomputable def Bp:FM:=bY 8 (iL cu)
theorem Df:∀us r,Bp us=some r->bY 8 (iL cu) us=some r:=fun _ _ h=>h
theorem Dg {c i l st m left k:Int}{T:List (Str×Int)}{x6 x7:Option U}(hi:0<=i) (hi1:i < 800000) (hs:0<=st) (hk:0<=k) (hl:0<=left - m+k) (hT:T.length < 10) (h6:yF x6) (h7:yF x7):
  ∃z v l' S1,bName 6 (.int k) [some (.b (fd c i l)),some (.m (.lst lX)),some (.t (.int st)),some (.t (.int m)),some (.t (.int left)),some (.m (.lst (T.map qM))),x6,x7]=some S1/\kU (z,v)/\v<=left - m+k/\
   fO cu S1=some (.nx [some (.b (fd c (i+1) l')),some (.m (.lst lX)),some (.t (.int st)),some (.t (.int m)),some (.t (.int (left - v - 1))),some (.m (.lst ((T++[(z,v)]).map qM))),some (.t (.int k)),some (.t (.int v))]):=by
 obtain⟨v,l',e1,v0,v1⟩:=i9 c l hi (by omega) (m:=3) (by omega) (by omega)
 obtain⟨z,e2,nz⟩:=Fl (i:=(st+k) % 9) (Int.emod_nonneg _ (by decide)) (Int.emod_lt_of_pos _ (by decide))
 have hlen:(T.map qM).length < 100000:=by rw[List.length_map];omega
 have e3:T.length < 100000:=by omega
 refine⟨z,if left - m+k < v then left - m+k else v,l',[some (.b (fd c i l)),some (.m (.lst lX)),some (.t (.int st)),some (.t (.int m)),some (.t (.int left)),some (.m (.lst (T.map qM))),some (.t (.int k)),x7],?_,⟨nz,?_,?_⟩,?_,?_⟩
 ·rcases h6 with rfl | ⟨d,rfl⟩ <;> rfl
 ·show(0:Int)<=if left - m+k < v then left - m+k else v;split <;> omega
 ·show(if left - m+k < v then left - m+k else v:Int)<=10;split <;> omega
 ·split <;> omega
 ·rcases h7 with rfl | ⟨d,rfl⟩ <;> simp[fO,e1,e2,e3,qM,j8,hAppend,BK]
noncomputable def dG:GS:=
 (lQ (eT (eM 1 j3 (aa (eF (bG [2] (dh (aa (eF (eP fy (aa (eF (aj 3)) (aa (eC (.int 1)) ao)))) ao)) aD (eF (eP jg (aa (eF (aj 1)) (aa (eF (aj 0)) ao)))))) ao))))
noncomputable def d8:GS:=
 (aK (aZ 1 (eP fY ao))
 (aK (iA (nJ 2 (fh (bName 2) (fh (bName 3) oq))) (ES (eF (aj 0))) (dG))
 (gf (aj 1))))
noncomputable def lA:FM:=bY 4 d8
theorem Dh:∀us r,lA us=some r->bY 4 d8 us=some r:=fun _ _ h=>h
theorem Bq {p:Str×Int}{td:D}{acc:List D}{x2 x3:Option U}(hp:kU p) (ha:acc.length < 1000) (h2:yF x2) (h3:yF x3):∃S1,nJ 2 (fh (bName 2) (fh (bName 3) oq)) (qM p) [some (.t td),some (.m (.lst acc)),x2,x3]=some S1/\
  dG S1=some (.nx [some (.t td),some (.m (.lst (acc++(one p).map qM))),some (.t (.str p.1)),some (.t (.int p.2))]):=by
 refine⟨[some (.t td),some (.m (.lst acc)),some (.t (.str p.1)),some (.t (.int p.2))],?_,?_⟩
 ·rcases h2 with rfl | ⟨a,rfl⟩ <;> rcases h3 with rfl | ⟨b,rfl⟩ <;> rfl
 ·have a:=hp.lo
  have b:=hp.hi
  have b1:p.2+1 < 1000000:=by omega
  have b2:-1000000 < p.2+1:=by omega
  have e:=vH (cap:=[2]) (q:=aD) (g:=eF (eP jg (aa (eF (aj 1)) (aa (eF (aj 0)) ao)))) (S:=[some (.t td),some (.m (.lst acc)),some (.t (.str p.1)),some (.t (.int p.2))]) (ts:=[.str p.1]) rfl (fun _=>true) (fun d=>.tup [.str p.1,d]) (ig 0 (p.2+1).toNat) [] (fun d _=>rfl) (fun d _ _=>by simp)
  have e5:(ig 0 (p.2+1).toNat).map (fun d=>D.tup [.str p.1,d])=(one p).map qM:=by rw[C3];unfold one qM;simp
  have e6:((one p).map qM).length=(p.2+1).toNat:=by unfold one;rw[List.length_map,List.length_map,xF]
  rw[List.filter_eq_self.mpr (fun _ _=>rfl),e5,List.nil_append] at e
  have l1:(p.2+1).toNat<=100000:=by omega
  have l2:acc.length+((one p).map qM).length<=100000:=by rw[e6];omega
  simp only[List.length_map] at l2
  simp[dG,Fi,b1,b2,iK,l1,e,l2,BK,j8]
theorem Fq {T:List (Str×Int)}(h:T.length<=4) (h2:∀p∈T,kU p):lA [.t (d7 T)]=some (.m (.lst ((iT T).map qM)),[]):=by
 obtain⟨S',e,done,rest,x2,x3,hd,hr,q2,q3,hs⟩:=oN (bd:=nJ 2 (fh (bName 2) (fh (bName 3) oq))) (body:=dG) (T.map qM)
  (fun r S=>∃(done rest:List (Str×Int)) (x2 x3:Option U),T=done++rest/\r=rest.map qM/\yF x2/\yF x3/\S=[some (.t (d7 T)),some (.m (.lst ((iT done).map qM))),x2,x3])
  [some (.t (d7 T)),some (.m (.lst [])),none,none] ⟨[],T,none,none,rfl,rfl,.n,.n,rfl⟩ (by
  rintro d r S ⟨done,rest,x2,x3,hd,hr,q2,q3,rfl⟩
  cases rest with
  | nil=>cases hr
  | cons p rest=>
   injection hr with hr1 hr2
   subst hr1
   have hl:=oO (T:=done) fun q hq=>h2 q (by rw[hd];exact List.mem_append_left _ hq)
   have hdl:done.length<=4:=by have:=congrArg List.length hd;simp at this;omega
   obtain⟨S1,e1,e2⟩:=Bq (p:=p) (td:=d7 T) (acc:=(iT done).map qM) (x2:=x2) (x3:=x3) (h2 p (by rw[hd];simp)) (by rw[List.length_map];omega) q2 q3
   refine⟨S1,_,e1,e2,done++[p],rest,some (.t (.str p.1)),some (.t (.int p.2)),by rw[hd];simp,hr2,.t,.t,?_⟩
   have:iT (done++[p])=iT done++one p:=by simp[iT]
   rw[this,List.map_append])
 have:rest=[]:=by
  cases rest with
  | nil=>rfl
  | cons a b=>cases hr
 subst this
 rw[List.append_nil] at hd
 subst hd
 subst hs
 have e:loop (nJ 2 (fh (bName 2) (fh (bName 3) oq))) dG (T.map qM) [some (.t (d7 T)),some (.m (.lst [])),none,none]=_:=e
 have ei:ES (eF (aj 0)) [some (.t (d7 T)),some (.m (.lst [])),none,none]=some (T.map qM,[some (.t (d7 T)),some (.m (.lst [])),none,none]):=rfl
 simp only[lA,bY,d8]
 simp[ei,e,aJ,-IG]
noncomputable def fG (au:FM) (cE:FM):GS:=
 (lQ (eT (eM 5 hAppend (aa (eF (eP bE (aa (eF (bG [0,3] (dh (aa (eF (aj 4)) ao)) aD (eF (bF au (gX (aj 1) (bQ (eF (aj 2)) cQ)))))) ao))) ao))))
noncomputable def dH (au:FM) (cE:FM):GS:=
 (aK (aZ 3 (eP fy (aa (eC (.int 1)) (aa (eF (bF au (gX (aj 0) (bQ (eC (.int 7)) cQ)))) ao))))
 (aK (aZ 4 (eP wW (aa (eF (bF cE (bQ (eF (aj 1)) cQ))) ao)))
 (aK (aZ 5 (eP fY ao))
 (aK (iA (bName 6) (dh (aa (eF (aj 3)) ao)) (fG au cE))
 (aK (aZ 7 (bG [0,2] (dh (aa (eF (aj 3)) ao)) aD (aQ 2 (eF (bF au (gX (aj 1) (bQ (gQ 2) cQ)))))))
 (aK (wX (qB (eF (eP Ni (aa (eF (bF au (gX (aj 0) (bQ (eC (.int 3)) cQ)))) (aa (eC (.int 0)) ao))))) (aZ 7 (eP qL (aa (eF (eP fY (aa (aQ 2 (eC (.int 0))) ao))) (aa (eF (aj 3)) ao)))) mZ)
 (gf (eP jg (aa (eF (eP bE (aa (eF (aj 5)) ao))) (aa (eF (eP bE (aa (eF (aj 7)) ao))) ao))))))))))
noncomputable def Ar:FM:=bY 8 (dH cu lA)
theorem Di:∀us r,Ar us=some r->bY 8 (dH cu lA) us=some r:=fun _ _ h=>h
noncomputable def bC (r:List Int):D:=.tup (r.map D.int)
theorem Dj (c l : Int) {i m : Int} {a1 a2 a4 a5 a6 a7 : Option U} (n : Nat) (hi : 0 <= i) (hn : i + n < 800000) (m0 : 0 < m) (m1 : m < 1000000) :
    ∃(vs:List Int) (l':Int),aN [0,3] aD (eF (bF cu (gX (aj 1) (bQ (eF (aj 2)) cQ)))) (ig 0 n) [some (.b (fd c i l)),a1,a2,some (.t (.int m)),a4,a5,a6,a7] []=some (vs.map D.int,[some (.b (fd c (i+n) l')),a1,a2,some (.t (.int m)),a4,a5,a6,a7])/\vs.length=n/\∀v∈vs,0<=v/\v < m:=by
  obtain⟨acc',S',e,j,vs,l',hr,hj,rfl,hl,hv,rfl⟩:=rq (cap:=[0,3]) (g:=eF (bF cu (gX (aj 1) (bQ (eF (aj 2)) cQ)))) (ig 0 n)
    (fun r acc S=>∃(j:Nat) (vs:List Int) (l':Int),(ig 0 n).drop j=r/\j<=n/\acc=vs.map D.int/\vs.length=j/\(∀v∈vs,0<=v/\v < m)/\S=[some (.b (fd c (i+j) l')),a1,a2,some (.t (.int m)),a4,a5,a6,a7])
    [some (.b (fd c i l)),a1,a2,some (.t (.int m)),a4,a5,a6,a7] [] ⟨0,[],l,rfl,Nat.zero_le _,rfl,rfl,by simp,by simp⟩ (by
      rintro d r acc S ⟨j,vs,l',hr,hj,rfl,hl,hv,rfl⟩
      obtain⟨hjn,rfl,hr'⟩:=oR hr
      obtain⟨v,l'',e1,v0,v1⟩:=i9 c l' (i:=i+j) (m:=m) (by omega) (by omega) m0 m1
      refine⟨(vs++[v]).map D.int,[some (.b (fd c (i+((j+1:Nat):Int)) l'')),a1,a2,some (.t (.int m)),a4,a5,a6,a7],?_,j+1,vs++[v],l'',hr',hjn,rfl,by simp[hl],?_,rfl⟩
      . have e2:i+((j+1:Nat):Int)=i+j+1:=by push_cast;omega
        rw[e2]
        simp[aN,bL,eu,e1,aJ]
      . intro w hw
        rcases List.mem_append.mp hw with q | q
        . exact hv w q
        . rw[show w=v by simpa using q];exact⟨v0,v1⟩)
  have hj:j=n:=by
    have:=congrArg List.length hr
    simp[ig] at this
    omega
  subst hj
  exact⟨vs,l',e,hl,hv⟩
theorem Dk (c l : Int) {i : Int} {menu : List D} {a1 a3 a4 a5 a6 a7 : Option U} (n : Nat) (hi : 0 <= i) (hn : i + n < 800000) (m0 : 0 < menu.length) (m1 : menu.length < 1000) :
    ∃(vs:List D) (l':Int),aN [0,2] aD (aQ 2 (eF (bF cu (gX (aj 1) (bQ (gQ 2) cQ))))) (ig 0 n) [some (.b (fd c i l)),a1,some (.t (.lst menu)),a3,a4,a5,a6,a7] []=some (vs,[some (.b (fd c (i+n) l')),a1,some (.t (.lst menu)),a3,a4,a5,a6,a7])/\vs.length=n/\∀v∈vs,v∈menu:=by
  obtain⟨acc',S',e,j,l',hr,hj,hl,hv,rfl⟩:=rq (cap:=[0,2]) (g:=aQ 2 (eF (bF cu (gX (aj 1) (bQ (gQ 2) cQ))))) (ig 0 n)
    (fun r acc S=>∃(j:Nat) (l':Int),(ig 0 n).drop j=r/\j<=n/\acc.length=j/\(∀v∈acc,v∈menu)/\S=[some (.b (fd c (i+j) l')),a1,some (.t (.lst menu)),a3,a4,a5,a6,a7])
    [some (.b (fd c i l)),a1,some (.t (.lst menu)),a3,a4,a5,a6,a7] [] ⟨0,l,rfl,Nat.zero_le _,rfl,by simp,by simp⟩ (by
      rintro d r acc S ⟨j,l',hr,hj,hl,hv,rfl⟩
      obtain⟨hjn,rfl,hr'⟩:=oR hr
      obtain⟨v,l'',e1,v0,v1⟩:=i9 c l' (i:=i+j) (m:=menu.length) (by omega) (by omega) (by omega) (by omega)
      obtain⟨x,e3,e4⟩:=vJ (l:=menu) v0 v1
      refine⟨acc++[x],[some (.b (fd c (i+((j+1:Nat):Int)) l'')),a1,some (.t (.lst menu)),a3,a4,a5,a6,a7],?_,j+1,l'',hr',hjn,by simp[hl],?_,rfl⟩
      . have e2:i+((j+1:Nat):Int)=i+j+1:=by push_cast;omega
        rw[e2]
        simp[aN,bL,eu,e1,aJ,e3]
      . intro w hw
        rcases List.mem_append.mp hw with q | q
        . exact hv w q
        . rw[show w=x by simpa using q];exact List.mem_of_getElem? e4)
  have hj:j=n:=by
    have:=congrArg List.length hr
    simp[ig] at this
    omega
  subst hj
  exact⟨acc',l',e,hl,hv⟩
structure fU (wide:Nat) (N:List (List Int)):Prop where
 pos:0 < N.length
 few:N.length<=7
 row:∀r∈N,r.length=wide/\∀v∈r,0<=v/\v < N.length
theorem Br (c l:Int){i:Int}{td md:D}{N:List (List Int)}{n wide j:Nat}{x6:Option U}(hi:0<=i) (hi2:i < 750000) (hw:wide<=44) (hn:0 < n) (hn2:n<=7) (hN:N.length<=7) (h6:yF x6):
  ∃(vs:List Int) (l':Int) (S1:SS),bName 6 (.int j) [some (.b (fd c i l)),some (.t td),some (.t md),some (.t (.int n)),some (.t (.int wide)),some (.m (.lst (N.map bC))),x6,none]=some S1/\
   fG cu lA S1=some (.nx [some (.b (fd c (i+wide) l')),some (.t td),some (.t md),some (.t (.int n)),some (.t (.int wide)),some (.m (.lst ((N++[vs]).map bC))),some (.t (.int j)),none])/\vs.length=wide/\∀v∈vs,0<=v/\v < (n:Int):=by
 obtain⟨vs,l'',e4,hl,hv⟩:=Dj c l (i:=i) (m:=n) (a1:=some (.t td)) (a2:=some (.t md)) (a4:=some (.t (.int wide))) (a5:=some (.m (.lst (N.map bC)))) (a6:=some (.t (.int j))) (a7:=none) wide (by omega) (by omega) (by omega) (by omega)
 refine⟨vs,l'',[some (.b (fd c i l)),some (.t td),some (.t md),some (.t (.int n)),some (.t (.int wide)),some (.m (.lst (N.map bC))),some (.t (.int j)),none],?_,?_,hl,hv⟩
 ·rcases h6 with rfl | ⟨d,rfl⟩ <;> rfl
 ·have b1:=fun S h=>C8 4 wide S h (by omega)
  have b3:wide<=100000:=by omega
  have b4:N.length < 100000:=by omega
  simp[fG,bT,-oM,b1,b3,b4,iK,e4,BK,j8,hAppend,bC]
theorem bq {a b:GS}{S S1:SS}(h:a S=some (.nx S1)):aK a b S=b S1:=by
 show(a S).bind _=_
 rw[h]
 rfl
theorem Dl (c l:Int){i:Int}{T:List (Str×Int)}{menu:List D}(hi:0<=i) (hi2:i < 700000) (hT:T.length<=4) (hp:∀p∈T,kU p) (m0:0 < menu.length) (m1:menu.length < 1000):
  ∃(N:List (List Int)) (M:List D) (i' l':Int),Ar [.b (fd c i l),.t (d7 T),.t (.lst menu)]=some (.t (.tup [.tup (N.map bC),.tup M]),[fd c i' l'])/\fU (iT T).length N/\M.length=N.length/\(∀x∈M,x∈menu)/\i<=i'/\i'<=i+400:=by
 obtain⟨a,l1,e1,a0,a1⟩:=i9 c l hi (by omega) (m:=7) (by omega) (by omega)
 have e2:=Fq hT hp
 have hw:=oO hp
 generalize IX:(iT T).length=wide at hw
 obtain⟨n,hn⟩:∃n:Nat,(1+a)=(n:Int):=⟨(1+a).toNat,by omega⟩
 obtain⟨S1,e3,j,N,i2,l2,x6,hr,hj,hN,IY,h6,q1,q2,rfl⟩:=oN (bd:=bName 6) (body:=fG cu lA) (ig 0 n)
  (fun r S=>∃(j:Nat) (N:List (List Int)) (i' l':Int) (x6:Option U),(ig 0 n).drop j=r/\j<=n/\N.length=j/\(∀r∈N,r.length=wide/\∀v∈r,0<=v/\v < (n:Int))/\yF x6/\i<=i'/\i'<=i+1+44 * (j:Int)/\
   S=[some (.b (fd c i' l')),some (.t (d7 T)),some (.t (.lst menu)),some (.t (.int n)),some (.t (.int wide)),some (.m (.lst (N.map bC))),x6,none])
  [some (.b (fd c (i+1) l1)),some (.t (d7 T)),some (.t (.lst menu)),some (.t (.int n)),some (.t (.int wide)),some (.m (.lst [])),none,none] ⟨0,[],i+1,l1,none,rfl,Nat.zero_le _,rfl,by simp,.n,by omega,by omega,by simp⟩ (by
   rintro d r S ⟨j,N,i',l',x6,hr,hj,hN,IY,h6,q1,q2,rfl⟩
   obtain⟨hjn,rfl,hr'⟩:=oR hr
   obtain⟨vs,l'',S1,e4,e5,hl,hv⟩:=Br c l' (i:=i') (td:=d7 T) (md:=.lst menu) (N:=N) (n:=n) (wide:=wide) (j:=j) (x6:=x6) (by omega) (by omega) (by omega) (by omega) (by omega) (by omega) h6
   refine⟨S1,_,e4,e5,j+1,N++[vs],i'+wide,l'',some (.t (.int j)),hr',hjn,by simp[hN],?_,.t,by omega,by push_cast;omega,rfl⟩
   intro q hq
   rcases List.mem_append.mp hq with z | z
   ·exact IY q z
   ·rw[show q=vs by simpa using z];exact⟨hl,hv⟩)
 have hj:j=n:=by
  have:=congrArg List.length hr
  simp[ig] at this
  omega
 subst hj
 obtain⟨M,l3,e6,hM,Qp⟩:=Dk c l2 (i:=i2) (menu:=menu) (a1:=some (.t (d7 T))) (a3:=some (.t (.int j))) (a4:=some (.t (.int wide))) (a5:=some (.m (.lst (N.map bC)))) (a6:=x6) (a7:=none) j (by omega) (by omega) m0 m1
 obtain⟨b,l4,e7,b0,b1⟩:=i9 c l3 (i:=i2+j) (m:=3) (by omega) (by omega) (by omega) (by omega)
 obtain⟨x0,e8,e9⟩:=vJ (l:=menu) (i:=0) (by omega) (by omega)
 have c1:=fun S h=>C8 3 j S h (by omega)
 have c2:=sC x0 j (by omega)
 have c3:j<=100000:=by omega
 have mo:fU wide N:=⟨by omega,by omega,fun r hr=>by rw[hN];exact IY r hr⟩
 have h0:(aZ 3 (eP fy (aa (eC (.int 1)) (aa (eF (bF cu (gX (aj 0) (bQ (eC (.int 7)) cQ)))) ao)))) [some (.b (fd c i l)),some (.t (d7 T)),some (.t (.lst menu)),none,none,none,none,none]=some (.nx [some (.b (fd c (i+1) l1)),some (.t (d7 T)),some (.t (.lst menu)),some (.t (.int j)),none,none,none,none]):=by simp[e1,hn]
 have h1:(aZ 4 (eP wW (aa (eF (bF lA (bQ (eF (aj 1)) cQ))) ao))) [some (.b (fd c (i+1) l1)),some (.t (d7 T)),some (.t (.lst menu)),some (.t (.int j)),none,none,none,none]=some (.nx [some (.b (fd c (i+1) l1)),some (.t (d7 T)),some (.t (.lst menu)),some (.t (.int j)),some (.t (.int wide)),none,none,none]):=by simp[e2,IX]
 have h2:(aZ 5 (eP fY ao)) [some (.b (fd c (i+1) l1)),some (.t (d7 T)),some (.t (.lst menu)),some (.t (.int j)),some (.t (.int wide)),none,none,none]=some (.nx [some (.b (fd c (i+1) l1)),some (.t (d7 T)),some (.t (.lst menu)),some (.t (.int j)),some (.t (.int wide)),some (.m (.lst [])),none,none]):=by simp[]
 have h3:(iA (bName 6) (dh (aa (eF (aj 3)) ao)) (fG cu lA)) [some (.b (fd c (i+1) l1)),some (.t (d7 T)),some (.t (.lst menu)),some (.t (.int j)),some (.t (.int wide)),some (.m (.lst [])),none,none]=some (.nx [some (.b (fd c i2 l2)),some (.t (d7 T)),some (.t (.lst menu)),some (.t (.int j)),some (.t (.int wide)),some (.m (.lst (N.map bC))),x6,none]):=by simp[-oM,c1,e3]
 have h4:(aZ 7 (bG [0,2] (dh (aa (eF (aj 3)) ao)) aD (aQ 2 (eF (bF cu (gX (aj 1) (bQ (gQ 2) cQ))))))) [some (.b (fd c i2 l2)),some (.t (d7 T)),some (.t (.lst menu)),some (.t (.int j)),some (.t (.int wide)),some (.m (.lst (N.map bC))),x6,none]=some (.nx [some (.b (fd c (i2+j) l3)),some (.t (d7 T)),some (.t (.lst menu)),some (.t (.int j)),some (.t (.int wide)),some (.m (.lst (N.map bC))),x6,some (.m (.lst M))]):=by simp[-oM,c1,bT,iK,c3,e6]
 have h5:(wX (qB (eF (eP Ni (aa (eF (bF cu (gX (aj 0) (bQ (eC (.int 3)) cQ)))) (aa (eC (.int 0)) ao))))) (aZ 7 (eP qL (aa (eF (eP fY (aa (aQ 2 (eC (.int 0))) ao))) (aa (eF (aj 3)) ao)))) mZ) [some (.b (fd c (i2+j) l3)),some (.t (d7 T)),some (.t (.lst menu)),some (.t (.int j)),some (.t (.int wide)),some (.m (.lst (N.map bC))),x6,some (.m (.lst M))]=some (.nx [some (.b (fd c (i2+j+1) l4)),some (.t (d7 T)),some (.t (.lst menu)),some (.t (.int j)),some (.t (.int wide)),some (.m (.lst (N.map bC))),x6,some (.m (.lst (if b=0 then List.replicate j x0 else M)))]):=by
  by_cases hb:b=0
  ·subst hb;simp[e7,-vI,c2,e8]
  ·simp[hb,e7]
 have U9:(gf (eP jg (aa (eF (eP bE (aa (eF (aj 5)) ao))) (aa (eF (eP bE (aa (eF (aj 7)) ao))) ao)))) [some (.b (fd c (i2+j+1) l4)),some (.t (d7 T)),some (.t (.lst menu)),some (.t (.int j)),some (.t (.int wide)),some (.m (.lst (N.map bC))),x6,some (.m (.lst (if b=0 then List.replicate j x0 else M)))]=some (.rt (.t (.tup [.tup (N.map bC),.tup (if b=0 then List.replicate j x0 else M)])) [some (.b (fd c (i2+j+1) l4)),some (.t (d7 T)),some (.t (.lst menu)),some (.t (.int j)),some (.t (.int wide)),some (.t (.lst (N.map bC))),x6,some (.t (.lst (if b=0 then List.replicate j x0 else M)))]):=by simp
 have all:dH cu lA [some (.b (fd c i l)),some (.t (d7 T)),some (.t (.lst menu)),none,none,none,none,none]=some (.rt (.t (.tup [.tup (N.map bC),.tup (if b=0 then List.replicate j x0 else M)])) [some (.b (fd c (i2+j+1) l4)),some (.t (d7 T)),some (.t (.lst menu)),some (.t (.int j)),some (.t (.int wide)),some (.t (.lst (N.map bC))),x6,some (.t (.lst (if b=0 then List.replicate j x0 else M)))]):=by
  unfold dH
  rw[bq h0,bq h1,bq h2,bq h3,bq h4,bq h5,U9]
 refine⟨N,if b=0 then List.replicate j x0 else M,i2+j+1,l4,?_,mo,?_,?_,by omega,by omega⟩
 ·show(dH cu lA [some (.b (fd c i l)),some (.t (d7 T)),some (.t (.lst menu)),none,none,none,none,none]).bind _=_
  rw[all]
  rfl
 ·split
  ·rw[List.length_replicate];exact hN.symm
  ·omega
 ·split
  ·intro x hx;rw[List.eq_of_mem_replicate hx];exact List.mem_of_getElem? e9
  ·exact Qp
end Sq
end
section
namespace Sx
open PySem PySem.Spec PyProof.Rows L2 Sw Sq
noncomputable def lB (i:Nat):Str:=(["a","ab","abc","now","any","name","less","x","zzzzzzzz"]:List Str).getD i ""
theorem Bs:∀a b:Fin 9,lB a=lB b->a=b:=by decide
theorem Dm {i:Int}(h0:0<=i) (h1:i < 9):fC lX i=some (.str (lB i.toNat))/\zm (lB i.toNat):=by
 have:i=0\/i=1\/i=2\/i=3\/i=4\/i=5\/i=6\/i=7\/i=8:=by omega
 rcases this with rfl | rfl | rfl | rfl | rfl | rfl | rfl | rfl | rfl <;> exact⟨rfl,by decide,by decide⟩
theorem Bt {c i l st m left k:Int}{T:List (Str×Int)}{x6 x7:Option U}(hi:0<=i) (hi1:i < 800000) (hs:0<=st) (hk:0<=k) (hl:0<=left - m+k) (hT:T.length < 10) (h6:yF x6) (h7:yF x7):
  ∃v l' S1,bName 6 (.int k) [some (.b (fd c i l)),some (.m (.lst lX)),some (.t (.int st)),some (.t (.int m)),some (.t (.int left)),some (.m (.lst (T.map qM))),x6,x7]=some S1/\kU (lB ((st+k) % 9).toNat,v)/\v<=left - m+k/\
   Sq.fO cu S1=some (.nx [some (.b (fd c (i+1) l')),some (.m (.lst lX)),some (.t (.int st)),some (.t (.int m)),some (.t (.int (left - v - 1))),some (.m (.lst ((T++[(lB ((st+k) % 9).toNat,v)]).map qM))),some (.t (.int k)),some (.t (.int v))]):=by
 obtain⟨z,v,l',S1,b1,b2,b3,b4⟩:=Dg (c:=c) (i:=i) (l:=l) (st:=st) (m:=m) (left:=left) (k:=k) (T:=T) hi hi1 hs hk hl hT h6 h7
 have:=Dm (i:=(st+k) % 9) (Int.emod_nonneg _ (by decide)) (Int.emod_lt_of_pos _ (by decide))
 obtain⟨v2,l2,e1,v0,v1⟩:=i9 c l hi (by omega) (m:=3) (by omega) (by omega)
 have hlen:(T.map qM).length < 100000:=by rw[List.length_map];omega
 have e3:T.length < 100000:=by omega
 refine⟨if left - m+k < v2 then left - m+k else v2,l2,[some (.b (fd c i l)),some (.m (.lst lX)),some (.t (.int st)),some (.t (.int m)),some (.t (.int left)),some (.m (.lst (T.map qM))),some (.t (.int k)),x7],?_,⟨this.2,?_,?_⟩,?_,?_⟩
 ·rcases h6 with rfl | ⟨d,rfl⟩ <;> rfl
 ·show(0:Int)<=if left - m+k < v2 then left - m+k else v2;split <;> omega
 ·show(if left - m+k < v2 then left - m+k else v2:Int)<=10;split <;> omega
 ·split <;> omega
 ·rcases h7 with rfl | ⟨d,rfl⟩ <;> simp[Sq.fO,e1,this.1,e3,qM,j8,hAppend,BK]
theorem Dn {st:Nat}{j:Nat}(hj:j<=3):((List.range j).map fun k=>lB ((st+k) % 9)).Nodup:=by
 have go:∀(a b:Nat),a < b->b < 3->lB ((st+a) % 9)≠lB ((st+b) % 9):=fun a b h1 h2 e=>by
  have:=Bs ⟨(st+a) % 9,Nat.mod_lt _ (by decide)⟩ ⟨(st+b) % 9,Nat.mod_lt _ (by decide)⟩ e
  have:=congrArg Fin.val this
  simp only at this
  omega
 rw[List.nodup_iff_pairwise_ne,List.pairwise_map]
 refine(List.pairwise_lt_range).imp_of_mem fun {a b} ha hb h e=>go a b h (by have:=List.mem_range.mp hb;omega) e
theorem Ft (c l:Int){i:Int}(h0:0<=i) (h1:i < 700000):∃T i' l',Bp [.b (fd c i l)]=some (.t (d7 T),[fd c i' l'])/\0 < T.length/\T.length<=3/\(∀p∈T,kU p)/\i<=i'/\i'<=i+10/\(T.map (·.1)).Nodup:=by
 obtain⟨st,l1,e1,s0,s1⟩:=i9 c l h0 (by omega) (m:=9) (by omega) (by omega)
 obtain⟨a,l2,e2,a0,a1⟩:=i9 c l1 (i:=i+1) (by omega) (by omega) (m:=4) (by omega) (by omega)
 obtain⟨m,e3,m0,m1⟩:=Fp a0 a1
 obtain⟨S',e4,j,T,i',l',x6,x7,left,hr,hj,Mj,hT,hi,hi2,hleft,h6,h7,rfl⟩:=oN (bd:=bName 6) (body:=Sq.fO cu) (ig 0 m.toNat)
  (fun r S=>∃(j:Nat) (T:List (Str×Int)) (i' l':Int) (x6 x7:Option U) (left:Int),(ig 0 m.toNat).drop j=r/\j<=m.toNat/\T.map (·.1)=(List.range j).map (fun k=>lB ((st.toNat+k) % 9))/\(∀p∈T,kU p)/\i<=i'/\i'=i+2+j/\0<=left - m+j/\yF x6/\yF x7/\
   S=[some (.b (fd c i' l')),some (.m (.lst lX)),some (.t (.int st)),some (.t (.int m)),some (.t (.int left)),some (.m (.lst (T.map qM))),x6,x7])
  [some (.b (fd c (i+1+1) l2)),some (.m (.lst lX)),some (.t (.int st)),some (.t (.int m)),some (.t (.int 5)),some (.m (.lst [])),none,none]
  ⟨0,[],i+1+1,l2,none,none,5,rfl,Nat.zero_le _,rfl,by simp,by omega,by push_cast;omega,by push_cast;omega,.n,.n,rfl⟩ (by
  rintro d r S ⟨j,T,i',l',x6,x7,left,hr,hj,Mj,hT,hi,hi2,hleft,h6,h7,rfl⟩
  obtain⟨hjn,rfl,hr'⟩:=oR hr
  have Mk:T.length=j:=by have:=congrArg List.length Mj;simpa using this
  obtain⟨v,l'',S1,b1,b2,b3,b4⟩:=Bt (c:=c) (i:=i') (l:=l') (st:=st) (m:=m) (left:=left) (k:=j) (T:=T) (by omega) (by omega) s0 (by omega) hleft (by omega) h6 h7
  have en:((st+(j:Int)) % 9).toNat=(st.toNat+j) % 9:=by omega
  rw[en] at b2 b4
  refine⟨S1,_,b1,b4,j+1,T++[(lB ((st.toNat+j) % 9),v)],i'+1,l'',_,_,left - v - 1,hr',hjn,?_,?_,by omega,by push_cast;omega,by push_cast;omega,.t,.t,rfl⟩
  ·rw[List.map_append,Mj,List.range_succ,List.map_append]
   rfl
  ·intro p hp
   rcases List.mem_append.mp hp with q | q
   ·exact hT p q
   ·rw[show p=(lB ((st.toNat+j) % 9),v) by simpa using q];exact b2)
 have hj:j=m.toNat:=by
  have:=congrArg List.length hr
  simp[ig] at this
  omega
 have Mk:T.length=j:=by have:=congrArg List.length Mj;simpa using this
 refine⟨T,i',l',?_,by omega,by omega,hT,hi,by omega,by rw[Mj];exact Dn (by omega)⟩
 have b1:m < 1000000:=by omega
 have b2:-1000000 < m:=by omega
 simp[Bp,bY,Sq.iL,e1,e2,e3,b1,b2,aJ,d7]
 simp only[lX] at e4
 rw[e4]
 simp[qM]
end Sx
end
section
namespace Sl
open PySem PySem.Spec PyProof.Rows L2
section
variable {κ:Type} [DecidableEq κ]
noncomputable def kI (acc:List κ):List κ->List κ
 | []=>acc
 | k :: ks=>kI (if k∈acc then acc else acc++[k]) ks
theorem kX {x:κ}:∀{ks acc:List κ},x∈kI acc ks↔x∈acc\/x∈ks
  | [],acc=>by simp[kI]
  | k :: ks, acc => by
    show x∈kI (if k∈acc then acc else acc++[k]) ks↔_
    rw[kX]
    by_cases h:k∈acc
    . rw[if_pos h,List.mem_cons]
      constructor
      . rintro(a | a);exact .inl a;exact .inr (.inr a)
      . rintro(a | rfl | a);exact .inl a;exact .inl h;exact .inr a
    . rw[if_neg h,List.mem_append,List.mem_singleton,List.mem_cons,or_assoc]
theorem zw:∀{ks acc:List κ},acc.Nodup->(kI acc ks).Nodup
  | [],acc,h=>h
  | k :: ks, acc, h => by
    show(kI (if k∈acc then acc else acc++[k]) ks).Nodup
    refine zw ?_
    by_cases c:k∈acc
    . rw[if_pos c];exact h
    . rw[if_neg c,List.nodup_append]
      exact⟨h,by simp,fun a ha b hb e=>c (by rw[<-List.mem_singleton.mp hb,<-e];exact ha)⟩
theorem vK:∀(ks acc:List κ),∃r,kI acc ks=acc++r
 | [],acc=>⟨[],by simp[kI]⟩
 | k :: ks,acc=>by
  obtain⟨r,e⟩:=vK ks (if k∈acc then acc else acc++[k])
  by_cases h:k∈acc
  ·rw[if_pos h] at e;exact⟨r,by show kI (if k∈acc then acc else acc++[k]) ks=_;rw[if_pos h,e]⟩
  ·rw[if_neg h] at e;exact⟨k :: r,by show kI (if k∈acc then acc else acc++[k]) ks=_;rw[if_neg h,e,List.append_assoc];rfl⟩
noncomputable def gz (ks:List κ):List Nat:=ks.map fun k=>(kI [] ks).idxOf k
theorem jR (ks:List κ):(gz ks).length=ks.length:=List.length_map ..
end
noncomputable def na (ns:List Nat) (i:Nat):Nat:=ns.getD i 0
theorem cz {ns:List Nat}{i:Nat}(h:i < ns.length):ns[i]? =some (na ns i):=by
 unfold na
 rw[List.getD_eq_getElem?_getD,List.getElem?_eq_getElem h]
 rfl
theorem dg {ns:List Nat}{i:Nat}(h:i < ns.length):na ns i∈ns:=List.mem_of_getElem? (cz h)
structure tZ (ns:List Nat) (c:Nat):Prop where
 lt:∀v∈ns,v < c
 on:∀v,v < c->v∈ns
section
variable {κ:Type} [DecidableEq κ]
theorem rA {ks:List κ}{i:Nat}{k:κ}(h:ks[i]? =some k):na (gz ks) i=(kI [] ks).idxOf k:=by
 unfold na gz
 rw[List.getD_eq_getElem?_getD,List.getElem?_map,h]
 rfl
theorem mT {ks:List κ}{i j:Nat}{a b:κ}(ha:ks[i]? =some a) (hb:ks[j]? =some b):na (gz ks) i=na (gz ks) j↔a=b:=by
 rw[rA ha,rA hb]
 have ma:a∈kI [] ks:=kX.mpr (.inr (List.mem_of_getElem? ha))
 have mb:b∈kI [] ks:=kX.mpr (.inr (List.mem_of_getElem? hb))
 constructor
 ·intro e
  have la:=List.idxOf_lt_length_of_mem ma
  have lb:=List.idxOf_lt_length_of_mem mb
  have ea:(kI [] ks)[(kI [] ks).idxOf a]=a:=List.getElem_idxOf la
  have eb:(kI [] ks)[(kI [] ks).idxOf b]=b:=List.getElem_idxOf lb
  rw[<-ea,<-eb]
  simp only[e]
 ·rintro rfl;rfl
theorem jS (ks:List κ):tZ (gz ks) (kI [] ks).length where
 lt:=fun v hv=>by
  obtain⟨k,hk,rfl⟩:=List.mem_map.mp hv
  exact List.idxOf_lt_length_of_mem (kX.mpr (.inr hk))
 on:=fun v hv=>by
  have m:(kI [] ks)[v]∈ks:=by
   rcases kX.mp (List.getElem_mem hv) with h | h
   ·cases h
   ·exact h
  refine List.mem_map.mpr ⟨_,m,?_⟩
  exact List.Nodup.idxOf_getElem (zw List.nodup_nil) v hv
end
theorem uM {ns ns':List Nat}{c c' n:Nat}(h:tZ ns c) (h':tZ ns' c') (hl:ns.length=n) (hl':ns'.length=n) (fin:∀i j,i < n->j < n->na ns' i=na ns' j->na ns i=na ns j){f g:Nat}(hf:f < n) (hg:g < n) (e:na ns f=na ns g) (ne:na ns' f≠na ns' g):c+1<=c':=by
 have rep:∀v,v < c->ns.idxOf v < n/\na ns (ns.idxOf v)=v:=fun v hv=>by
  have m:=h.on v hv
  have l:=List.idxOf_lt_length_of_mem m
  refine⟨by omega,?_⟩
  have a:=cz l
  rw[List.getElem?_eq_getElem l,List.getElem_idxOf l] at a
  exact(Option.some.inj a).symm
 have v0:na ns f < c:=h.lt _ (dg (by omega))
 obtain⟨w,hw,Va,hwn⟩:∃w,w < n/\na ns w=na ns f/\na ns' w≠na ns' (ns.idxOf (na ns f)):=by
  by_cases q:na ns' f=na ns' (ns.idxOf (na ns f))
  ·exact⟨g,hg,e.symm,fun z=>ne (q.trans z.symm)⟩
  ·exact⟨f,hf,rfl,q⟩
 have nd:(na ns' w :: (List.range c).map fun v=>na ns' (ns.idxOf v)).Nodup:=by
  rw[List.nodup_cons]
  constructor
  ·intro m
   obtain⟨v,hv,ev⟩:=List.mem_map.mp m
   have r:=rep v (List.mem_range.mp hv)
   have z:=fin _ _ r.1 hw ev
   rw[r.2,Va] at z
   rw[z] at ev
   exact hwn ev.symm
  ·rw[List.nodup_iff_pairwise_ne,List.pairwise_map]
   refine List.Pairwise.imp_of_mem (R:=fun a b=>a≠b) ?_ (List.nodup_iff_pairwise_ne.mp List.nodup_range)
   intro a b ha hb hab q
   have ra:=rep a (List.mem_range.mp ha)
   have rb:=rep b (List.mem_range.mp hb)
   have z:=fin _ _ ra.1 rb.1 q
   rw[ra.2,rb.2] at z
   exact hab z
 have sub:∀v∈(na ns' w :: (List.range c).map fun v=>na ns' (ns.idxOf v)),v∈List.range c':=fun v hv=>by
  rw[List.mem_range]
  rcases List.mem_cons.mp hv with rfl | m
  ·exact h'.lt _ (dg (by omega))
  ·obtain⟨u,hu,rfl⟩:=List.mem_map.mp m
   have r:=rep u (List.mem_range.mp hu)
   exact h'.lt _ (dg (by omega))
 have:=nd.length_le_of_subset sub
 simpa using this
section
variable (nx:Nat->Nat->Nat) (wd:Nat->D) (W:Nat)
noncomputable def led:List Nat->Nat->Nat
 | [],s=>s
 | c :: cs,s=>led cs (nx s c)
noncomputable def Bu:Nat->Nat->Nat->Prop
 | 0,s,t=>wd s=wd t
 | i+1,s,t=>Bu i s t/\∀c,c < W->Bu i (nx s c) (nx t c)
variable {nx wd W}
theorem vL:∀{i:Nat}{s t:Nat},Bu nx wd W i s t->∀cs:List Nat,cs.length<=i->(∀c∈cs,c < W)->wd (led nx cs s)=wd (led nx cs t)
 | 0,s,t,h,cs,hl,_=>by
  cases cs with
  | nil=>exact h
  | cons=>simp at hl
 | i+1,s,t,h,cs,hl,hc=>by
  cases cs with
  | nil=>exact vL h.1 [] (Nat.zero_le _) (by simp)
  | cons c cs=>exact vL (h.2 c (hc c List.mem_cons_self)) cs (by simpa using hl) fun d hd=>hc d (List.mem_cons_of_mem _ hd)
end
end Sl
end
section
namespace Sl
open PySem PySem.Spec PyProof.Rows L2 Sw
section
variable {κ:Type} [DecidableEq κ]
noncomputable def ent:Nat->List κ->List (κ×D)
 | _,[]=>[]
 | i,k :: ks=>(k,.int (i:Nat)) :: ent (i+1) ks
theorem kY:∀(ks:List κ) (i:Nat),(ent i ks).length=ks.length
 | [],_=>rfl
 | k :: ks,i=>congrArg Nat.succ (kY ks (i+1))
theorem xG:∀(ks:List κ) (i:Nat) (k:κ),ent i (ks++[k])=ent i ks++[(k,.int ((i+ks.length:Nat):Int))]
 | [],_,_=>rfl
 | g :: ks,i,k=>by
  show _ :: ent (i+1) (ks++[k])=_
  rw[xG ks (i+1) k,show i+1+ks.length=i+(ks.length+1) by omega]
  rfl
theorem xH : ∀ {ks : List κ} {k : κ} (i : Nat), k ∈ ks -> aV (ent i ks) k = some (.int ((i + ks.idxOf k : Nat) : Int))
  | [],_,_,h=>by cases h
  | g :: ks, k, i, h => by
    unfold aV
    by_cases e:g=k
    . subst e
      simp[ent]
    . have m:k∈ks:=by
        rcases List.mem_cons.mp h with rfl | m
        . exact absurd rfl e
        . exact m
      have ih:=xH (i+1) m
      unfold aV at ih
      rw[show ent i (g :: ks)=(g,.int (i:Nat)) :: ent (i+1) ks from rfl,List.find?_cons_of_neg (by simpa using e),ih]
      have:(g :: ks).idxOf k=ks.idxOf k+1:=by rw[List.idxOf_cons,cond_eq_ite,if_neg (by simpa using e)]
      rw[this]
      congr 3
      omega
theorem iU {ks:List κ}{k:κ}(h:k∈ks):aV (ent 0 ks) k=some (.int (ks.idxOf k:Nat)):=by
 rw[xH 0 h,Nat.zero_add]
theorem jo:∀{ks:List κ}{k:κ}(i:Nat),k∉ks->aV (ent i ks) k=none
  | [],_,_,_=>rfl
  | g :: ks, k, i, h => by
    have ih:=jo (ks:=ks) (k:=k) (i+1) fun m=>h (List.mem_cons_of_mem _ m)
    unfold aV at ih ⊢
    rw[show ent i (g :: ks)=(g,.int (i:Nat)) :: ent (i+1) ks from rfl,List.find?_cons_of_neg (by
      simp only[decide_eq_true_eq];rintro rfl;exact h List.mem_cons_self)]
    exact ih
theorem xJ {kvs:List (κ×D)}{k:κ}(h:aV kvs k=none):(kvs.any fun kv=>decide (kv.1=k))=false:=by
 unfold aV at h
 rw[Option.map_eq_none_iff,List.find?_eq_none] at h
 rw[List.any_eq_false]
 exact fun x hx=>h x hx
theorem As {kvs:List (κ×D)}{k:κ}{d:D}(h:aV kvs k=none):putD kvs k d=kvs++[(k,d)]:=by
 unfold putD
 rw[xJ h]
 rfl
theorem rB {ks:List κ}{k:κ}(h:k∉ks):putD (ent 0 ks) k (.int (ks.length:Nat))=ent 0 (ks++[k]):=by
 rw[As (jo 0 h),xG,Nat.zero_add]
structure Kk (mk:List (κ×D)->MO) (ky:D->Option κ):Prop where
 has:∀kvs d k,ky d=some k->vD (.m (mk kvs)) d=some (aV kvs k).isSome
 rd:∀kvs d k,ky d=some k->fu (.m (mk kvs)) d=aV kvs k
 rb:∀kvs d k,ky d=some k->fu (.b (mk kvs)) d=aV kvs k
 wr:∀kvs d k v,ky d=some k->kvs.length < 100000->iR (mk kvs) d v=some (mk (putD kvs k v))
 ln:∀kvs,tX (.m (mk kvs))=some kvs.length
 dc:∀kvs,su (.m (mk kvs))=true
 df:∀kvs d k v,ky d=some k->kvs.length < 100000->Fb (mk kvs) d v=some (match aV kvs k with | some e=>(e,mk kvs) | none=>(v,mk (putD kvs k v)))
end
theorem vM:Kk MO.dct keyOf where
 has:=fun kvs d k h=>by show(keyOf d).map _=_;rw[h];rfl
 rd:=fun kvs d k h=>by rw[zj,h];rfl
 rb:=fun kvs d k h=>by rw[zl,h];rfl
 wr:=fun kvs d k v h hl=>by rw[Bl,h,Option.bind_some,if_pos hl]
 ln:=fun kvs=>rfl
 dc:=fun kvs=>rfl
 df:=fun kvs d k v h hl=>by
  show(keyOf d).bind _=_
  rw[h,Option.bind_some]
  cases aV kvs k with
  | some e=>rfl
  | none=>exact if_pos hl
theorem Ml:Kk MO.mX j9 where
 has:=fun kvs d k h=>by show(j9 d).map _=_;rw[h];rfl
 rd:=fun kvs d k h=>by rw[zq,h];rfl
 rb:=fun kvs d k h=>by rw[zu,h];rfl
 wr:=fun kvs d k v h hl=>by rw[Bo,h,Option.bind_some,if_pos (by omega)]
 ln:=fun kvs=>rfl
 dc:=fun kvs=>rfl
 df:=fun kvs d k v h hl=>by
  show(j9 d).bind _=_
  rw[h,Option.bind_some]
  cases aV kvs k with
  | some e=>rfl
  | none=>exact if_pos (by omega)
noncomputable def iD (ns:List Nat):List D:=ns.map fun n=>.int (n:Nat)
noncomputable def cO:GS:=
 (wX (qB (pK true 1 (eF (aj 2)))) (pI 1 (eF (aj 2)) (gQ 1)) mZ)
noncomputable def xK:GS:=
 (wX (qB (pK true 1 (eF (aj 2)))) (pI 1 (eF (aj 2)) (gQ 1)) mZ)
noncomputable def eB:GS:=
 (GR (aK (aZ 1 nh)
 (aK (iA (bName 2) (cC (eF (aj 0))) (cO))
 (gf (bG [1] (cC (eF (aj 0))) aD (aQ 1 (eF (aj 0)))))))
 (aK (aZ 1 Ag)
 (aK (iA (bName 2) (cC (eF (aj 0))) (xK))
 (gf (bG [1] (cC (eF (aj 0))) aD (aQ 1 (eF (aj 0))))))))
noncomputable def sD:FM:=bY 3 eB
theorem Fv:∀us r,sD us=some r->bY 3 eB us=some r:=fun _ _ h=>h
section
variable {κ:Type} [DecidableEq κ] {mk:List (κ×D)->MO}{ky:D->Option κ}
theorem Dp (K:Kk mk ky){sd d:D}{k:κ}{acc:List κ}(h:ky d=some k) (hl:acc.length < 1000):cO [some (.t sd),some (.m (mk (ent 0 acc))),some (.t d)]=some (.nx [some (.t sd),some (.m (mk (ent 0 (if k∈acc then acc else acc++[k])))),some (.t d)]):=by
 by_cases m:k∈acc
 ·have e:=K.has (ent 0 acc) d k h
  rw[iU m] at e
  rw[if_pos m]
  simp[cO,pK,e]
 ·have e:=K.has (ent 0 acc) d k h
  rw[jo 0 m] at e
  have e2:=K.wr (ent 0 acc) d k (.int (acc.length:Nat)) h (by rw[kY];omega)
  rw[rB m] at e2
  have e3:=K.ln (ent 0 acc)
  rw[kY] at e3
  rw[if_neg m]
  simp[cO,pK,e,e2,e3,j8]
theorem xM (K:Kk mk ky){sd:D}:∀(ds:List D) (ks:List κ) (acc:List κ) (x:Option U),ds.map ky=ks.map some->acc.length+ds.length < 1000->gZ x=false->
    ∃x',loop (bName 2) cO ds [some (.t sd),some (.m (mk (ent 0 acc))),x]=some (.nx [some (.t sd),some (.m (mk (ent 0 (kI acc ks)))),x'])
  | [],ks,acc,x,h,_,_=>by
    cases ks with
    | nil=>exact⟨x,rfl⟩
    | cons=>cases h
  | d :: ds, ks, acc, x, h, hl, hx => by
    cases ks with
    | nil=>cases h
    | cons k ks=>
      have hl:acc.length+(ds.length+1) < 1000:=hl
      injection h with h1 h2
      obtain⟨x',e⟩:=xM K (sd:=sd) ds ks (if k∈acc then acc else acc++[k]) (some (.t d)) h2 (by split <;> (try rw[List.length_append,List.length_singleton]) <;> omega) rfl
      refine⟨x',?_⟩
      have eb:bName 2 d [some (.t sd),some (.m (mk (ent 0 acc))),x]=some [some (.t sd),some (.m (mk (ent 0 acc))),some (.t d)]:=by simp[-dQ,cB,hx]
      rw[iS,eb,Option.bind_some,Dp K h1 (by omega),Option.bind_some]
      exact e
theorem xN (K : Kk mk ky) {sd : D} {acc : List κ} {x : Option U} : ∀ (ds : List D) (ks : List κ) (out : List D), ds.map ky = ks.map some -> (∀ k ∈ ks, k ∈ acc) ->
    aN [1] aD (aQ 1 (eF (aj 0))) ds [some (.t sd),some (.m (mk (ent 0 acc))),x] out=some (out++iD (ks.map fun k=>acc.idxOf k),[some (.t sd),some (.m (mk (ent 0 acc))),x])
  | [],ks,out,h,_=>by
    cases ks with
    | nil=>simp[aN,iD]
    | cons=>cases h
  | d :: ds, ks, out, h, hm => by
    cases ks with
    | nil=>cases h
    | cons k ks=>
      injection h with h1 h2
      have e:=K.rb (ent 0 acc) d k h1
      rw[iU (hm k List.mem_cons_self)] at e
      have e1:aN [1] aD (aQ 1 (eF (aj 0))) [d] [some (.t sd),some (.m (mk (ent 0 acc))),x] out=some (out++[.int (acc.idxOf k:Nat)],[some (.t sd),some (.m (mk (ent 0 acc))),x]):=by
        simp[aN,bL,eu,e,aJ]
      rw[Sq.kW,e1,Option.bind_some]
      refine(xN K (sd:=sd) (x:=x) ds ks (out++[D.int ((acc.idxOf k:Nat):Int)]) h2 fun q hq=>hm q (List.mem_cons_of_mem _ hq)).trans ?_
      simp[iD]
theorem xO (K:Kk mk ky){sd:D}{ds:List D}{ks:List κ}(hs:sd= .tup ds\/sd= .lst ds) (hk:ds.map ky=ks.map some) (hl:ds.length < 1000):
  ∃a S,(aK (iA (bName 2) (cC (eF (aj 0))) (cO)) (gf (bG [1] (cC (eF (aj 0))) aD (aQ 1 (eF (aj 0)))))) [some (.t sd),some (.m (mk [])),none]=some (.rt (.m (.lst (iD (gz ks)))) (a :: S)):=by
 obtain⟨x,e⟩:=xM K (sd:=sd) ds ks [] none hk (by simpa using hl) rfl
 have e2:=xN K (sd:=sd) (acc:=kI [] ks) (x:=x) ds ks [] hk fun k h=>kX.mpr (.inr h)
 have hz:ds.length<=100000:=by omega
 rw[List.nil_append] at e2
 have e:loop (bName 2) cO ds [some (.t sd),some (.m (mk [])),none]=some (.nx [some (.t sd),some (.m (mk (ent 0 (kI [] ks)))),x]):=e
 rcases hs with rfl | rfl
 ·exact⟨_,_,by simp[cZ,e,bT,e2,hz,gz];exact⟨rfl,rfl⟩⟩
 ·exact⟨_,_,by simp[cZ,e,bT,e2,hz,gz];exact⟨rfl,rfl⟩⟩
end
theorem IZ {sd:D}{ds:List D}{ks:List Key}(hs:sd= .tup ds\/sd= .lst ds) (hk:ds.map keyOf=ks.map some) (hl:ds.length < 1000):sD [.t sd]=some (.m (.lst (iD (gz ks))),[]):=by
 obtain⟨a,S,e⟩:=xO vM hs hk hl
 have eg:eB [some (.t sd),none,none]=some (.rt (.m (.lst (iD (gz ks)))) (a :: S)):=by
  unfold eB GR
  rw[show(aK (aZ 1 nh) (aK (iA (bName 2) (cC (eF (aj 0))) (cO)) (gf (bG [1] (cC (eF (aj 0))) aD (aQ 1 (eF (aj 0))))))) [some (.t sd),none,none]=some (.rt (.m (.lst (iD (gz ks)))) (a :: S)) from e]
  rfl
 show(eB [some (.t sd),none,none]).bind _=_
 rw[eg]
 rfl
theorem I0 {sd : D} {ds : List D} {ks : List D} (hs : sd = .tup ds \/ sd = .lst ds) (h0 : ds ≠ []) (hk : ds.map j9 = ks.map some) (hl : ds.length < 1000) : sD [.t sd] = some (.m (.lst (iD (gz ks))), []) := by
  obtain⟨a,S,e⟩:=xO Ml hs hk hl
  have no : (aK (aZ 1 nh) (aK (iA (bName 2) (cC (eF (aj 0))) (cO)) (gf (bG [1] (cC (eF (aj 0))) aD (aQ 1 (eF (aj 0))))))) [some (.t sd), none, none] = none := by
    cases ds with
    | nil=>exact absurd rfl h0
    | cons d ds=>
      cases ks with
      | nil=>cases hk
      | cons k ks=>
        injection hk with h1 h2
        cases d with
        | tup zs=>
          have ew:cO [some (.t sd),some (.m (.dct [])),some (.t (.tup zs))]=none:=rfl
          have el:loop (bName 2) cO (.tup zs :: ds) [some (.t sd),some (.m (.dct [])),none]=none:=by
            rw[iS,show bName 2 (.tup zs) [some (.t sd),some (.m (.dct [])),none]=some [some (.t sd),some (.m (.dct [])),some (.t (.tup zs))] from rfl,Option.bind_some,ew]
            rfl
          rcases hs with rfl | rfl <;> simp[cZ,el]
        | _=>cases h1
  have eg:eB [some (.t sd),none,none]=some (.rt (.m (.lst (iD (gz ks)))) (a :: S)):=by
    unfold eB GR
    rw[no]
    exact e
  show(eB [some (.t sd),none,none]).bind _=_
  rw[eg]
  rfl
noncomputable def rw' (N:List (List Int)) (s:Nat):List Int:=N.getD s []
noncomputable def bR (N:List (List Int)) (s c:Nat):Nat:=((rw' N s).getD c 0).toNat
noncomputable def nD (N:List (List Int)):D:=.tup (N.map Sq.bC)
theorem rw_get {N:List (List Int)}{s:Nat}(h:s < N.length):N[s]? =some (rw' N s):=by
 unfold rw'
 rw[List.getD_eq_getElem?_getD,List.getElem?_eq_getElem h]
 rfl
theorem rw_len {W:Nat}{N:List (List Int)}{s:Nat}(mo:Sq.fU W N) (h:s < N.length):(rw' N s).length=W:=(mo.row _ (List.mem_of_getElem? (rw_get h))).1
theorem cL {W:Nat}{N:List (List Int)}{s c:Nat}(mo:Sq.fU W N) (h:s < N.length) (hc:c < W):(rw' N s)[c]? =some (bR N s c:Nat)/\bR N s c < N.length:=by
 obtain⟨r1,r2⟩:=mo.row _ (List.mem_of_getElem? (rw_get h))
 have hl:c < (rw' N s).length:=by omega
 have v:=r2 _ (List.getElem_mem hl)
 unfold bR
 rw[List.getD_eq_getElem?_getD,List.getElem?_eq_getElem hl]
 simp only[Option.getD_some]
 exact⟨by congr 1;omega,by omega⟩
theorem Au {N:List (List Int)}{s:Nat}(h:s < N.length):fC (N.map Sq.bC) (s:Int)=some (.tup ((rw' N s).map D.int)):=
 Sq.pP (Int.natCast_nonneg s) (by rw[Int.toNat_natCast,List.getElem?_map,rw_get h];rfl)
theorem iV {ns:List Nat}{s:Nat}(h:s < ns.length):fC (iD ns) (s:Int)=some (.int (na ns s:Nat)):=
 Sq.pP (Int.natCast_nonneg s) (by rw[Int.toNat_natCast,iD,List.getElem?_map,cz h];rfl)
theorem look_same {κ:Type} [DecidableEq κ] {kvs:List (κ×D)}{k:κ}{d:D}(h:aV kvs k=none):aV (kvs++[(k,d)]) k=some d:=by
 unfold aV at h ⊢
 rw[Option.map_eq_none_iff] at h
 rw[List.find?_append,h]
 simp
theorem sE {κ:Type} [DecidableEq κ] {kvs:List (κ×D)}{k k':κ}{d:D}(h:k≠k'):aV (kvs++[(k,d)]) k'=aV kvs k':=by
 unfold aV
 rw[List.find?_append,List.find?_cons_of_neg (by simpa using h),List.find?_nil,Option.or_none]
noncomputable def Wd (d:D):Prop:=(∃b,d= .bl b)\/∃z,d= .str z
theorem Ja {x y:Bool}(h:bI x=bI y):x=y:=by cases x <;> cases y <;> first | rfl | (exact absurd h (by decide))
noncomputable def Fw:D->Key
 | .bl b=>.inl (bI b)
 | .str z=>.inr z
 | _=>.inl 0
theorem Mm {a:D}(ha:Wd a):keyOf a=some (Fw a):=by rcases ha with⟨x,rfl⟩ | ⟨x,rfl⟩ <;> rfl
theorem Fx {a b:D}(ha:Wd a) (hb:Wd b) (h:Fw a=Fw b):a=b:=by
 rcases ha with⟨x,rfl⟩ | ⟨x,rfl⟩ <;> rcases hb with⟨y,rfl⟩ | ⟨y,rfl⟩
 ·injection h with h;rw[Ja h]
 ·cases h
 ·cases h
 ·injection h with h;rw[h]
noncomputable def bW (M:List D) (s:Nat):D:=M.getD s .cH
theorem jT {M:List D}{s:Nat}(h:s < M.length):M[s]? =some (bW M s):=by
 unfold bW
 rw[List.getD_eq_getElem?_getD,List.getElem?_eq_getElem h]
 rfl
theorem oU {M:List D}{s:Nat}(h:s < M.length):fC M (s:Int)=some (bW M s):=
 Sq.pP (Int.natCast_nonneg s) (by rw[Int.toNat_natCast];exact jT h)
theorem iM {M:List D}{s:Nat}(h:s < M.length):bW M s∈M:=List.mem_of_getElem? (jT h)
theorem Vb (a b c:D):fC [a,b,c] 0=some a/\fC [a,b,c] 1=some b/\fC [a,b,c] 2=some c:=⟨rfl,rfl,rfl⟩
section
variable {f1 f2 f3 f4:FM}{td md:D}{aT jq H RD VD rf rg cr told qD:List D}{f g d a b r:Int}{hd:D}{y7 y8 y9 xP:Option U}
end
theorem nO {ns:List Nat}{n:Nat}(h:ns.length=n):iD ns=(List.range n).map fun s=>D.int (na ns s:Nat):=by
 subst h
 unfold iD
 apply List.ext_getElem?
 intro i
 rw[List.getElem?_map,List.getElem?_map]
 by_cases c:i < ns.length
 ·rw[cz c,List.getElem?_range c]
  rfl
 ·rw[List.getElem?_eq_none (by omega),List.getElem?_eq_none (by rw[List.length_range];omega)]
  rfl
theorem Dq {ns:List Nat}{c:Nat}(h:tZ ns c) (hc:0 < c):j4 [.lst (iD ns)]=some (.t (.int ((c - 1:Nat):Int))):=by
 have e:L2.bC (iD ns)=some (ns.map fun n:Nat=>(n:Int)):=by
  unfold iD
  clear h
  induction ns with
  | nil=>rfl
  | cons n ns ih=>simp only[List.map_cons,L2.bC,ih];rfl
 have m:((c - 1:Nat):Int)∈ns.map fun n:Nat=>(n:Int):=List.mem_map.mpr ⟨c - 1,h.on _ (by omega),rfl⟩
 have e2:oF (ns.map fun n:Nat=>(n:Int))=((c - 1:Nat):Int):=Ai m fun a ha=>by
  obtain⟨v,hv,rfl⟩:=List.mem_map.mp ha
  have:=h.lt v hv
  omega
 show(L2.bC (iD ns)).bind _=_
 rw[e,Option.bind_some,if_neg (List.ne_nil_of_mem m),e2]
theorem vN {ns:List Nat}{c:Nat}(h:tZ ns c):c<=ns.length:=by
 have:=List.nodup_range.length_le_of_subset (l₁:=List.range c) (l₂:=ns) fun v hv=>h.on v (List.mem_range.mp hv)
 rwa [List.length_range] at this
noncomputable def bH:GS:=
 (aK (lQ (eT (xC 1 (eF (aj 3)) (gQ 1))))
 (lQ (eT (eM 2 hAppend (aa (aQ 1 (eF (aj 3))) ao)))))
noncomputable def pQ:GS:=
 (aK (lQ (eT (xC 1 (eF (aj 3)) (gQ 1))))
 (lQ (eT (eM 2 hAppend (aa (aQ 1 (eF (aj 3))) ao)))))
noncomputable def bM:GS:=
 (GR (aK (aZ 1 nh)
 (aK (aZ 2 (eP fY ao))
 (aK (iA (bName 3) (cC (eF (aj 0))) (bH))
 (gf (aj 2)))))
 (aK (aZ 1 Ag)
 (aK (aZ 2 (eP fY ao))
 (aK (iA (bName 3) (cC (eF (aj 0))) (pQ))
 (gf (aj 2))))))
noncomputable def j5:FM:=bY 4 bM
theorem Dr:∀us r,j5 us=some r->bY 4 bM us=some r:=fun _ _ h=>h
section
variable {κ:Type} [DecidableEq κ] {mk:List (κ×D)->MO}{ky:D->Option κ}
noncomputable def pR (acc:List κ) (k:κ):List κ:=if k∈acc then acc else acc++[k]
theorem Ds (acc:List κ) (k:κ):k∈pR acc k:=by
 unfold pR
 split
 ·assumption
 ·simp
theorem Dt (acc:List κ) (k:κ):(pR acc k).length<=acc.length+1:=by
 unfold pR
 split
 ·omega
 ·rw[List.length_append,List.length_singleton];omega
theorem Jb (K:Kk mk ky){d:D}{k:κ}{acc:List κ}(h:ky d=some k) (hl:acc.length < 1000):∃e,Fb (mk (ent 0 acc)) d (.int (acc.length:Nat))=some (e,mk (ent 0 (pR acc k))):=by
 rw[K.df _ _ _ _ h (by rw[kY];omega)]
 unfold pR
 by_cases m:k∈acc
 ·rw[iU m,if_pos m];exact⟨_,rfl⟩
 ·rw[jo 0 m,if_neg m,rB m];exact⟨_,rfl⟩
theorem Du {sd d e v:D}{o o':MO}{out:List D}{n:Nat}(hd:su (.m o)=true) (hn:tX (.m o)=some n) (h1:Fb o d (.int (n:Nat))=some (e,o')) (h2:fu (.m o') d=some v) (hl:out.length < 100000):
  bH [some (.t sd),some (.m o),some (.m (.lst out)),some (.t d)]=some (.nx [some (.t sd),some (.m o'),some (.m (.lst (out++[v]))),some (.t d)]):=by
 simp[bH,xC,hd,hn,h1,h2,hl,j8,BK,hAppend]
theorem Av (K:Kk mk ky){sd:D}:∀(ds:List D) (ks:List κ) (acc:List κ) (out:List D) (x:Option U),ds.map ky=ks.map some->acc.length+ds.length < 1000->out.length+ds.length < 1000->gZ x=false->
    ∃x',loop (bName 3) bH ds [some (.t sd),some (.m (mk (ent 0 acc))),some (.m (.lst out)),x]=some (.nx [some (.t sd),some (.m (mk (ent 0 (kI acc ks)))),some (.m (.lst (out++iD (ks.map fun k=>(kI acc ks).idxOf k)))),x'])
  | [],ks,acc,out,x,h,_,_,_=>by
    cases ks with
    | nil=>exact⟨x,by simp[loop,iD,kI]⟩
    | cons=>cases h
  | d :: ds, ks, acc, out, x, h, hl, ho, hx => by
    cases ks with
    | nil=>cases h
    | cons k ks=>
      have hl:acc.length+(ds.length+1) < 1000:=hl
      have ho:out.length+(ds.length+1) < 1000:=ho
      injection h with h1 h2
      have hm:=Ds acc k
      have hle:=Dt acc k
      obtain⟨x',e⟩:=Av K (sd:=sd) ds ks (pR acc k) (out++[D.int (((pR acc k).idxOf k:Nat):Int)]) (some (.t d)) h2 (by omega) (by rw[List.length_append,List.length_singleton];omega) rfl
      refine⟨x',?_⟩
      obtain⟨e0,df⟩:=Jb K h1 (show acc.length < 1000 by omega)
      have rd:=K.rd (ent 0 (pR acc k)) d k h1
      rw[iU hm] at rd
      have Tr:=K.ln (ent 0 acc)
      rw[kY] at Tr
      have ew:=Du (sd:=sd) (out:=out) (K.dc (ent 0 acc)) Tr df rd (by omega)
      have eb:bName 3 d [some (.t sd),some (.m (mk (ent 0 acc))),some (.m (.lst out)),x]=some [some (.t sd),some (.m (mk (ent 0 acc))),some (.m (.lst out)),some (.t d)]:=by simp[-dQ,cB,hx]
      rw[iS,eb,Option.bind_some,ew,Option.bind_some]
      refine e.trans ?_
      obtain⟨r,er⟩:=vK ks (pR acc k)
      have ei:(kI (pR acc k) ks).idxOf k=(pR acc k).idxOf k:=by rw[er,List.idxOf_append,if_pos hm]
      have ed:kI acc (k :: ks)=kI (pR acc k) ks:=rfl
      rw[ed,List.map_cons,ei]
      simp[iD]
theorem Aw (K:Kk mk ky){sd:D}{ds:List D}{ks:List κ}(hs:sd= .tup ds\/sd= .lst ds) (hk:ds.map ky=ks.map some) (hl:ds.length < 1000):
  ∃a S,(aK (aZ 2 (eP fY ao)) (aK (iA (bName 3) (cC (eF (aj 0))) (bH)) (gf (aj 2)))) [some (.t sd),some (.m (mk [])),none,none]=some (.rt (.m (.lst (iD (gz ks)))) (a :: S)):=by
 obtain⟨x,e⟩:=Av K (sd:=sd) ds ks [] [] none hk (by simpa using hl) (by simpa using hl) rfl
 replace e:loop (bName 3) bH ds [some (.t sd),some (.m (mk [])),some (.m (.lst [])),none]=_:=e
 rw[List.nil_append] at e
 rcases hs with rfl | rfl
 ·exact⟨_,_,by simp[cZ,e,gz];exact⟨rfl,rfl⟩⟩
 ·exact⟨_,_,by simp[cZ,e,gz];exact⟨rfl,rfl⟩⟩
end
theorem Fy {sd:D}{ds:List D}{ks:List Key}(hs:sd= .tup ds\/sd= .lst ds) (hk:ds.map keyOf=ks.map some) (hl:ds.length < 1000):j5 [.t sd]=some (.m (.lst (iD (gz ks))),[]):=by
 obtain⟨a,S,e⟩:=Aw vM hs hk hl
 have eg:bM [some (.t sd),none,none,none]=some (.rt (.m (.lst (iD (gz ks)))) (a :: S)):=by
  unfold bM GR
  rw[show(aK (aZ 1 nh) (aK (aZ 2 (eP fY ao)) (aK (iA (bName 3) (cC (eF (aj 0))) (bH)) (gf (aj 2))))) [some (.t sd),none,none,none]=some (.rt (.m (.lst (iD (gz ks)))) (a :: S)) from e]
  rfl
 show(bM [some (.t sd),none,none,none]).bind _=_
 rw[eg]
 rfl
theorem Fz {sd : D} {ds : List D} {ks : List D} (hs : sd = .tup ds \/ sd = .lst ds) (h0 : ds ≠ []) (hk : ds.map j9 = ks.map some) (hl : ds.length < 1000) : j5 [.t sd] = some (.m (.lst (iD (gz ks))), []) := by
  obtain⟨a,S,e⟩:=Aw Ml hs hk hl
  have no : (aK (aZ 1 nh) (aK (aZ 2 (eP fY ao)) (aK (iA (bName 3) (cC (eF (aj 0))) (bH)) (gf (aj 2))))) [some (.t sd), none, none, none] = none := by
    cases ds with
    | nil=>exact absurd rfl h0
    | cons d ds=>
      cases ks with
      | nil=>cases hk
      | cons k ks=>
        injection hk with h1 h2
        cases d with
        | tup zs=>
          have ew:bH [some (.t sd),some (.m (.dct [])),some (.m (.lst [])),some (.t (.tup zs))]=none:=rfl
          have el:loop (bName 3) bH (.tup zs :: ds) [some (.t sd),some (.m (.dct [])),some (.m (.lst [])),none]=none:=by
            rw[iS,show bName 3 (.tup zs) [some (.t sd),some (.m (.dct [])),some (.m (.lst [])),none]=some [some (.t sd),some (.m (.dct [])),some (.m (.lst [])),some (.t (.tup zs))] from rfl,Option.bind_some,ew]
            rfl
          rcases hs with rfl | rfl <;> simp[cZ,el]
        | _=>cases h1
  have eg:bM [some (.t sd),none,none,none]=some (.rt (.m (.lst (iD (gz ks)))) (a :: S)):=by
    unfold bM GR
    rw[no]
    exact e
  show(bM [some (.t sd),none,none,none]).bind _=_
  rw[eg]
  rfl
noncomputable def lG:List D:=[.bl true,.bl false,.str "yes",.str "no",.str "open",.str "True",.str ""]
noncomputable def aw (i:Nat):D:=lG.getD i .cH
noncomputable def lH (d:D):Str:=(toPy d).shown
theorem Jc:∀i j:Fin 7,lH (aw i)=lH (aw j)->i=j:=by decide +kernel
theorem Dv {d:D}(h:d∈lG):∃i:Fin 7,d=aw i:=by
 obtain⟨i,hi,e⟩:=List.getElem_of_mem h
 refine⟨⟨i,hi⟩,?_⟩
 unfold aw
 rw[List.getD_eq_getElem?_getD,List.getElem?_eq_getElem hi,e]
 rfl
theorem Dw {a b:D}(ha:a∈lG) (hb:b∈lG) (h:lH a=lH b):a=b:=by
 obtain⟨i,rfl⟩:=Dv ha
 obtain⟨j,rfl⟩:=Dv hb
 rw[Jc i j h]
theorem Mn {a:D}(ha:a∈lG):Wd a:=by
 unfold lG at ha
 simp only[List.mem_cons,List.not_mem_nil,or_false] at ha
 rcases ha with rfl | rfl | rfl | rfl | rfl | rfl | rfl
 ·exact .inl ⟨_,rfl⟩
 ·exact .inl ⟨_,rfl⟩
 all_goals exact .inr ⟨_,rfl⟩
theorem Dy:∀z∈(["yes","no","open","True",""]:List Str),(z.cps.toList.all fun c=>decide (c < 16 ^ 8))=true/\z.length<=4:=by decide +kernel
theorem Ax {a:D}(ha:a∈lG):Sane a/\wD a<=42/\ji a=0:=by
 have str:∀z∈(["yes","no","open","True",""]:List Str),Sane (.str z)/\wD (.str z)<=42/\ji (.str z)=0:=fun z hz=>by
  obtain⟨h1,h2⟩:=Dy z hz
  refine⟨fun c hc=>?_,?_,rfl⟩
  ·exact of_decide_eq_true (List.all_eq_true.mp h1 c hc)
  ·show 10 * z.length+2<=42;omega
 unfold lG at ha
 simp only[List.mem_cons,List.not_mem_nil,or_false] at ha
 rcases ha with rfl | rfl | rfl | rfl | rfl | rfl | rfl
 ·exact⟨True.intro,by show 6<=42;omega,rfl⟩
 ·exact⟨True.intro,by show 6<=42;omega,rfl⟩
 all_goals exact str _ (by simp)
theorem sF {d:D}(h:yE d):kE [d]=some (.t (.str (lH d))):=by show(if yE d then some (U.t (.str (toPy d).shown)) else none)=_;rw[if_pos h];rfl
theorem Jd {d:D}(h:d∈lG):kE [d]=some (.t (.str (lH d))):=by
 obtain⟨a1,a2,a3⟩:=Ax h
 exact sF (C6 a1 (by omega) (by omega))
noncomputable def fH (aF:FM):GS:=
 (aK (aZ 4 (bG [2,0] (dh (aa (gQ 0) ao)) aD (eF (eP jg (aa (aQ 1 (eF (aj 0))) (aa (eF (eP bE (aa (eF (bG [1] (cC (aQ 2 (eF (aj 0)))) aD (aQ 1 (eF (aj 0))))) ao))) ao))))))
 (aZ 2 (bF aF (bQ (eF (aj 4)) cQ))))
noncomputable def dI (aF:FM):GS:=
 (aK (aZ 2 (bF aF (bQ (eF (bG [] (cC (eF (aj 1))) aD (eF (eP kE (aa (eF (aj 0)) ao))))) cQ)))
 (aK (iA (bName 3) (dh (aa (gQ 0) ao)) (fH aF))
 (gf (aj 2))))
noncomputable def Qq (aF:FM):GS:=
 (aZ 2 (bF aF (bQ (eF (bG [] (cC (eF (aj 1))) aD (eF (eP kE (aa (eF (aj 0)) ao))))) cQ)))
noncomputable def Qs (aF:FM):GS:=
 (iA (bName 3) (dh (aa (gQ 0) ao)) (fH aF))
noncomputable def Tt (aF:FM):GS:=
 (gf (aj 2))
theorem Mp (aF:FM):dI aF=aK (Qq aF) (aK (Qs aF) (Tt aF)):=rfl
noncomputable def Qt (aF:FM):GS:=
 (aZ 4 (bG [2,0] (dh (aa (gQ 0) ao)) aD (eF (eP jg (aa (aQ 1 (eF (aj 0))) (aa (eF (eP bE (aa (eF (bG [1] (cC (aQ 2 (eF (aj 0)))) aD (aQ 1 (eF (aj 0))))) ao))) ao))))))
noncomputable def Qu (aF:FM):GS:=
 (aZ 2 (bF aF (bQ (eF (aj 4)) cQ)))
theorem cb_eq (aF:FM):fH aF=aK (Qt aF) (Qu aF):=rfl
noncomputable def zx:FM:=bY 5 (dI j5)
theorem Je:∀us r,zx us=some r->bY 5 (dI j5) us=some r:=fun _ _ h=>h
noncomputable abbrev NT:GD:=aQ 1 (eF (aj 0))
noncomputable abbrev FA:GD:=(eF (eP jg (aa (aQ 1 (eF (aj 0))) (aa (eF (eP bE (aa (eF (bG [1] (cC (aQ 2 (eF (aj 0)))) aD (aQ 1 (eF (aj 0))))) ao))) ao))))
theorem FD {jq acc:List D}{v:Int}{x:D}{z0 z2:Option U}(h:fC jq v=some x):aN [1] aD NT [.int v] [z0,some (.b (.lst jq)),z2] acc=some (acc++[x],[z0,some (.b (.lst jq)),z2]):=by
 simp[aN,bL,eu,h,aJ]
noncomputable def fN (ns:List Nat):D->D
 | .int v=>.int (na ns v.toNat:Nat)
 | _=>.cH
theorem Mq {W k:Nat}{N:List (List Int)}{ns:List Nat}{z0 z2:Option U}(mo:Sq.fU W N) (hn:ns.length=N.length) (hk:k < N.length):
  aN [1] aD NT ((rw' N k).map D.int) [z0,some (.b (.lst (iD ns))),z2] []=some ((List.range W).map fun c=>D.int (na ns (bR N k c):Nat),[z0,some (.b (.lst (iD ns))),z2]):=by
 have:=comp_map (cap:=[1]) (g:=NT) (S:=[z0,some (.b (.lst (iD ns))),z2]) (fN ns) ((rw' N k).map D.int) [] (fun d hd acc=>by
  obtain⟨v,hv,rfl⟩:=List.mem_map.mp hd
  obtain⟨v0,v1⟩:=(mo.row _ (List.mem_of_getElem? (rw_get hk))).2 v hv
  refine FD ?_
  obtain⟨m,rfl⟩:∃m:Nat,v=m:=⟨v.toNat,by omega⟩
  rw[iV (by omega)]
  rfl)
 rw[this,List.nil_append,List.map_map]
 congr 2
 apply List.ext_getElem?
 intro c
 rw[List.getElem?_map,List.getElem?_map]
 by_cases q:c < W
 ·rw[(cL mo hk q).1,List.getElem?_range q]
  rfl
 ·rw[List.getElem?_eq_none (by rw[rw_len mo hk];omega),List.getElem?_eq_none (by rw[List.length_range];omega)]
  rfl
theorem Dz {jq aT rk outs acc:List D}{k nk:Int}{z1 z3 z4:Option U}(h1:fC jq k=some (.int nk)) (h2:fC aT k=some (.tup rk)) (hl:rk.length<=100000)
  (h3:∀z0 z2,aN [1] aD NT rk [z0,some (.b (.lst jq)),z2] []=some (outs,[z0,some (.b (.lst jq)),z2])):
  aN [2,0] aD FA [.int k] [some (.t (.tup aT)),z1,some (.m (.lst jq)),z3,z4] acc=some (acc++[.tup [.int nk,.tup outs]],[some (.t (.tup aT)),z1,some (.m (.lst jq)),z3,z4]):=by
 simp[aN,bL,eu,h1,h2,cZ,bT,hl,h3,aJ]
noncomputable def kk (N:List (List Int)) (W:Nat) (ns:List Nat) (k:Nat):D:=.tup [.int (na ns k:Nat),.tup ((List.range W).map fun c=>D.int (na ns (bR N k c):Nat))]
theorem Jf {W:Nat}{N:List (List Int)}{ns:List Nat}{z1 z3 z4:Option U}(mo:Sq.fU W N) (hW:W < 1000) (hn:ns.length=N.length):
  aN [2,0] aD FA (ig 0 N.length) [some (.t (.tup (N.map Sq.bC))),z1,some (.m (.lst (iD ns))),z3,z4] []=some ((List.range N.length).map (kk N W ns),[some (.t (.tup (N.map Sq.bC))),z1,some (.m (.lst (iD ns))),z3,z4]):=by
 obtain⟨acc,S',e,rfl,rfl⟩:=lW (cap:=[2,0]) (g:=FA) (ig 0 N.length)
  (fun j acc S=>acc=(List.range j).map (kk N W ns)/\S=[some (.t (.tup (N.map Sq.bC))),z1,some (.m (.lst (iD ns))),z3,z4]) _ ⟨rfl,rfl⟩ (by
  rintro j d acc S hd ⟨rfl,rfl⟩
  obtain⟨hj,rfl⟩:=mS hd
  refine⟨kk N W ns j,_,Dz (iV (by omega)) (Au hj) (by rw[List.length_map,rw_len mo hj];omega) (fun z0 z2=>Mq mo hn hj),?_,rfl⟩
  rw[List.range_succ,List.map_append]
  rfl)
 rw[e,Sq.iK]
theorem sG:∀l:List Int,Eh (l.map D.int)=l.map D.int
 | []=>rfl
 | x :: l=>by show nf (.int x) :: Eh (l.map D.int)=_;rw[sG l];rfl
theorem Jg (N:List (List Int)) (W:Nat) (ns:List Nat) (k:Nat):j9 (kk N W ns k)=some (kk N W ns k):=by
 have e:(List.range W).map (fun c=>D.int (na ns (bR N k c):Nat))=((List.range W).map fun c=>((na ns (bR N k c):Nat):Int)).map D.int:=by rw[List.map_map];rfl
 unfold kk
 rw[e]
 generalize ((List.range W).map fun c=>((na ns (bR N k c):Nat):Int))=l
 generalize ((na ns k:Nat):Int)=a
 have al:(l.map D.int).all (fR 6)=true:=by
  rw[List.all_eq_true]
  intro x hx
  obtain⟨v,_,rfl⟩:=List.mem_map.mp hx
  rfl
 have k8:fR 8 (.tup [.int a,.tup (l.map D.int)])=true:=by
  show([D.int a,D.tup (l.map D.int)]).all (fR 7)=true
  simp only[List.all_cons,List.all_nil,Bool.and_true]
  show(true && (l.map D.int).all (fR 6))=true
  rw[al]
  rfl
 show(if fR 8 (.tup [.int a,.tup (l.map D.int)])=true then some (nf (.tup [.int a,.tup (l.map D.int)])) else none)=_
 rw[if_pos k8]
 show some (D.tup [.int a,.tup (Eh (l.map D.int))])=_
 rw[sG]
theorem Mr {N:List (List Int)}{W:Nat}{ns:List Nat}{s t:Nat}:kk N W ns s=kk N W ns t↔na ns s=na ns t/\∀c,c < W->na ns (bR N s c)=na ns (bR N t c):=by
 unfold kk
 constructor
 ·intro h
  injection h with h
  injection h with h1 h2
  injection h1 with h1
  injection h2 with h2 _
  injection h2 with h2
  refine⟨Int.ofNat_inj.mp h1,fun c hc=>?_⟩
  have:=congrArg (fun l=>l[c]?) h2
  simp only[List.getElem?_map,List.getElem?_range hc,Option.map_some] at this
  injection this with this
  injection this with this
  exact Int.ofNat_inj.mp this
 ·rintro⟨h1,h2⟩
  rw[h1]
  congr 3
  congr 1
  exact List.map_congr_left fun c hc=>by rw[h2 c (List.mem_range.mp hc)]
noncomputable def next (N:List (List Int)) (W:Nat) (ns:List Nat):List Nat:=gz ((List.range N.length).map (kk N W ns))
theorem next_eq {N:List (List Int)}{W:Nat}{ns:List Nat}{s t:Nat}(hs:s < N.length) (ht:t < N.length):na (next N W ns) s=na (next N W ns) t↔na ns s=na ns t/\∀c,c < W->na ns (bR N s c)=na ns (bR N t c):=by
 have get:∀i,i < N.length->((List.range N.length).map (kk N W ns))[i]? =some (kk N W ns i):=fun i hi=>by
  rw[List.getElem?_map,List.getElem?_range hi];rfl
 unfold next
 rw[mT (get s hs) (get t ht),Mr]
theorem DA {N:List (List Int)}{W:Nat}{ns:List Nat}(mo:Sq.fU W N):j5 [.t (.lst ((List.range N.length).map (kk N W ns)))]=some (.m (.lst (iD (next N W ns))),[]):=by
 have few:=mo.few
 have pos:=mo.pos
 refine Fz (.inr rfl) ?_ ?_ ?_
 ·intro h
  have:=congrArg List.length h
  rw[List.length_map,List.length_range,List.length_nil] at this
  omega
 ·rw[List.map_map,List.map_map]
  exact List.map_congr_left fun k _=>Jg N W ns k
 ·rw[List.length_map,List.length_range];omega
theorem zy {aT:List D}{z:List (Option U)}(hl:aT.length < 1000):dh (aa (gQ 0) ao) (some (.t (.tup aT)) :: z)=some (ig 0 aT.length,some (.t (.tup aT)) :: z):=by
 have e:(aa (gQ 0) ao) (some (.t (.tup aT)) :: z)=some ([.int (aT.length:Nat)],some (.t (.tup aT)) :: z):=by simp
 have hb:aT.length < 1000000:=by omega
 rw[Sq.jD e (Int.ofNat_lt.mpr hb) (Sq.zp _),Int.toNat_natCast]
section
variable {f:FM}{aT jq firsts qD:List D}{z1 x3 x4:Option U}
theorem FE (h4:gZ x4=false) (hl:aT.length < 1000) (e1:∀y3 y4,aN [2,0] aD FA (ig 0 aT.length) [some (.t (.tup aT)),z1,some (.m (.lst jq)),y3,y4] []=some (firsts,[some (.t (.tup aT)),z1,some (.m (.lst jq)),y3,y4])) (e2:f [.t (.lst firsts)]=some (.m (.lst qD),[])):
  fH f [some (.t (.tup aT)),z1,some (.m (.lst jq)),x3,x4]=some (.nx [some (.t (.tup aT)),z1,some (.m (.lst qD)),x3,some (.t (.lst firsts))]):=by
 have g:=fun z=>zy (z:=z) hl
 have hz:(ig 0 aT.length).length<=100000:=by rw[Sq.iK];omega
 rw[cb_eq]
 have s0:Qt f [some (.t (.tup aT)),z1,some (.m (.lst jq)),x3,x4]=some (.nx [some (.t (.tup aT)),z1,some (.m (.lst jq)),x3,some (.m (.lst firsts))]):=by
  simp[-dQ,-oM,cB,Qt,bT,g,hz,e1,h4]
 have s1:Qu f [some (.t (.tup aT)),z1,some (.m (.lst jq)),x3,some (.m (.lst firsts))]=some (.nx [some (.t (.tup aT)),z1,some (.m (.lst qD)),x3,some (.t (.lst firsts))]):=by
  simp[Qu,e2]
 rw[Sq.bq s0,s1]
end
theorem Ms {W : Nat} {N : List (List Int)} {M : List D} (mo : Sq.fU W N) (hW : W < 1000) (hM : M.length = N.length) (hw : ∀ x ∈ M, x ∈ lG) :
    ∃ns c,zx [.t (nD N),.t (.tup M)]=some (.m (.lst (iD ns)),[])/\ns.length=N.length/\tZ ns c/\∀s t,s < N.length->t < N.length->(na ns s=na ns t↔Bu (bR N) (bW M) W N.length s t):=by
  have few:=mo.few
  have hr:(N.map Sq.bC).length < 1000:=by rw[List.length_map];omega
  have ec:=comp_map (cap:=[]) (g:=eF (eP kE (aa (eF (aj 0)) ao))) (S:=[some (.t (nD N)),some (.t (.tup M)),none,none,none]) (fun d=>.str (lH d)) M [] (fun d hd acc=>by
    have:=Jd (hw d hd)
    simp[aN,bL,this,aJ])
  rw[List.nil_append] at ec
  have e1:=Fy (sd:=.lst (M.map fun d=>.str (lH d))) (ds:=M.map fun d=>.str (lH d)) (ks:=M.map fun d=>Sum.inr (lH d)) (.inr rfl) (by rw[List.map_map,List.map_map];rfl) (by rw[List.length_map];omega)
  have Qp:M.length<=100000:=by omega
  have s0:Qq j5 [some (.t (nD N)),some (.t (.tup M)),none,none,none]=some (.nx [some (.t (nD N)),some (.t (.tup M)),some (.m (.lst (iD (gz (M.map fun d=>(Sum.inr (lH d):Key)))))),none,none]):=by
    generalize j5=f at e1
    generalize nD N=nd at ec
    simp[Qq,cZ,bT,Qp,ec,e1]
  obtain⟨S',e,ns,c,x3,x4,h3,h4,hl,hc,heq,rfl⟩:=jQ (bd:=bName 3) (body:=fH j5) (ig 0 N.length)
    (fun j S=>∃ns c x3 x4,gZ x3=false/\gZ x4=false/\ns.length=N.length/\tZ ns c/\(∀s t,s < N.length->t < N.length->(na ns s=na ns t↔Bu (bR N) (bW M) W j s t))/\S=[some (.t (nD N)),some (.t (.tup M)),some (.m (.lst (iD ns))),x3,x4])
    [some (.t (nD N)),some (.t (.tup M)),some (.m (.lst (iD (gz (M.map fun d=>(Sum.inr (lH d):Key)))))),none,none]
    ⟨_, _, none, none, rfl, rfl, by rw [jR, List.length_map, hM], jS _, fun s t hs ht => by
      have get:∀i,i < N.length->(M.map fun d=>(Sum.inr (lH d):Key))[i]? =some (Sum.inr (lH (bW M i))):=fun i hi=>by
        rw[List.getElem?_map,jT (by omega)];rfl
      rw[mT (get s hs) (get t ht)]
      constructor
      . intro h
        injection h with h
        exact Dw (hw _ (iM (by omega))) (hw _ (iM (by omega))) h
      . intro h
        rw[show bW M s=bW M t from h],rfl⟩ (by
    rintro j d S hd ⟨ns,c,x3,x4,h3,h4,hl,hc,heq,rfl⟩
    obtain⟨hj,rfl⟩:=mS hd
    refine⟨[some (.t (nD N)),some (.t (.tup M)),some (.m (.lst (iD ns))),some (.t (.int j)),x4],_,?_,FE (f:=j5) h4 hr (fun y3 y4=>by rw[List.length_map];exact Jf mo hW hl) (DA mo),next N W ns,_,some (.t (.int j)),_,rfl,rfl,by unfold next;rw[jR,List.length_map,List.length_range],jS _,fun s t hs ht=>?_,rfl⟩
    . generalize (j:Int)=jj
      simp[-dQ,cB,h3]
    . rw[next_eq hs ht,heq s t hs ht]
      constructor
      . rintro⟨a,b⟩
        exact⟨a,fun c hc=>(heq _ _ (cL mo hs hc).2 (cL mo ht hc).2).mp (b c hc)⟩
      . rintro⟨a,b⟩
        exact⟨a,fun c hc=>(heq _ _ (cL mo hs hc).2 (cL mo ht hc).2).mpr (b c hc)⟩)
  rw[Sq.iK] at heq
  refine⟨ns,c,?_,hl,hc,heq⟩
  have g:=zy (z:=[some (.t (.tup M)),some (.m (.lst (iD (gz (M.map fun d=>(Sum.inr (lH d):Key)))))),none,none]) hr
  rw[List.length_map] at g
  have s1:Qs j5 [some (.t (nD N)),some (.t (.tup M)),some (.m (.lst (iD (gz (M.map fun d=>(Sum.inr (lH d):Key)))))),none,none]=some (.nx [some (.t (nD N)),some (.t (.tup M)),some (.m (.lst (iD ns))),x3,x4]):=by
    unfold Qs
    rw[pM,show dh (aa (gQ 0) ao) [some (.t (nD N)),some (.t (.tup M)),some (.m (.lst (iD (gz (M.map fun d=>(Sum.inr (lH d):Key)))))),none,none]=some (ig 0 N.length,[some (.t (nD N)),some (.t (.tup M)),some (.m (.lst (iD (gz (M.map fun d=>(Sum.inr (lH d):Key)))))),none,none]) from g]
    exact e
  have all:∃a b S,dI j5 [some (.t (nD N)),some (.t (.tup M)),none,none,none]=some (.rt (.m (.lst (iD ns))) (a :: b :: S)):=by
    rw[Mp,Sq.bq s0,Sq.bq s1]
    generalize iD ns=l
    exact⟨_,_,_,by simp[Tt];exact⟨rfl,rfl,rfl⟩⟩
  obtain⟨a,b,S,all⟩:=all
  show(dI j5 [some (.t (nD N)),some (.t (.tup M)),none,none,none]).bind _=_
  rw[all]
  rfl
theorem vO {n:Nat}{g:GS}{us:List U}{d:D}{S:SS}(h:g (us.map some++List.replicate (n - us.length) none)=some (.rt (.t d) S)) (ho:aJ us S=some []):bY n g us=some (.t d,[]):=by
 unfold bY
 rw[h]
 simp only[Option.bind_some,ho,Option.map_some]
section
variable {T:List (Str×Int)}{N:List (List Int)}{M:List D}{Rs:List (List Nat)}
end
end Sl
end
section
namespace Sk
open PySem PySem.Spec PyProof.Rows L2 Sl
theorem iN (nx:Nat->Nat->Nat):∀(cs ds:List Nat) (s:Nat),led nx (cs++ds) s=led nx ds (led nx cs s)
 | [],_,_=>rfl
 | c :: cs,ds,s=>iN nx cs ds (nx s c)
noncomputable def Vd (W:Nat) (cs:List Nat):Prop:=∀c∈cs,c < W
theorem pS {W:Nat}{cs ds:List Nat}(a:Vd W cs) (b:Vd W ds):Vd W (cs++ds):=fun c hc=>(List.mem_append.mp hc).elim (a c) (b c)
theorem vP {W c:Nat}(h:c < W):Vd W [c]:=fun d hd=>by rw[List.mem_singleton.mp hd];exact h
noncomputable def Er (s' c' s c:Nat):Prop:=s' < s\/(s'=s/\c' < c)
structure Canon (W n:Nat) (nx:Nat->Nat->Nat) (wd:Nat->D):Prop where
 pos:0 < n
 lt:∀s c,s < n->c < W->nx s c < n
 ord:∀j,0 < j->j < n->∃s c,s < j/\c < W/\nx s c=j/\∀s' c',c' < W->Er s' c' s c->nx s' c' < j
 apart:∀s t,s < n->t < n->s≠t->∃cs,Vd W cs/\wd (led nx cs s)≠wd (led nx cs t)
theorem Canon.vQ {W n:Nat}{nx:Nat->Nat->Nat}{wd:Nat->D}(A:Canon W n nx wd):∀{cs:List Nat}{s:Nat},Vd W cs->s < n->led nx cs s < n
 | [],s,_,hs=>hs
 | c :: cs,s,h,hs=>Canon.vQ A (cs:=cs) (s:=nx s c) (fun d hd=>h d (List.mem_cons_of_mem _ hd)) (A.lt s c hs (h c List.mem_cons_self))
section
variable {W n n':Nat}{nx nx':Nat->Nat->Nat}{wd pT:Nat->D}
noncomputable def Acc (W:Nat) (nx nx':Nat->Nat->Nat) (v:Nat):Prop:=∃cs,Vd W cs/\led nx cs 0=v/\led nx' cs 0=v
theorem xQ (A':Canon W n' nx' pT) (h:∀cs,Vd W cs->wd (led nx cs 0)=pT (led nx' cs 0)){rs ra:List Nat}(h1:Vd W rs) (h2:Vd W ra) (e:led nx rs 0=led nx ra 0):led nx' rs 0=led nx' ra 0:=by
 apply Classical.byContradiction
 intro ne
 obtain⟨ds,hd,q⟩:=A'.apart _ _ (A'.vQ h1 A'.pos) (A'.vQ h2 A'.pos) ne
 refine q ?_
 rw[<-iN,<-iN,<-h _ (pS h1 hd),<-h _ (pS h2 hd),iN,iN,e]
theorem DB (A : Canon W n nx wd) (A' : Canon W n' nx' pT) (h : ∀ cs, Vd W cs -> wd (led nx cs 0) = pT (led nx' cs 0)) {s : Nat} (hs : s < n) (hs' : s < n') (as : Acc W nx nx' s) (ih : ∀ s', s' < s -> Acc W nx nx' s' /\ ∀ c, c < W -> nx s' c = nx' s' c) : ∀ c, c < W -> nx s c = nx' s c := by
  intro c
  induction c using Nat.strongRecOn with
  | _ c Vc =>
    intro hc
    have er:∀s' c',c' < W->Er s' c' s c->Acc W nx nx' s'/\nx s' c'=nx' s' c':=fun s' c' hc' e=>by
      rcases e with e | ⟨rfl,e⟩
      . exact⟨(ih s' e).1,(ih s' e).2 c' hc'⟩
      . exact⟨as,Vc c' e hc'⟩
    have Ay:∀s' c',c' < W->Er s' c' s c->Acc W nx nx' (nx s' c'):=fun s' c' hc' e=>by
      obtain⟨⟨cs,v,e1,e2⟩,eq⟩:=er s' c' hc' e
      refine⟨cs++[c'],pS v (vP hc'),?_,?_⟩
      . rw[iN,e1];rfl
      . rw[iN,e2,eq];rfl
    have zero:Acc W nx nx' 0:=⟨[],fun c hc=>(by cases hc),rfl,rfl⟩
    obtain⟨rs,Tu,r1,r2⟩:=as
    have ra:led nx (rs++[c]) 0=nx s c:=by rw[iN,r1];rfl
    have rb:led nx' (rs++[c]) 0=nx' s c:=by rw[iN,r2];rfl
    have GY:Acc W nx nx' (nx s c)->nx s c=nx' s c:=fun⟨cs,v,e1,e2⟩=>by
      have:=xQ A' h (pS Tu (vP hc)) v (by rw[ra,e1])
      rw[rb,e2] at this
      exact this.symm
    have GZ:Acc W nx nx' (nx' s c)->nx s c=nx' s c:=fun⟨cs,v,e1,e2⟩=>by
      have:=xQ A (fun cs v=>(h cs v).symm) (pS Tu (vP hc)) v (by rw[rb,e2])
      rw[ra,e1] at this
      exact this
    apply Classical.byContradiction
    intro ne
    have a0:nx s c≠0:=fun z=>ne (GY (by rw[z];exact zero))
    have b0:nx' s c≠0:=fun z=>ne (GZ (by rw[z];exact zero))
    have Tv:∀s2 c2,Er s2 c2 s c\/(s2=s/\c2=c)\/Er s c s2 c2:=fun s2 c2=>by unfold Er;omega
    rcases Nat.lt_or_gt_of_ne ne with lt | lt
    . obtain⟨s2,c2,_,hc2,e2,q⟩:=A'.ord (nx s c) (by omega) (Nat.lt_trans lt (A'.lt s c hs' hc))
      rcases Tv s2 c2 with t | ⟨rfl,rfl⟩ | t
      . refine ne (GY ?_)
        rw[<-e2,<-(er s2 c2 hc2 t).2]
        exact Ay s2 c2 hc2 t
      . exact ne e2.symm
      . have:=q s c hc t;omega
    . obtain⟨s2,c2,_,hc2,e2,q⟩:=A.ord (nx' s c) (by omega) (Nat.lt_trans lt (A.lt s c hs hc))
      rcases Tv s2 c2 with t | ⟨rfl,rfl⟩ | t
      . refine ne (GZ ?_)
        rw[<-e2]
        exact Ay s2 c2 hc2 t
      . exact ne e2
      . have:=q s c hc t;omega
theorem xR (A : Canon W n nx wd) (A' : Canon W n' nx' pT) (h : ∀ cs, Vd W cs -> wd (led nx cs 0) = pT (led nx' cs 0)) : ∀ s, s < n -> s < n' -> Acc W nx nx' s /\ ∀ c, c < W -> nx s c = nx' s c := by
  intro s
  induction s using Nat.strongRecOn with
  | _ s ih =>
    intro hs hs'
    have ih':∀s',s' < s->Acc W nx nx' s'/\∀c,c < W->nx s' c=nx' s' c:=fun s' l=>ih s' l (by omega) (by omega)
    have as:Acc W nx nx' s:=by
      by_cases z:s=0
      . subst z;exact⟨[],fun c hc=>(by cases hc),rfl,rfl⟩
      . obtain⟨s1,c1,l1,hc1,e1,_⟩:=A.ord s (by omega) hs
        obtain⟨⟨cs,v,a1,a2⟩,q⟩:=ih' s1 l1
        refine⟨cs++[c1],pS v (vP hc1),?_,?_⟩
        . rw[iN,a1];exact e1
        . rw[iN,a2];show nx' s1 c1=s;rw[<-q c1 hc1,e1]
    exact⟨as,DB A A' h hs hs' as ih'⟩
theorem Az (A:Canon W n nx wd) (A':Canon W n' nx' pT) (h:∀cs,Vd W cs->wd (led nx cs 0)=pT (led nx' cs 0)):¬n < n':=fun lt=>by
 obtain⟨s,c,l,hc,e,_⟩:=A'.ord n A.pos lt
 have:=(xR A A' h s l (by omega)).2 c hc
 have:=A.lt s c l hc
 omega
theorem canon_one (A:Canon W n nx wd) (A':Canon W n' nx' pT) (h:∀cs,Vd W cs->wd (led nx cs 0)=pT (led nx' cs 0)):n=n'/\∀s,s < n->wd s=pT s/\∀c,c < W->nx s c=nx' s c:=by
 have a:=Az A A' h
 have b:=Az A' A fun cs v=>(h cs v).symm
 have e:n=n':=by omega
 refine⟨e,fun s hs=>?_⟩
 obtain⟨⟨cs,v,e1,e2⟩,q⟩:=xR A A' h s hs (by omega)
 refine⟨?_,q⟩
 have:=h cs v
 rw[e1,e2] at this
 exact this
end
section
variable {κ:Type} [DecidableEq κ]
structure Bf (nx:Nat->Nat->Nat) (ky:Nat->κ) (W:Nat) (L:List Nat) (a col:Nat):Prop where
 zero:L[0]? =some 0
 nd:(L.map ky).Nodup
 ord:∀j v,0 < j->L[j]? =some v->∃s c u,s < j/\c < W/\L[s]? =some u/\nx u c=v/\∀s' c' u',c' < W->Er s' c' s c->L[s']? =some u'->∃i,i < j/\(L.map ky)[i]? =some (ky (nx u' c'))
 seen:∀s c u,c < W->Er s c a col->L[s]? =some u->ky (nx u c)∈L.map ky
variable {nx:Nat->Nat->Nat}{ky:Nat->κ}{W:Nat}{L:List Nat}{a col:Nat}
theorem AA:Bf nx ky W [0] 0 0 where
 zero:=rfl
 nd:=by simp
 ord:=fun j v h0 h=>by
  cases j with
  | zero=>omega
  | succ j=>cases h
 seen:=fun s c u _ e=>by unfold Er at e;omega
theorem Bf.skip (h:Bf nx ky W L a col){u:Nat}(hu:L[a]? =some u) (m:ky (nx u col)∈L.map ky):Bf nx ky W L a (col+1) where
 zero:=h.zero
 nd:=h.nd
 ord:=h.ord
 seen:=fun s c v hc e hv=>by
  by_cases q:Er s c a col
  ·exact h.seen s c v hc q hv
  ·have:s=a/\c=col:=by unfold Er at e q;omega
   obtain⟨rfl,rfl⟩:=this
   rw[hu] at hv
   cases hv
   exact m
theorem Bf.add (h:Bf nx ky W L a col){u:Nat}(hu:L[a]? =some u) (hc:col < W) (m:ky (nx u col)∉L.map ky):Bf nx ky W (L++[nx u col]) a (col+1):=by
 have hl:=(List.getElem?_eq_some_iff.mp hu).1
 have old:∀{s v},s < L.length->((L++[nx u col])[s]? =some v↔L[s]? =some v):=fun {s v} l=>by rw[List.getElem?_append_left l]
 refine⟨?_,?_,fun j v h0 hj=>?_,fun s c v hc' e hv=>?_⟩
 ·exact(old (List.getElem?_eq_some_iff.mp h.zero).1).mpr h.zero
 ·rw[List.map_append,List.nodup_append]
  exact⟨h.nd,by simp,fun x hx y hy e=>m (by rw[List.map_singleton,List.mem_singleton] at hy;rw[<-hy,<-e];exact hx)⟩
 ·by_cases l:j < L.length
  ·obtain⟨s,c,w,b1,b2,b3,b4,b5⟩:=h.ord j v h0 ((old l).mp hj)
   refine⟨s,c,w,b1,b2,(old (by omega)).mpr b3,b4,fun s' c' u' q1 q2 q3=>?_⟩
   have ls:s' < L.length:=by unfold Er at q2;omega
   obtain⟨i,i1,i2⟩:=b5 s' c' u' q1 q2 ((old ls).mp q3)
   refine⟨i,i1,?_⟩
   rw[List.map_append,List.getElem?_append_left (by rw[List.length_map];omega)]
   exact i2
  ·rw[List.getElem?_append_right (by omega)] at hj
   have jl:=(List.getElem?_eq_some_iff.mp hj).1
   have jl:j - L.length < 1:=jl
   have:j=L.length:=by omega
   subst this
   rw[Nat.sub_self] at hj
   cases hj
   refine⟨a,col,u,hl,hc,(old hl).mpr hu,rfl,fun s' c' u' q1 q2 q3=>?_⟩
   have ls:s' < L.length:=by unfold Er at q2;omega
   obtain⟨i,i1⟩:=List.getElem?_of_mem (h.seen s' c' u' q1 q2 ((old ls).mp q3))
   have il:=(List.getElem?_eq_some_iff.mp i1).1
   rw[List.length_map] at il
   exact⟨i,il,by rw[List.map_append,List.getElem?_append_left (by rw[List.length_map];exact il)];exact i1⟩
 ·have ls:s < L.length:=by unfold Er at e;omega
  rw[List.map_append]
  by_cases q:Er s c a col
  ·exact List.mem_append_left _ (h.seen s c v hc' q ((old ls).mp hv))
  ·have:s=a/\c=col:=by unfold Er at e q;omega
   obtain⟨rfl,rfl⟩:=this
   have:=(old ls).mp hv
   rw[hu] at this
   cases this
   exact List.mem_append_right _ (by simp)
theorem Bf.row (h:Bf nx ky W L a W):Bf nx ky W L (a+1) 0 where
 zero:=h.zero
 nd:=h.nd
 ord:=h.ord
 seen:=fun s c u hc e hu=>h.seen s c u hc (by unfold Er at e ⊢;omega) hu
theorem Bf.none (h:Bf nx ky W L a 0) (hl:L.length<=a):Bf nx ky W L (a+1) 0 where
 zero:=h.zero
 nd:=h.nd
 ord:=h.ord
 seen:=fun s c u hc e hu=>h.seen s c u hc (by have:=(List.getElem?_eq_some_iff.mp hu).1;unfold Er;omega) hu
noncomputable def ix (ky:Nat->κ) (L:List Nat) (v:Nat):Nat:=(L.map ky).idxOf (ky v)
noncomputable def mU (nx:Nat->Nat->Nat) (ky:Nat->κ) (L:List Nat) (s c:Nat):Nat:=ix ky L (nx (na L s) c)
theorem G0 {v:Nat}(h:ky v∈L.map ky):ix ky L v < L.length:=by
 have:=List.idxOf_lt_length_of_mem h
 rwa [List.length_map] at this
theorem Mt {v:Nat}(h:ky v∈L.map ky):ky (na L (ix ky L v))=ky v:=by
 have l:=G0 h
 have e:(L.map ky)[ix ky L v]? =some (ky v):=by
  rw[List.getElem?_eq_getElem (by rw[List.length_map];exact l)]
  congr 1
  exact List.getElem_idxOf (by rw[List.length_map];exact l)
 rw[List.getElem?_map,cz l] at e
 exact Option.some.inj e
theorem AB (nd:(L.map ky).Nodup){i:Nat}{v:Nat}(h:(L.map ky)[i]? =some (ky v)):ix ky L v=i:=by
 obtain⟨hl,e⟩:=List.getElem?_eq_some_iff.mp h
 unfold ix
 rw[<-e]
 exact nd.idxOf_getElem i hl
structure Jh (nx:Nat->Nat->Nat) (wd:Nat->D) (ky:Nat->κ) (W:Nat) (P:Nat->Prop):Prop where
 zero:P 0
 cl:∀s c,P s->c < W->P (nx s c)
 eq:∀s t c,P s->P t->c < W->ky s=ky t->ky (nx s c)=ky (nx t c)
 word:∀s t,P s->P t->ky s=ky t->wd s=wd t
 ne:∀s t,P s->P t->ky s≠ky t->∃cs,Vd W cs/\wd (led nx cs s)≠wd (led nx cs t)
theorem canon_of {wd:Nat->D}{P:Nat->Prop}(C:Jh nx wd ky W P) (h:Bf nx ky W L a 0) (hl:L.length<=a) (hP:∀v∈L,P v):Canon W L.length (mU nx ky L) (fun s=>wd (na L s))/\∀cs,Vd W cs->wd (na L (led (mU nx ky L) cs 0))=wd (led nx cs 0):=by
 have l0:0 < L.length:=(List.getElem?_eq_some_iff.mp h.zero).1
 have n0:na L 0=0:=by have:=cz l0;rw[h.zero] at this;exact(Option.some.inj this).symm
 have mem:∀s c,s < L.length->c < W->ky (nx (na L s) c)∈L.map ky:=fun s c hs hc=>h.seen s c _ hc (by unfold Er;omega) (cz hs)
 have pn:∀s,s < L.length->P (na L s):=fun s hs=>hP _ (dg hs)
 have lt:∀s c,s < L.length->c < W->mU nx ky L s c < L.length:=fun s c hs hc=>G0 (mem s c hs hc)
 have way:∀(cs:List Nat) (s v:Nat),Vd W cs->s < L.length->P v->ky (na L s)=ky v->led (mU nx ky L) cs s < L.length/\ky (na L (led (mU nx ky L) cs s))=ky (led nx cs v)/\P (led nx cs v):=by
  intro cs
  induction cs with
  | nil=>intro s v _ hs hv e;exact⟨hs,e,hv⟩
  | cons c cs ih=>
   intro s v hc hs hv e
   have hcc:=hc c List.mem_cons_self
   refine ih (mU nx ky L s c) (nx v c) (fun d hd=>hc d (List.mem_cons_of_mem _ hd)) (lt s c hs hcc) (C.cl v c hv hcc) ?_
   unfold mU
   rw[Mt (mem s c hs hcc)]
   exact C.eq _ _ c (pn s hs) hv hcc e
 refine⟨⟨l0,lt,fun j j0 hj=>?_,fun s t hs ht ne=>?_⟩,fun cs hc=>?_⟩
 ·obtain⟨s,c,u,b1,b2,b3,b4,b5⟩:=h.ord j _ j0 (cz hj)
  have us:na L s=u:=by have:=cz (ns:=L) (i:=s) (by omega);rw[b3] at this;exact(Option.some.inj this).symm
  refine⟨s,c,b1,b2,?_,fun s' c' q1 q2=>?_⟩
  ·unfold mU
   rw[us,b4]
   exact AB h.nd (by rw[List.getElem?_map,cz hj];rfl)
  ·have ls:s' < L.length:=by unfold Er at q2;omega
   obtain⟨i,i1,i2⟩:=b5 s' c' _ q1 q2 (cz ls)
   unfold mU
   rw[AB h.nd i2]
   exact i1
 ·have Ve:ky (na L s)≠ky (na L t):=fun e=>ne (by
   have a1:=AB h.nd (v:=na L s) (i:=s) (by rw[List.getElem?_map,cz hs];rfl)
   have a2:=AB h.nd (v:=na L t) (i:=t) (by rw[List.getElem?_map,cz ht];rfl)
   rw[<-a1,<-a2]
   unfold ix
   rw[e])
  obtain⟨cs,vc,q⟩:=C.ne _ _ (pn s hs) (pn t ht) Ve
  refine⟨cs,vc,fun e=>q ?_⟩
  obtain⟨w1,w2,w3⟩:=way cs s _ vc hs (pn s hs) rfl
  obtain⟨v1,v2,v3⟩:=way cs t _ vc ht (pn t ht) rfl
  rw[<-C.word _ _ (pn _ w1) w3 w2,<-C.word _ _ (pn _ v1) v3 v2]
  exact e
 ·obtain⟨w1,w2,w3⟩:=way cs 0 0 hc l0 C.zero (by rw[n0])
  exact C.word _ _ (pn _ w1) w3 w2
end
noncomputable def Fo (ns:List Nat):Prop:=∀i,i < ns.length->∀k,k < na ns i->∃i',i' < i/\na ns i'=k
theorem AD {κ:Type} [DecidableEq κ]:∀(l m acc:List κ),kI acc (l++m)=kI (kI acc l) m
 | [],m,acc=>rfl
 | x :: l,m,acc=>AD l m _
theorem AE {κ:Type} [DecidableEq κ] (ks:List κ):Fo (gz ks):=fun i hi k hk=>by
 rw[jR] at hi
 have ei:ks[i]? =some ks[i]:=List.getElem?_eq_getElem hi
 rw[rA ei] at hk
 have es:ks=ks.take i++ks[i] :: ks.drop (i+1):=by rw[<-List.drop_eq_getElem_cons hi,List.take_append_drop]
 have ed:kI [] ks=kI (if ks[i]∈kI [] (ks.take i) then kI [] (ks.take i) else kI [] (ks.take i)++[ks[i]]) (ks.drop (i+1)):=by
  conv=>lhs;rw[es]
  rw[AD]
  rfl
 generalize hx:ks[i]=x at *
 generalize hacc:kI [] (ks.take i)=acc at *
 obtain⟨r,er⟩:=vK (ks.drop (i+1)) (if x∈acc then acc else acc++[x])
 rw[er] at ed
 have kl:k < acc.length/\(kI [] ks)[k]? =acc[k]?:=by
  by_cases m:x∈acc
  ·rw[if_pos m] at ed
   rw[ed,List.idxOf_append,if_pos m] at hk
   have:=List.idxOf_lt_length_of_mem m
   exact⟨by omega,by rw[ed,List.getElem?_append_left (by omega)]⟩
  ·rw[if_neg m] at ed
   rw[ed,List.append_assoc,List.idxOf_append,if_neg m] at hk
   have z:([x]++r).idxOf x=0:=by show(x :: r).idxOf x=0;simp
   rw[z] at hk
   exact⟨by omega,by rw[ed,List.append_assoc,List.getElem?_append_left (by omega)]⟩
 obtain⟨hk',e⟩:=kl
 rw[List.getElem?_eq_getElem hk'] at e
 have m:acc[k]∈ks.take i:=by
  have mm:∀y,y∈acc->y∈kI [] (ks.take i):=fun y hy=>by rw[hacc];exact hy
  rcases kX.mp (mm _ (List.getElem_mem hk')) with z | z
  ·cases z
  ·exact z
 obtain⟨i',hi',e'⟩:=List.getElem_of_mem m
 rw[List.length_take] at hi'
 rw[List.getElem_take] at e'
 refine⟨i',by omega,?_⟩
 rw[rA (k:=acc[k]) (by rw[List.getElem?_eq_getElem (by omega),e'])]
 obtain⟨hl,e2⟩:=List.getElem?_eq_some_iff.mp e
 rw[<-e2]
 exact(zw List.nodup_nil).idxOf_getElem k hl
section
variable {ns:List Nat}{c:Nat}
theorem jU {k:Nat}(h:tZ ns c) (hk:k < c):ns.idxOf k < ns.length/\na ns (ns.idxOf k)=k:=by
 have l:=List.idxOf_lt_length_of_mem (h.on k hk)
 refine⟨l,?_⟩
 have a:=cz l
 rw[List.getElem?_eq_getElem l,List.getElem_idxOf l] at a
 exact(Option.some.inj a).symm
theorem DC {i:Nat}(hi:i < ns.length):ns.idxOf (na ns i)<=i:=by
 apply Classical.byContradiction
 intro h
 have:=List.not_of_lt_findIdx (p:=fun x=>x == na ns i) (xs:=ns) (i:=i) (by show i < ns.idxOf (na ns i);omega)
 have e:=cz hi
 rw[List.getElem?_eq_getElem hi] at e
 rw[Option.some.inj e] at this
 simp at this
theorem mV {i k:Nat}(hi:i < ns.length) (h:na ns i=k):ns.idxOf k<=i:=by rw[<-h];exact DC hi
theorem DE (h:na ns 0=0) (h0:0 < ns.length):ns.idxOf 0=0:=by have:=mV h0 h;omega
theorem FF (f:Fo ns) (h0:0 < ns.length):na ns 0=0:=by
 apply Classical.byContradiction
 intro h
 obtain⟨i',l,_⟩:=f 0 h0 0 (by omega)
 omega
theorem DF (f:Fo ns){i k:Nat}(hi:i < ns.length) (h:i < ns.idxOf k):na ns i < k:=by
 apply Classical.byContradiction
 intro q
 by_cases e:na ns i=k
 ·have:=mV hi e;omega
 ·obtain⟨i',l,e'⟩:=f i hi k (by omega)
  have:=mV (ns:=ns) (i:=i') (by omega) e'
  omega
end
theorem oV {c i:Nat}(h:i < c){f:Nat->Nat}:na ((List.range c).map f) i=f i:=by
 unfold na
 rw[List.getD_eq_getElem?_getD,List.getElem?_map,List.getElem?_range h]
 rfl
section
variable {nx:Nat->Nat->Nat}{W:Nat}{L ns:List Nat}{c a:Nat}
noncomputable def rep (L ns:List Nat) (c:Nat):List Nat:=(List.range c).map fun k=>na L (ns.idxOf k)
noncomputable def pU (L ns:List Nat) (v:Nat):Nat:=na ns (L.idxOf v)
theorem Ji (nd:L.Nodup){i:Nat}(h:i < L.length):L.idxOf (na L i)=i:=by
 have e:=cz h
 rw[List.getElem?_eq_getElem h] at e
 have:=nd.idxOf_getElem i h
 rw[Option.some.inj e] at this
 exact this
theorem kg {v:Nat}(h:v∈L):L.idxOf v < L.length/\na L (L.idxOf v)=v:=by
 have l:=List.idxOf_lt_length_of_mem h
 refine⟨l,?_⟩
 have a:=cz l
 rw[List.getElem?_eq_getElem l,List.getElem_idxOf l] at a
 exact(Option.some.inj a).symm
theorem DG (nd:L.Nodup) (hl:ns.length=L.length) (h:tZ ns c){k:Nat}(hk:k < c):pU L ns (na L (ns.idxOf k))=k:=by
 obtain⟨l,e⟩:=jU h hk
 unfold pU
 rw[Ji nd (by omega),e]
theorem AF (nd:L.Nodup) (hl:ns.length=L.length) (h:tZ ns c):(rep L ns c).map (pU L ns)=List.range c:=by
 unfold rep
 rw[List.map_map]
 conv=>rhs;rw[<-List.map_id (List.range c)]
 exact List.map_congr_left fun k hk=>DG nd hl h (List.mem_range.mp hk)
theorem Jj (hB:Bf nx (fun v=>v) W L a 0) (ha:L.length<=a) (hl:ns.length=L.length) (h:tZ ns c) (f:Fo ns) (st:∀s t col,s < L.length->t < L.length->col < W->na ns s=na ns t->pU L ns (nx (na L s) col)=pU L ns (nx (na L t) col)):
  Bf nx (pU L ns) W (rep L ns c) (rep L ns c).length 0:=by
 have nd:L.Nodup:=by have:=hB.nd;rwa [List.map_id'] at this
 have l0:0 < L.length:=(List.getElem?_eq_some_iff.mp hB.zero).1
 have n0:=FF f (by omega)
 have c0:0 < c:=by have:=h.lt _ (dg (ns:=ns) (i:=0) (by omega));omega
 have rl:(rep L ns c).length=c:=by unfold rep;rw[List.length_map,List.length_range]
 have rm:=AF nd hl h
 have rat:∀{k u},(rep L ns c)[k]? =some u->k < c/\u=na L (ns.idxOf k):=fun {k u} e=>by
  have l:=(List.getElem?_eq_some_iff.mp e).1
  rw[rl] at l
  refine⟨l,?_⟩
  unfold rep at e
  rw[List.getElem?_map,List.getElem?_range l] at e
  exact(Option.some.inj e).symm
 have Mu:∀{k},k < c->(rep L ns c)[k]? =some (na L (ns.idxOf k)):=fun {k} l=>by
  unfold rep
  rw[List.getElem?_map,List.getElem?_range l]
  rfl
 have lv:∀{i v},L[i]? =some v->i < L.length/\na L i=v:=fun {i v} e=>by
  have l:=(List.getElem?_eq_some_iff.mp e).1
  have:=cz l
  rw[e] at this
  exact⟨l,(Option.some.inj this).symm⟩
 have mem:∀s col,s < L.length->col < W->nx (na L s) col∈L:=fun s col hs hc=>by
  have:=hB.seen s col _ hc (by unfold Er;omega) (cz hs)
  rwa [List.map_id'] at this
 refine⟨?_,by rw[rm];exact List.nodup_range,fun j v j0 hv=>?_,fun s col u hc e hu=>?_⟩
 ·rw[Mu c0,DE n0 (by omega)]
  have:=cz l0
  rw[hB.zero] at this
  rw[<-Option.some.inj this]
 ·obtain⟨jc,rfl⟩:=rat hv
  obtain⟨pl,pe⟩:=jU h jc
  have p0:0 < ns.idxOf j:=by
   apply Classical.byContradiction
   intro z
   have:ns.idxOf j=0:=by omega
   rw[this] at pe
   omega
  obtain⟨s0,c0,u0,b1,b2,b3,b4,b5⟩:=hB.ord (ns.idxOf j) _ p0 (cz (by omega))
  obtain⟨ls,es⟩:=lv b3
  have early:∀s' c',s' < L.length->c' < W->Er s' c' s0 c0->pU L ns (nx (na L s') c') < j:=fun s' c' q1 q2 q3=>by
   obtain⟨i,i1,i2⟩:=b5 s' c' _ q2 q3 (cz q1)
   rw[List.map_id'] at i2
   obtain⟨il,ie⟩:=lv i2
   unfold pU
   rw[<-ie,Ji nd il]
   exact DF f (by omega) i1
  have gc:na ns s0 < c:=h.lt _ (dg (by omega))
  have WY:ns.idxOf (na ns s0)<=s0:=DC (by omega)
  obtain⟨WZ,Vf⟩:=jU h gc
  have req:ns.idxOf (na ns s0)=s0:=by
   apply Classical.byContradiction
   intro ne
   have q:=early (ns.idxOf (na ns s0)) c0 (by omega) b2 (.inl (by omega))
   rw[st _ s0 c0 (by omega) ls b2 Vf,es,b4,DG nd hl h jc] at q
   omega
  refine⟨na ns s0,c0,u0,DF f (by omega) b1,b2,?_,b4,fun s' c' u' q1 q2 q3=>?_⟩
  ·rw[Mu gc,req,es]
  ·obtain⟨sc,rfl⟩:=rat q3
   obtain⟨sl,se⟩:=jU h sc
   have er:Er (ns.idxOf s') c' s0 c0:=by
    rcases q2 with q | ⟨rfl,q⟩
    ·left
     apply Classical.byContradiction
     intro z
     by_cases e:ns.idxOf s'=s0
     ·rw[e] at se;omega
     ·have:=DF f (i:=s0) (k:=s') (by omega) (by omega)
      omega
    ·exact .inr ⟨req,q⟩
   have q:=early (ns.idxOf s') c' (by omega) q1 er
   refine⟨_,q,?_⟩
   rw[rm,List.getElem?_range (by omega)]
 ·obtain⟨sc,rfl⟩:=rat hu
  obtain⟨sl,se⟩:=jU h sc
  rw[rm,List.mem_range]
  have m:=mem (ns.idxOf s) col (by omega) hc
  obtain⟨ml,me⟩:=kg m
  exact h.lt _ (dg (by omega))
end
end Sk
end
section
namespace Sk
open PySem PySem.Spec PyProof.Rows L2 Sw Sl
structure kF (W:Nat) (N:List (List Int)):Prop where
 pos:0 < N.length
 few:N.length<=900
 row:∀r∈N,r.length=W/\∀v∈r,0<=v/\v < N.length
theorem kF.of {W:Nat}{N:List (List Int)}(m:Sq.fU W N):kF W N:=⟨m.pos,by have:=m.few;omega,m.row⟩
theorem rw_len' {W:Nat}{N:List (List Int)}{s:Nat}(mo:kF W N) (h:s < N.length):(rw' N s).length=W:=(mo.row _ (List.mem_of_getElem? (rw_get h))).1
theorem sH {W:Nat}{N:List (List Int)}{s c:Nat}(mo:kF W N) (h:s < N.length) (hc:c < W):(rw' N s)[c]? =some (bR N s c:Nat)/\bR N s c < N.length:=by
 obtain⟨r1,r2⟩:=mo.row _ (List.mem_of_getElem? (rw_get h))
 have hl:c < (rw' N s).length:=by omega
 have v:=r2 _ (List.getElem_mem hl)
 unfold bR
 rw[List.getD_eq_getElem?_getD,List.getElem?_eq_getElem hl]
 simp only[Option.getD_some]
 exact⟨by congr 1;omega,by omega⟩
theorem G1 {W:Nat}{N:List (List Int)}{s:Nat}(mo:kF W N) (h:s < N.length):(rw' N s).map D.int=(List.range W).map fun c=>D.int (bR N s c:Nat):=by
 apply List.ext_getElem?
 intro c
 rw[List.getElem?_map,List.getElem?_map]
 by_cases q:c < W
 ·rw[(sH mo h q).1,List.getElem?_range q];rfl
 ·rw[List.getElem?_eq_none (by rw[rw_len' mo h];omega),List.getElem?_eq_none (by rw[List.length_range];omega)];rfl
theorem mW {W:Nat}{N:List (List Int)}{s:Nat}(mo:kF W N) (h:s < N.length):fC (N.map Sq.bC) (s:Int)=some (.tup ((List.range W).map fun c=>D.int (bR N s c:Nat))):=by
 rw[Au h,G1 mo h]
structure Sn (L:List Nat) (kvs:List (Key×D)):Prop where
 yes:∀v:Nat,v∈L->(aV kvs (.inl (v:Int))).isSome=true
 no:∀v:Nat,v∉L->aV kvs (.inl (v:Int))=none
 few:kvs.length<=L.length
theorem Sn.add {L:List Nat}{kvs:List (Key×D)}(h:Sn L kvs){v:Nat}{d:D}(m:v∉L):Sn (L++[v]) (putD kvs (.inl (v:Int)) d):=by
 have e:=h.no v m
 rw[As e]
 refine⟨fun u hu=>?_,fun u hu=>?_,?_⟩
 ·by_cases q:u=v
  ·subst q;rw[look_same e];rfl
  ·rw[sE (by intro z;injection z with z;exact q (by omega))]
   rcases List.mem_append.mp hu with z | z
   ·exact h.yes u z
   ·exact absurd (List.mem_singleton.mp z) q
 ·have q:u≠v:=fun z=>hu (by rw[z];simp)
  rw[sE (by intro z;injection z with z;exact q (by omega))]
  exact h.no u fun z=>hu (List.mem_append_left _ z)
 ·rw[List.length_append,List.length_append];have:=h.few;simp;omega
noncomputable def gB:GS:=
 (wX (qB (pK true 3 (eF (aj 6)))) (aK (pI 3 (eF (aj 6)) (eC (.bl true)))
 (lQ (eT (eM 2 hAppend (aa (eF (aj 6)) ao))))) mZ)
noncomputable def kZ:GS:=
 (aK (aZ 5 (eT (aQ 0 (aQ 2 (eF (aj 4))))))
 (aK (iA (bName 6) (cC (eF (aj 5))) (gB))
 (EY (fun i j=>i+j) 4 (eC (.int 1)))))
noncomputable def iW:GS:=
 (aK (aZ 2 (eP xj (aa (eF (aj 1)) ao)))
 (aK (aZ 3 (eP oJ (aa (eF (bG [] (cC (eF (aj 1))) aD (eF (eP jg (aa (eF (aj 0)) (aa (eC (.bl true)) ao)))))) ao)))
 (aK (aZ 4 (eT (eC (.int 0))))
 (aK (rX 100000 (qB (eF (eP Ih (aa (eF (aj 4)) (aa (gQ 2) ao))))) (kZ))
 (gf (aj 2))))))
noncomputable def reachF:FM:=bY 7 iW
theorem Bv:∀us r,reachF us=some r->bY 7 iW us=some r:=fun _ _ h=>h
section
variable {z0 z1 z4 z5:Option U}{fs:List D}{kvs:List (Key×D)}{v:Int}
theorem Jk (h:(aV kvs (.inl v)).isSome=true):gB [z0,z1,some (.m (.lst fs)),some (.m (.dct kvs)),z4,z5,some (.t (.int v))]=some (.nx [z0,z1,some (.m (.lst fs)),some (.m (.dct kvs)),z4,z5,some (.t (.int v))]):=by
 have e:vD (.m (.dct kvs)) (.int v)=some true:=by rw[vM.has kvs (.int v) (.inl v) rfl,h]
 simp[gB,pK,e]
theorem Mv (h:aV kvs (.inl v)=none) (hk:kvs.length < 100000) (hf:fs.length < 100000):gB [z0,z1,some (.m (.lst fs)),some (.m (.dct kvs)),z4,z5,some (.t (.int v))]=some (.nx [z0,z1,some (.m (.lst (fs++[.int v]))),some (.m (.dct (putD kvs (.inl v) (.bl true)))),z4,z5,some (.t (.int v))]):=by
 have e:vD (.m (.dct kvs)) (.int v)=some false:=by rw[vM.has kvs (.int v) (.inl v) rfl,h];rfl
 have k:keyOf (.int v)=some (.inl v):=rfl
 simp[gB,pK,e,k,hk,hf,j8,BK,hAppend]
end
theorem AG (L:List Nat) (v:Nat):iD (L++[v])=iD L++[.int (v:Nat)]:=by unfold iD;rw[List.map_append];rfl
theorem sI {L:List Nat}{n:Nat}(nd:L.Nodup) (h:∀v∈L,v < n):L.length<=n:=by
 have:=nd.length_le_of_subset (l₂:=List.range n) fun v hv=>List.mem_range.mpr (h v hv)
 rwa [List.length_range] at this
section
variable {W:Nat}{N:List (List Int)}{z0 z1 z4 z5:Option U}
theorem Jl (mo : kF W N) {L : List Nat} {kvs : List (Key × D)} {a u : Nat} {x6 : Option U} (h : Bf (bR N) (fun v => v) W L a 0) (hL : ∀ v ∈ L, v < N.length) (hu : L[a]? = some u) (sn : Sn L kvs) (h6 : gZ x6 = false) :
    ∃L' kvs' pW,loop (bName 6) gB ((List.range W).map fun c=>D.int (bR N u c:Nat)) [z0,z1,some (.m (.lst (iD L))),some (.m (.dct kvs)),z4,z5,x6]=some (.nx [z0,z1,some (.m (.lst (iD L'))),some (.m (.dct kvs')),z4,z5,pW])/\Bf (bR N) (fun v=>v) W L' a W/\(∀v∈L',v < N.length)/\Sn L' kvs'/\gZ pW=false/\L'[a]? =some u:=by
  have few:=mo.few
  have un:u < N.length:=hL u (List.mem_of_getElem? hu)
  obtain⟨S',e,L',kvs',pW,b1,b2,b3,b4,b5,rfl⟩:=jQ (bd:=bName 6) (body:=gB) ((List.range W).map fun c=>D.int (bR N u c:Nat))
    (fun j S=>∃L' kvs' pW,Bf (bR N) (fun v=>v) W L' a j/\(∀v∈L',v < N.length)/\Sn L' kvs'/\gZ pW=false/\L'[a]? =some u/\S=[z0,z1,some (.m (.lst (iD L'))),some (.m (.dct kvs')),z4,z5,pW])
    _ ⟨L,kvs,x6,h,hL,sn,h6,hu,rfl⟩ (by
    rintro j d S hd ⟨L',kvs',pW,b1,b2,b3,b4,b5,rfl⟩
    have hj:j < W:=by
      have:=(List.getElem?_eq_some_iff.mp hd).1
      rwa [List.length_map,List.length_range] at this
    rw[List.getElem?_map,List.getElem?_range hj] at hd
    have hd:D.int (bR N u j:Nat)=d:=Option.some.inj hd
    subst hd
    have nd:L'.Nodup:=by have:=b1.nd;rwa [List.map_id'] at this
    have lf:=sI nd b2
    refine⟨[z0,z1,some (.m (.lst (iD L'))),some (.m (.dct kvs')),z4,z5,some (.t (.int (bR N u j:Nat)))],?_⟩
    by_cases m:bR N u j∈L'
    . refine⟨_,?_,Jk (b3.yes _ m),L',kvs',some (.t (.int (bR N u j:Nat))),b1.skip b5 (by rw[List.map_id'];exact m),b2,b3,rfl,b5,rfl⟩
      generalize ((bR N u j:Nat):Int)=jj
      simp[-dQ,cB,b4]
    . have fw:=b3.few
      refine⟨_,?_,Mv (b3.no _ m) (by omega) (by unfold iD;rw[List.length_map];omega),L'++[bR N u j],_,some (.t (.int (bR N u j:Nat))),b1.add b5 hj (by rw[List.map_id'];exact m),fun v hv=>?_,b3.add m,rfl,?_,by rw[AG]⟩
      . generalize ((bR N u j:Nat):Int)=jj
        simp[-dQ,cB,b4]
      . rcases List.mem_append.mp hv with q | q
        . exact b2 v q
        . rw[List.mem_singleton.mp q];exact(sH mo un hj).2
      . rw[List.getElem?_append_left (List.getElem?_eq_some_iff.mp b5).1];exact b5)
  rw[List.length_map,List.length_range] at b1
  exact⟨L',kvs',pW,e,b1,b2,b3,b4,b5⟩
theorem FG {nt:D}{fs row:List D}{kvs kvs':List (Key×D)}{fs':List D}{a u:Int}{x5 x6 pW:Option U}(h5:gZ x5=false) (e1:fC fs a=some (.int u)) (e2:fu (.t nt) (.int u)=some (.tup row))
  (lp:loop (bName 6) gB row [some (.t nt),z1,some (.m (.lst fs)),some (.m (.dct kvs)),some (.t (.int a)),some (.t (.tup row)),x6]=some (.nx [some (.t nt),z1,some (.m (.lst fs')),some (.m (.dct kvs')),some (.t (.int a)),some (.t (.tup row)),pW])):
  kZ [some (.t nt),z1,some (.m (.lst fs)),some (.m (.dct kvs)),some (.t (.int a)),x5,x6]=some (.nx [some (.t nt),z1,some (.m (.lst fs')),some (.m (.dct kvs')),some (.t (.int (a+1))),some (.t (.tup row)),pW]):=by
 simp[-dQ,cB,kZ,e1,e2,h5,cZ,lp]
theorem FH {nt:D}{fs:List D}{kvs:List (Key×D)}{a:Nat}{x5 x6:Option U}:(qB (eF (eP Ih (aa (eF (aj 4)) (aa (gQ 2) ao))))) [some (.t nt),z1,some (.m (.lst fs)),some (.m (.dct kvs)),some (.t (.int a)),x5,x6]=some (decide (a < fs.length),[some (.t nt),z1,some (.m (.lst fs)),some (.m (.dct kvs)),some (.t (.int a)),x5,x6]):=by
 simp
theorem xS {nt:D}{rows:List D}(h:nt= .tup rows\/nt= .lst rows) (i:Int):fu (.t nt) (.int i)=fC rows i:=by rcases h with rfl | rfl <;> rfl
theorem AH {nt:D}(mo:kF W N) (hn:nt= .tup (N.map Sq.bC)\/nt= .lst (N.map Sq.bC)):∀(m a:Nat) (L:List Nat) (kvs:List (Key×D)) (x5 x6:Option U),N.length < a+m->a<=L.length->Bf (bR N) (fun v=>v) W L a 0->(∀v∈L,v < N.length)->Sn L kvs->gZ x5=false->gZ x6=false->
    ∃L' kvs' z4 z5 z6,qu (qB (eF (eP Ih (aa (eF (aj 4)) (aa (gQ 2) ao))))) kZ m [some (.t nt),z1,some (.m (.lst (iD L))),some (.m (.dct kvs)),some (.t (.int a)),x5,x6]=some (.nx [some (.t nt),z1,some (.m (.lst (iD L'))),some (.m (.dct kvs')),z4,z5,z6])/\(∀v∈L',v < N.length)/\∃a',Bf (bR N) (fun v=>v) W L' a' 0/\L'.length<=a'
  | 0,a,L,kvs,x5,x6,hm,ha,h,hL,sn,h5,h6=>by
    have nd:L.Nodup:=by have:=h.nd;rwa [List.map_id'] at this
    have lf:=sI nd hL
    omega
  | m + 1, a, L, kvs, x5, x6, hm, ha, h, hL, sn, h5, h6 => by
    have il:(iD L).length=L.length:=by unfold iD;rw[List.length_map]
    unfold qu
    rw[show(qB (eF (eP Ih (aa (eF (aj 4)) (aa (gQ 2) ao))))) [some (.t nt),z1,some (.m (.lst (iD L))),some (.m (.dct kvs)),some (.t (.int a)),x5,x6]=_ from FH,Option.bind_some,il]
    by_cases c:a < L.length
    . rw[decide_eq_true c]
      simp only[if_true]
      have hu:=cz c
      have un:na L a < N.length:=hL _ (dg c)
      obtain⟨L',kvs',pW,e,b1,b2,b3,b4,b5⟩:=Jl (z0:=some (.t nt)) (z1:=z1) (z4:=some (.t (.int a))) (z5:=some (.t (.tup ((List.range W).map fun c=>D.int (bR N (na L a) c:Nat))))) mo h hL hu sn h6
      have tn:=FG (z1:=z1) h5 (iV c) (by rw[xS hn];exact mW mo un) e
      have al:=(List.getElem?_eq_some_iff.mp b5).1
      rw[tn,Option.bind_some]
      exact AH mo hn m (a+1) L' kvs' _ pW (by omega) (by omega) b1.row b2 b3 rfl b4
    . rw[decide_eq_false c]
      exact⟨L,kvs,_,x5,x6,rfl,hL,a,h,by omega⟩
end
theorem DH {W:Nat}{N:List (List Int)}{nt:D}(mo:kF W N) (hn:nt= .tup (N.map Sq.bC)\/nt= .lst (N.map Sq.bC)):∃L,reachF [.t nt,.t (.lst [.int 0])]=some (.m (.lst (iD L)),[])/\(∀v∈L,v < N.length)/\∃a,Bf (bR N) (fun v=>v) W L a 0/\L.length<=a:=by
 have few:=mo.few
 obtain⟨L,kvs,z4,z5,z6,e,hL,hB⟩:=AH (z1:=some (.t (.lst [.int 0]))) mo hn 100000 0 [0] [(.inl 0,.bl true)] none none (by omega) (Nat.zero_le _) AA (fun v hv=>by rw[List.mem_singleton.mp hv];exact mo.pos)
  ⟨fun v hv=>(by rw[List.mem_singleton.mp hv];rfl),fun v hv=>(by
   unfold aV
   rw[List.find?_cons_of_neg (by simp only[decide_eq_true_eq];intro z;injection z with z;exact hv (by rw[List.mem_singleton];omega))]
   rfl),Nat.le_refl _⟩ rfl rfl
 refine⟨L,?_,hL,hB⟩
 have all:∃a b S,iW [some (.t nt),some (.t (.lst [.int 0])),none,none,none,none,none]=some (.rt (.m (.lst (iD L))) (a :: b :: S)):=by
  unfold iW
  rw[Sq.bq (S1:=[some (.t nt),some (.t (.lst [.int 0])),some (.m (.lst [.int 0])),none,none,none,none]) rfl,
   Sq.bq (S1:=[some (.t nt),some (.t (.lst [.int 0])),some (.m (.lst [.int 0])),some (.m (.dct [(.inl 0,.bl true)])),none,none,none]) (by simp[cZ,bT,aN,bL,aJ,keyOf]),
   Sq.bq (S1:=[some (.t nt),some (.t (.lst [.int 0])),some (.m (.lst (iD [0]))),some (.m (.dct [(.inl 0,.bl true)])),some (.t (.int ((0:Nat):Int))),none,none]) rfl,Sq.bq (show rX 100000 _ _ _=_ from e)]
  generalize iD L=l
  exact⟨_,_,_,by simp;exact⟨rfl,rfl,rfl⟩⟩
 obtain⟨a,b,S,all⟩:=all
 show(iW [some (.t nt),some (.t (.lst [.int 0])),none,none,none,none,none]).bind _=_
 rw[all]
 rfl
theorem Bw (cap:List Nat) (gi:GI) (q:GT) (g:GD) (S:SS):sA cap gi q g S=(gi S).bind fun p=>if p.1.length<=100000 then(gn cap q g p.1 p.2 []).map fun r=>(.m (.lst r.1),r.2) else none:=rfl
theorem xT (cap : List Nat) (q : GT) (g : GD) (a b : D) (ds : List D) (S : SS) (acc : List D) : gn cap q g (.tup [a, b] :: ds) S acc = (gn cap q g [.tup [a, b]] S acc).bind fun r => gn cap q g ds r.2 r.1 := by
  simp only[gn]
  cases bL S cap with
  | none=>rfl
  | some us =>
    simp only[Option.bind_some]
    split
    . cases cg S us with
      | none=>rfl
      | some ws =>
        simp only[Option.bind_some]
        cases q (some (.t a) :: some (.t b) :: ws.map some) with
        | none=>rfl
        | some p=>
          simp only[Option.bind_some]
          split
          . cases g p.2 with
            | none=>rfl
            | some r=>
              simp only[Option.bind_some]
              cases aJ (.t a :: .t b :: ws) r.2 with
              | none=>rfl
              | some outs=>
                simp only[Option.bind_some]
                cases wb us outs S with
                | none=>rfl
                | some S'=>rfl
          . cases aJ (.t a :: .t b :: ws) p.2 with
            | none=>rfl
            | some outs=>
              simp only[Option.bind_some]
              cases wb us outs S with
              | none=>rfl
              | some S'=>rfl
    . rfl
theorem uN {cap:List Nat}{g:GD}{S:SS}{α:Type}(fa fb f:α->D):∀(l:List α) (acc:List D),(∀x∈l,∀acc,gn cap aD g [.tup [fa x,fb x]] S acc=some (acc++[f x],S))->gn cap aD g (l.map fun x=>.tup [fa x,fb x]) S acc=some (acc++l.map f,S)
 | [],acc,_=>by simp[gn]
 | x :: l,acc,h=>by
  rw[List.map_cons,xT,h x List.mem_cons_self,Option.bind_some]
  refine(uN fa fb f l (acc++[f x]) fun y hy=>h y (List.mem_cons_of_mem _ hy)).trans ?_
  simp
theorem lg (m:Nat) (f:Nat->D):jm ((List.range m).map f)=(List.range m).map fun i=>.tup [.int (i:Nat),f i]:=by
 unfold jm
 apply List.ext_getElem?
 intro i
 rw[List.getElem?_mapIdx,List.getElem?_map,List.getElem?_map]
 by_cases h:i < m
 ·rw[List.getElem?_range h];rfl
 ·rw[List.getElem?_eq_none (by rw[List.length_range];omega)];rfl
noncomputable def fV (W:Nat) (f:Nat->Nat):List D:=(List.range W).map fun c=>D.int (f c:Nat)
noncomputable def br (m W:Nat) (f:Nat->Nat->Nat):List D:=(List.range m).map fun s=>.tup (fV W (f s))
theorem fJ (W:Nat) (f:Nat->Nat):(fV W f).length=W:=by unfold fV;rw[List.length_map,List.length_range]
theorem Bx (m W:Nat) (f:Nat->Nat->Nat):(br m W f).length=m:=by unfold br;rw[List.length_map,List.length_range]
structure Part (m W:Nat) (f:Nat->Nat->Nat) (wd:Nat->D) (ns:List Nat) (c:Nat):Prop where
 len:ns.length=m
 cls:tZ ns c
 fo:Fo ns
 word:∀s t,s < m->t < m->na ns s=na ns t->wd s=wd t
 ne:∀s t,s < m->t < m->na ns s≠na ns t->∃cs,Vd W cs/\wd (led f cs s)≠wd (led f cs t)
noncomputable def oW (W:Nat) (f:Nat->Nat->Nat) (ns:List Nat) (s:Nat):D:=.tup (.int (na ns s:Nat) :: fV W fun c=>na ns (f s c))
noncomputable def nj (m W:Nat) (f:Nat->Nat->Nat) (ns:List Nat):List Nat:=gz ((List.range m).map (oW W f ns))
theorem By (W:Nat) (f:Nat->Nat->Nat) (ns:List Nat) (s:Nat):oW W f ns s= .tup ((((na ns s:Nat):Int) :: (List.range W).map fun c=>((na ns (f s c):Nat):Int)).map D.int):=by
 unfold oW fV
 rw[List.map_cons,List.map_map]
 rfl
theorem BA (l:List Int):j9 (.tup (l.map D.int))=some (.tup (l.map D.int)):=by
 have al:(l.map D.int).all (fR 7)=true:=by
  rw[List.all_eq_true]
  intro x hx
  obtain⟨v,_,rfl⟩:=List.mem_map.mp hx
  rfl
 have k8:fR 8 (.tup (l.map D.int))=true:=al
 show(if fR 8 (.tup (l.map D.int))=true then some (nf (.tup (l.map D.int))) else none)=_
 rw[if_pos k8]
 show some (D.tup (Eh (l.map D.int)))=_
 rw[sG]
theorem FI {W:Nat}{f:Nat->Nat->Nat}{ns:List Nat}{s t:Nat}:oW W f ns s=oW W f ns t↔na ns s=na ns t/\∀c,c < W->na ns (f s c)=na ns (f t c):=by
 unfold oW fV
 constructor
 ·intro h
  injection h with h
  injection h with h1 h2
  injection h1 with h1
  refine⟨Int.ofNat_inj.mp h1,fun c hc=>?_⟩
  have:=congrArg (fun l=>l[c]?) h2
  simp only[List.getElem?_map,List.getElem?_range hc,Option.map_some] at this
  injection this with this
  injection this with this
  exact Int.ofNat_inj.mp this
 ·rintro⟨h1,h2⟩
  rw[h1]
  congr 2
  exact List.map_congr_left fun c hc=>by show D.int ((na ns (f s c):Nat):Int)=D.int ((na ns (f t c):Nat):Int);rw[h2 c (List.mem_range.mp hc)]
section
variable {m W:Nat}{f:Nat->Nat->Nat}{wd:Nat->D}{ns:List Nat}{c:Nat}
theorem lY {s t:Nat}(hs:s < m) (ht:t < m):na (nj m W f ns) s=na (nj m W f ns) t↔na ns s=na ns t/\∀c,c < W->na ns (f s c)=na ns (f t c):=by
 have get:∀i,i < m->((List.range m).map (oW W f ns))[i]? =some (oW W f ns i):=fun i hi=>by
  rw[List.getElem?_map,List.getElem?_range hi];rfl
 unfold nj
 rw[mT (get s hs) (get t ht),FI]
theorem xU:(nj m W f ns).length=m:=by unfold nj;rw[jR,List.length_map,List.length_range]
theorem Part.next (hf : ∀ s c, s < m -> c < W -> f s c < m) (P : Part m W f wd ns c) : ∃ c', Part m W f wd (nj m W f ns) c' /\ (c' <= c -> ∀ s t, s < m -> t < m -> (na (nj m W f ns) s = na (nj m W f ns) t ↔ na ns s = na ns t)) := by
  refine⟨_,⟨xU,jS _,AE _,fun s t hs ht e=>P.word s t hs ht ((lY hs ht).mp e).1,fun s t hs ht ne=>?_⟩,fun hc s t hs ht=>⟨fun e=>((lY hs ht).mp e).1,fun e=>?_⟩⟩
  . rw[ne_eq,lY hs ht] at ne
    by_cases q:na ns s=na ns t
    . have:∃c,c < W/\na ns (f s c)≠na ns (f t c):=by
        apply Classical.byContradiction
        intro z
        exact ne ⟨q,fun c hc=>Classical.byContradiction fun y=>z ⟨c,hc,y⟩⟩
      obtain⟨c,hc,y⟩:=this
      obtain⟨cs,v,d⟩:=P.ne _ _ (hf s c hs hc) (hf t c ht hc) y
      exact⟨c :: cs,fun x hx=>by
        rcases List.mem_cons.mp hx with rfl | hx
        . exact hc
        . exact v x hx,d⟩
    . exact P.ne s t hs ht q
  . apply Classical.byContradiction
    intro ne
    have:=uM P.cls (jS ((List.range m).map (oW W f ns))) P.len xU (fun i j hi hj q=>((lY hi hj).mp q).1) hs ht e ne
    omega
end
noncomputable def jd (bV:FM):GS:=
 (aK (aZ 4 (eP fy (aa (eF (eP j4 (aa (eF (aj 3)) ao))) (aa (eC (.int 1)) ao))))
 (aK (wX (EN (qB (eF (eP oH (aa (eF (aj 2)) (aa (eC .cH) ao))))) (qB (eF (eP Lq (aa (eF (aj 4)) (aa (eF (aj 2)) ao)))))) Po mZ)
 (aZ 3 (bF bV (bQ (eF (sA [3] (ng (aa (eF (aj 0)) ao)) aD (eF (eP fy (aa (eF (eP jg (aa (aQ 2 (eF (aj 0))) ao))) (aa (eF (eP bE (aa (eF (bG [2] (cC (eF (aj 1))) aD (aQ 1 (eF (aj 0))))) ao))) ao)))))) cQ)))))
noncomputable def gG (bV:FM):GS:=
 (aK (aZ 3 (bF bV (bQ (eF (aj 1)) cQ)))
 (aK (aZ 4 (eT (eC (.int 0))))
 (aK (rX 100000 (qB (eF (eP Lr (aa (eF (eP j4 (aa (eF (aj 3)) ao))) (aa (eF (aj 4)) ao))))) (jd bV))
 (gf (aj 3)))))
noncomputable def Qv (bV:FM):GS:=
 (aZ 4 (eP fy (aa (eF (eP j4 (aa (eF (aj 3)) ao))) (aa (eC (.int 1)) ao))))
noncomputable def NU (bV:FM):GS:=
 (wX (EN (qB (eF (eP oH (aa (eF (aj 2)) (aa (eC .cH) ao))))) (qB (eF (eP Lq (aa (eF (aj 4)) (aa (eF (aj 2)) ao)))))) Po mZ)
noncomputable def Qw (bV:FM):GS:=
 (aZ 3 (bF bV (bQ (eF (sA [3] (ng (aa (eF (aj 0)) ao)) aD (eF (eP fy (aa (eF (eP jg (aa (aQ 2 (eF (aj 0))) ao))) (aa (eF (eP bE (aa (eF (bG [2] (cC (eF (aj 1))) aD (aQ 1 (eF (aj 0))))) ao))) ao)))))) cQ)))
theorem Mw (bV:FM):jd bV=aK (Qv bV) (aK (NU bV) (Qw bV)):=rfl
noncomputable def jx:FM:=bY 5 (gG sD)
theorem DI:∀us r,jx us=some r->bY 5 (gG sD) us=some r:=fun _ _ h=>h
noncomputable abbrev BS:GD:=aQ 1 (eF (aj 0))
noncomputable abbrev Jm:GD:=(eF (eP fy (aa (eF (eP jg (aa (aQ 2 (eF (aj 0))) ao))) (aa (eF (eP bE (aa (eF (bG [2] (cC (eF (aj 1))) aD (aQ 1 (eF (aj 0))))) ao))) ao))))
theorem ki_turn {nums acc:List D}{v:Int}{x:D}{z0 z1:Option U}(h:fC nums v=some x):aN [2] aD BS [.int v] [z0,z1,some (.t (.lst nums))] acc=some (acc++[x],[z0,z1,some (.t (.lst nums))]):=by
 simp[aN,bL,eu,h,aJ]
theorem Mx {W:Nat}{g:Nat->Nat}{ns:List Nat}{z0 z1:Option U}(h:∀c,c < W->g c < ns.length):aN [2] aD BS (fV W g) [z0,z1,some (.t (.lst (iD ns)))] []=some (fV W fun c=>na ns (g c),[z0,z1,some (.t (.lst (iD ns)))]):=by
 obtain⟨acc,S',e,rfl,rfl⟩:=lW (cap:=[2]) (g:=BS) (fV W g) (fun j acc S=>acc=(List.range j).map (fun c=>D.int (na ns (g c):Nat))/\S=[z0,z1,some (.t (.lst (iD ns)))]) _ ⟨rfl,rfl⟩ (by
  rintro j d acc S hd ⟨rfl,rfl⟩
  have hj:j < W:=by have:=(List.getElem?_eq_some_iff.mp hd).1;rwa [fJ] at this
  unfold fV at hd
  rw[List.getElem?_map,List.getElem?_range hj] at hd
  cases hd
  refine⟨_,_,ki_turn (iV (h j hj)),?_,rfl⟩
  rw[List.range_succ,List.map_append]
  rfl)
 rw[e,fJ]
 rfl
theorem FJ {nums row outs acc:List D}{s nk:Int}{z0 z1 z2 z4:Option U}(h1:fC nums s=some (.int nk)) (hl:row.length<=100000) (hl2:1+outs.length<=100000) (h2:∀z0 z1,aN [2] aD BS row [z0,z1,some (.t (.lst nums))] []=some (outs,[z0,z1,some (.t (.lst nums))])):
  gn [3] aD Jm [.tup [.int s,.tup row]] [z0,z1,z2,some (.t (.lst nums)),z4] acc=some (acc++[.tup (.int nk :: outs)],[z0,z1,z2,some (.t (.lst nums)),z4]):=by
 simp[gn,bL,eu,h1,cZ,bT,hl,hl2,h2,aJ]
theorem My {m W:Nat}{f:Nat->Nat->Nat}{ns:List Nat}{z0 z1 z2 z4:Option U}(hW:W < 1000) (hl:ns.length=m) (hf:∀s c,s < m->c < W->f s c < m):
  gn [3] aD Jm (jm (br m W f)) [z0,z1,z2,some (.t (.lst (iD ns))),z4] []=some ((List.range m).map (oW W f ns),[z0,z1,z2,some (.t (.lst (iD ns))),z4]):=by
 unfold br
 rw[lg]
 refine(uN (fun i=>D.int (i:Nat)) (fun s=>.tup (fV W (f s))) (oW W f ns) (List.range m) [] fun s hs acc=>?_).trans (by rw[List.nil_append])
 have hs:=List.mem_range.mp hs
 exact FJ (iV (by omega)) (by rw[fJ];omega) (by rw[fJ];omega) fun z0 z1=>Mx fun c hc=>by rw[hl];exact hf s c hs hc
section
variable {g:FM}{rows nums keys qD:List D}{w1 md:D}{mx:Int}{x4:Option U}
theorem tb_turn (h4:gZ x4=false) (em:j4 [.lst nums]=some (.t (.int mx))) (hmd:md= .cH\/∃k:Int,md= .int k/\mx+1<=k) (hr:(jm rows).length<=100000)
  (ec:∀z4,gn [3] aD Jm (jm rows) [some (.t (.lst rows)),some (.t w1),some (.t md),some (.t (.lst nums)),z4] []=some (keys,[some (.t (.lst rows)),some (.t w1),some (.t md),some (.t (.lst nums)),z4]))
  (en:g [.t (.lst keys)]=some (.m (.lst qD),[])):
  jd g [some (.t (.lst rows)),some (.t w1),some (.t md),some (.t (.lst nums)),x4]=some (.nx [some (.t (.lst rows)),some (.t w1),some (.t md),some (.m (.lst qD)),some (.t (.int (mx+1)))]):=by
 rw[Mw]
 have s0:Qv g [some (.t (.lst rows)),some (.t w1),some (.t md),some (.t (.lst nums)),x4]=some (.nx [some (.t (.lst rows)),some (.t w1),some (.t md),some (.t (.lst nums)),some (.t (.int (mx+1)))]):=by
  simp[-dQ,cB,Qv,em,h4]
 have s1:NU g [some (.t (.lst rows)),some (.t w1),some (.t md),some (.t (.lst nums)),some (.t (.int (mx+1)))]=some (.nx [some (.t (.lst rows)),some (.t w1),some (.t md),some (.t (.lst nums)),some (.t (.int (mx+1)))]):=by
  rcases hmd with rfl | ⟨k,rfl,hk⟩
  ·simp[NU,xx]
  ·have:¬k < mx+1:=by omega
   simp[NU,xx,this]
 have s2:Qw g [some (.t (.lst rows)),some (.t w1),some (.t md),some (.t (.lst nums)),some (.t (.int (mx+1)))]=some (.nx [some (.t (.lst rows)),some (.t w1),some (.t md),some (.m (.lst qD)),some (.t (.int (mx+1)))]):=by
  simp[Qw,Bw,hr,ec,en]
 rw[Sq.bq s0,Sq.bq s1,s2]
theorem FL {u3:U}{k:Int}(h3:u3= .m (.lst nums)\/u3= .t (.lst nums)) (em:j4 [.lst nums]=some (.t (.int mx))):
  (qB (eF (eP Lr (aa (eF (eP j4 (aa (eF (aj 3)) ao))) (aa (eF (aj 4)) ao))))) [some (.t (.lst rows)),some (.t w1),some (.t md),some u3,some (.t (.int k))]=some (decide (k<=mx),[some (.t (.lst rows)),some (.t w1),some (.t md),some (.t (.lst nums)),some (.t (.int k))]):=by
 rcases h3 with rfl | rfl <;> simp[em]
end
noncomputable abbrev Tw:GT:=(qB (eF (eP Lr (aa (eF (eP j4 (aa (eF (aj 3)) ao))) (aa (eF (aj 4)) ao)))))
theorem DJ {ns:List Nat}{c c':Nat}(h:tZ ns c) (h':tZ ns c'):c=c':=by
 apply Classical.byContradiction
 intro ne
 rcases Nat.lt_or_gt_of_ne ne with l | l
 ·have:=h.lt c (h'.on c l);omega
 ·have:=h'.lt c' (h.on c' l);omega
section
variable {m W:Nat}{f:Nat->Nat->Nat}{wd:Nat->D}{w1 md:D}
theorem BB {ns:List Nat}(h0:0 < m) (hm:m<=900):sD [.t (.lst ((List.range m).map (oW W f ns)))]=some (.m (.lst (iD (nj m W f ns))),[]):=by
 refine I0 (.inr rfl) ?_ ?_ ?_
 ·intro h
  have:=congrArg List.length h
  rw[List.length_map,List.length_range,List.length_nil] at this
  omega
 ·rw[List.map_map,List.map_map]
  exact List.map_congr_left fun k _=>by show j9 (oW W f ns k)=some (oW W f ns k);rw[By];exact BA _
 ·rw[List.length_map,List.length_range];omega
noncomputable def Jo (m W:Nat) (f:Nat->Nat->Nat) (ns:List Nat):Prop:=∀s t c,s < m->t < m->c < W->na ns s=na ns t->na ns (f s c)=na ns (f t c)
theorem AI (h0 : 0 < m) (hm : m <= 900) (hW : W < 1000) (hf : ∀ s c, s < m -> c < W -> f s c < m) (hmd : md = .cH \/ ∃ k : Int, md = .int k /\ ∀ ns c, Part m W f wd ns c -> (c : Int) <= k) :
    ∀(q:Nat) (ns:List Nat) (c cnt:Nat) (u3:U),Part m W f wd ns c->m < cnt+q->cnt<=m->(cnt=0\/∃n0,Part m W f wd n0 cnt/\ns=nj m W f n0)->(u3= .m (.lst (iD ns))\/u3= .t (.lst (iD ns)))->
    ∃ns' c' z4,qu Tw (jd sD) q [some (.t (.lst (br m W f))),some (.t w1),some (.t md),some u3,some (.t (.int cnt))]=some (.nx [some (.t (.lst (br m W f))),some (.t w1),some (.t md),some (.t (.lst (iD ns'))),z4])/\Part m W f wd ns' c'/\Jo m W f ns'
  | 0,ns,c,cnt,u3,P,hq,hc,_,_=>by omega
  | q + 1, ns, c, cnt, u3, P, hq, hc, pr, h3 => by
    have Tz:=vN P.cls
    have BC:=P.len
    have cpos:0 < c:=by have:=P.cls.lt _ (dg (ns:=ns) (i:=0) (by omega));omega
    have em:=Dq P.cls cpos
    have cd:=FL (rows:=br m W f) (w1:=w1) (md:=md) (k:=cnt) h3 em
    have e1:decide ((cnt:Int)<=((c - 1:Nat):Int))=decide (cnt < c):=decide_eq_decide.mpr ⟨fun h=>by omega,fun h=>by omega⟩
    rw[e1] at cd
    unfold qu
    rw[show Tw _=_ from cd,Option.bind_some]
    by_cases h:cnt < c
    . rw[decide_eq_true h]
      simp only[if_true]
      obtain⟨c',P',_⟩:=P.next hf
      have e2:((c - 1:Nat):Int)+1=(c:Nat):=by omega
      have tn:=tb_turn (g:=sD) (w1:=w1) (md:=md) (x4:=some (.t (.int cnt))) rfl em (hmd.imp id fun⟨k,a,b⟩=>⟨k,a,by rw[e2];exact b ns c P⟩) (by unfold br;rw[lg,List.length_map,List.length_range];omega) (fun z4=>My hW BC hf) (BB h0 hm)
      rw[e2] at tn
      rw[tn,Option.bind_some]
      exact AI h0 hm hW hf hmd q _ c' c _ P' (by omega) (by omega) (.inr ⟨ns,P,rfl⟩) (.inl rfl)
    . rw[decide_eq_false h]
      refine⟨ns,c,_,rfl,P,?_⟩
      rcases pr with rfl | ⟨n0,P0,rfl⟩
      . omega
      . obtain⟨c',P',sm⟩:=P0.next hf
        have ec:c'=c:=by
          have a:=DJ P'.cls P.cls
          exact a
        have sm:=sm (by omega)
        intro s t col hs ht sJ e
        rw[sm _ _ (hf s col hs sJ) (hf t col ht sJ)]
        exact((lY hs ht).mp e).2 col sJ
theorem FO (h0:0 < m) (hm:m<=900) (hW:W < 1000) (hf:∀s c,s < m->c < W->f s c < m) (hw:∀s,s < m->Wd (wd s)) (hmd:md= .cH\/∃k:Int,md= .int k/\∀ns c,Part m W f wd ns c->(c:Int)<=k):
  ∃ns c,jx [.t (.lst (br m W f)),.t (.lst ((List.range m).map wd)),.t md]=some (.t (.lst (iD ns)),[])/\Part m W f wd ns c/\Jo m W f ns:=by
 have e1:=IZ (sd:=.lst ((List.range m).map wd)) (ds:=(List.range m).map wd) (ks:=(List.range m).map fun s=>Fw (wd s)) (.inr rfl) (by
  rw[List.map_map,List.map_map]
  exact List.map_congr_left fun s hs=>Mm (hw s (List.mem_range.mp hs))) (by rw[List.length_map,List.length_range];omega)
 have get:∀i,i < m->((List.range m).map fun s=>Fw (wd s))[i]? =some (Fw (wd i)):=fun i hi=>by
  rw[List.getElem?_map,List.getElem?_range hi];rfl
 have P0:Part m W f wd (gz ((List.range m).map fun s=>Fw (wd s))) _:=⟨by rw[jR,List.length_map,List.length_range],jS _,AE _,
  fun s t hs ht e=>Fx (hw s hs) (hw t ht) ((mT (get s hs) (get t ht)).mp e),
  fun s t hs ht ne=>⟨[],fun c hc=>(by cases hc),fun z=>ne ((mT (get s hs) (get t ht)).mpr (by rw[show wd s=wd t from z]))⟩⟩
 obtain⟨ns,c,z4,e,P,st⟩:=AI (w1:=.lst ((List.range m).map wd)) h0 hm hW hf hmd 100000 _ _ 0 _ P0 (by omega) (Nat.zero_le _) (.inl rfl) (.inl rfl)
 refine⟨ns,c,?_,P,st⟩
 have all:∃a b d S,gG sD [some (.t (.lst (br m W f))),some (.t (.lst ((List.range m).map wd))),some (.t md),none,none]=some (.rt (.t (.lst (iD ns))) (a :: b :: d :: S)):=by
  unfold gG
  rw[Sq.bq (S1:=[some (.t (.lst (br m W f))),some (.t (.lst ((List.range m).map wd))),some (.t md),some (.m (.lst (iD (gz ((List.range m).map fun s=>Fw (wd s)))))),none]) (by
   generalize sD=g at e1
   generalize (List.range m).map wd=ws at e1
   simp[e1]),
   Sq.bq (S1:=[some (.t (.lst (br m W f))),some (.t (.lst ((List.range m).map wd))),some (.t md),some (.m (.lst (iD (gz ((List.range m).map fun s=>Fw (wd s)))))),some (.t (.int ((0:Nat):Int)))]) rfl,Sq.bq (show rX 100000 _ _ _=_ from e)]
  generalize iD ns=l
  exact⟨_,_,_,_,by simp;exact⟨rfl,rfl,rfl,rfl⟩⟩
 obtain⟨a,b,d,S,all⟩:=all
 exact vO all rfl
end
noncomputable def dz (cP:FM) (bD:FM):GS:=
 (pI 4 (eF (aj 6)) (eF (aj 5)))
noncomputable def dW (cP:FM) (bD:FM):GS:=
 (aK (aZ 3 (bF cP (bQ (eF (aj 0)) (bQ (eF (eP fY (aa (eC (.int 0)) ao))) cQ))))
 (aK (aZ 4 nh)
 (aK (iA (nJ 2 (fh (bName 5) (fh (bName 6) oq))) (ng (aa (eF (aj 3)) ao)) (dz cP bD))
 (aK (aZ 7 (bG [0,4] (cC (eF (aj 3))) aD (eF (eP bE (aa (eF (bG [2] (cC (aQ 1 (eF (aj 0)))) aD (aQ 1 (eF (aj 0))))) ao)))))
 (aK (aZ 8 (bF bD (bQ (eF (aj 7)) (bQ (eF (bG [1] (cC (eF (aj 3))) aD (aQ 1 (eF (aj 0))))) (bQ (eF (aj 2)) cQ)))))
 (aK (Al 9 (dh (aa (eF (eP fy (aa (eF (eP j4 (aa (eF (aj 8)) ao))) (aa (eC (.int 1)) ao)))) ao)) (C1 9 (nJ 2 (fh (bName 5) (fh (bName 10) oq))) (ng (aa (eF (aj 8)) ao)) (C0 9 (eF (aj 10)) (aQ 3 (eF (aj 5))))))
 (aK (aZ 11 (bG [0,8,4] (cC (eF (aj 9))) aD (eF (eP bE (aa (eF (bG [2,3] (cC (aQ 1 (aQ 0 (eC (.int 0))))) aD (aQ 1 (aQ 2 (eF (aj 0)))))) ao)))))
 (gf (eP jg (aa (eF (eP bE (aa (eF (aj 11)) ao))) (aa (eF (eP bE (aa (eF (bG [1] (cC (eF (aj 9))) aD (aQ 1 (aQ 0 (eC (.int 0)))))) ao))) (aa (eF (aj 9)) ao))))))))))))
noncomputable def Qx (cP:FM) (bD:FM):GS:=
 (aZ 3 (bF cP (bQ (eF (aj 0)) (bQ (eF (eP fY (aa (eC (.int 0)) ao))) cQ))))
noncomputable def Qy (cP:FM) (bD:FM):GS:=
 (aZ 4 nh)
noncomputable def Qz (cP:FM) (bD:FM):GS:=
 (iA (nJ 2 (fh (bName 5) (fh (bName 6) oq))) (ng (aa (eF (aj 3)) ao)) (dz cP bD))
noncomputable def QA (cP:FM) (bD:FM):GS:=
 (aZ 7 (bG [0,4] (cC (eF (aj 3))) aD (eF (eP bE (aa (eF (bG [2] (cC (aQ 1 (eF (aj 0)))) aD (aQ 1 (eF (aj 0))))) ao)))))
noncomputable def QB (cP:FM) (bD:FM):GS:=
 (aZ 8 (bF bD (bQ (eF (aj 7)) (bQ (eF (bG [1] (cC (eF (aj 3))) aD (aQ 1 (eF (aj 0))))) (bQ (eF (aj 2)) cQ)))))
noncomputable abbrev QC:GB:=(nJ 2 (fh (bName 5) (fh (bName 10) oq)))
noncomputable abbrev NV:GN:=(C0 9 (eF (aj 10)) (aQ 3 (eF (aj 5))))
noncomputable abbrev QD:GI:=(dh (aa (eF (eP fy (aa (eF (eP j4 (aa (eF (aj 8)) ao))) (aa (eC (.int 1)) ao)))) ao))
noncomputable def QE (cP:FM) (bD:FM):GS:=(Al 9 QD (C1 9 QC (ng (aa (eF (aj 8)) ao)) NV))
noncomputable def QF (cP:FM) (bD:FM):GS:=
 (aZ 11 (bG [0,8,4] (cC (eF (aj 9))) aD (eF (eP bE (aa (eF (bG [2,3] (cC (aQ 1 (aQ 0 (eC (.int 0))))) aD (aQ 1 (aQ 2 (eF (aj 0)))))) ao)))))
noncomputable def QG (cP:FM) (bD:FM):GS:=
 (gf (eP jg (aa (eF (eP bE (aa (eF (aj 11)) ao))) (aa (eF (eP bE (aa (eF (bG [1] (cC (eF (aj 9))) aD (aQ 1 (aQ 0 (eC (.int 0)))))) ao))) (aa (eF (aj 9)) ao)))))
theorem Mz (f1 f2:FM):dW f1 f2=aK (Qx f1 f2) (aK (Qy f1 f2) (aK (Qz f1 f2) (aK (QA f1 f2) (aK (QB f1 f2) (aK (QE f1 f2) (aK (QF f1 f2) (QG f1 f2))))))):=rfl
noncomputable def sL:FM:=bY 12 (dW reachF jx)
theorem BD:∀us r,sL us=some r->bY 12 (dW reachF jx) us=some r:=fun _ _ h=>h
noncomputable def kL (L:List Nat):List Key:=L.map fun(v:Nat)=>(Sum.inl (v:Int):Key)
theorem pX {L:List Nat}{v:Nat}:(Sum.inl (v:Int):Key)∈kL L↔v∈L:=by
 unfold kL
 rw[List.mem_map]
 constructor
 ·rintro⟨u,hu,e⟩
  injection e with e
  rw[show v=u by omega];exact hu
 ·intro h;exact⟨v,h,rfl⟩
theorem idx_map {κ:Type} [DecidableEq κ] (f:Nat->κ) (inj:∀a b,f a=f b->a=b):∀(L:List Nat) (v:Nat),(L.map f).idxOf (f v)=L.idxOf v
  | [],v=>rfl
  | u :: L, v => by
    rw[List.map_cons,List.idxOf_cons,List.idxOf_cons,idx_map f inj L v]
    by_cases h:u=v
    . subst h;simp
    . have h1:(f u == f v)=false:=by rw[beq_eq_false_iff_ne];exact fun z=>h (inj u v z)
      have h2:(u == v)=false:=by rw[beq_eq_false_iff_ne];exact h
      rw[h1,h2]
noncomputable def pq (L:List Nat):MO:=.dct (ent 0 (kL L))
theorem G2 {L:List Nat}{v:Nat}(h:v∈L):fu (.b (pq L)) (.int (v:Nat))=some (.int (L.idxOf v:Nat)):=by
 unfold pq
 rw[vM.rb _ _ (Sum.inl (v:Int)) rfl,iU (pX.mpr h)]
 unfold kL
 rw[idx_map (κ:=Key) (fun v:Nat=>(Sum.inl (v:Int):Key)) (fun a b z=>by injection z with z;omega)]
theorem Jp {L:List Nat}{v:Nat}(h:v∉L) (hl:L.length < 1000):iR (pq L) (.int (v:Nat)) (.int (L.length:Nat))=some (pq (L++[v])):=by
 unfold pq
 rw[vM.wr _ _ (Sum.inl (v:Int)) _ rfl (by rw[kY];unfold kL;rw[List.length_map];omega)]
 have e:(kL L).length=L.length:=by unfold kL;rw[List.length_map]
 rw[<-e,rB (fun z=>h (pX.mp z))]
 unfold kL
 rw[List.map_append]
 rfl
theorem FP {f1 f2:FM}{z0 z1 z2 z3:Option U}{o o':MO}{v j:Int}{y7 y8 y9 xP G3:Option U}(h:iR o (.int v) (.int j)=some o'):
  dz f1 f2 [z0,z1,z2,z3,some (.m o),some (.t (.int j)),some (.t (.int v)),y7,y8,y9,xP,G3]=some (.nx [z0,z1,z2,z3,some (.m o'),some (.t (.int j)),some (.t (.int v)),y7,y8,y9,xP,G3]):=by
 simp[dz,j8,h]
theorem FQ {f1 f2:FM}{z0 z1 z2 z3 y7 y8 y9 xP G3:Option U}{L:List Nat}(nd:L.Nodup) (hl:L.length < 1000):
  ∃y5 y6,gZ y5=false/\loop (nJ 2 (fh (bName 5) (fh (bName 6) oq))) (dz f1 f2) (jm (iD L)) [z0,z1,z2,z3,some (.m (.dct [])),none,none,y7,y8,y9,xP,G3]=some (.nx [z0,z1,z2,z3,some (.m (pq L)),y5,y6,y7,y8,y9,xP,G3]):=by
 obtain⟨S',e,y5,y6,h5,h6,rfl⟩:=jQ (bd:=nJ 2 (fh (bName 5) (fh (bName 6) oq))) (body:=dz f1 f2) (jm (iD L))
  (fun j S=>∃y5 y6,gZ y5=false/\gZ y6=false/\S=[z0,z1,z2,z3,some (.m (pq (L.take j))),y5,y6,y7,y8,y9,xP,G3]) _ ⟨none,none,rfl,rfl,rfl⟩ (by
  rintro j d S hd ⟨y5,y6,h5,h6,rfl⟩
  rw[nO rfl,lg] at hd
  have hj:j < L.length:=by have:=(List.getElem?_eq_some_iff.mp hd).1;rwa [List.length_map,List.length_range] at this
  rw[List.getElem?_map,List.getElem?_range hj] at hd
  cases hd
  have et:L.take (j+1)=L.take j++[na L j]:=by rw[List.take_succ,cz hj];rfl
  have tl:(L.take j).length=j:=by rw[List.length_take];omega
  have nm:na L j∉L.take j:=fun z=>by
   obtain⟨i,hi,z⟩:=List.getElem_of_mem z
   rw[List.getElem_take] at z
   have hij:i < j:=by rw[tl] at hi;exact hi
   have a1:=nd.idxOf_getElem i (by omega)
   rw[z] at a1
   rw[Ji nd hj] at a1
   omega
  have pw:=Jp nm (by omega)
  rw[tl,<-et] at pw
  refine⟨[z0,z1,z2,z3,some (.m (pq (L.take j))),some (.t (.int (j:Nat))),some (.t (.int (na L j:Nat))),y7,y8,y9,xP,G3],_,?_,FP pw,_,_,rfl,rfl,rfl⟩
  simp[-dQ,cB,h5,h6])
 have el:(jm (iD L)).length=L.length:=by unfold jm iD;rw[List.length_mapIdx,List.length_map]
 rw[el,List.take_length] at e
 exact⟨y5,y6,h5,e⟩
noncomputable def uO (N:List (List Int)) (L:List Nat) (s c:Nat):Nat:=L.idxOf (bR N (na L s) c)
noncomputable abbrev NW:GD:=aQ 1 (eF (aj 0))
noncomputable abbrev inR:GD:=(eF (eP bE (aa (eF (bG [2] (cC (aQ 1 (eF (aj 0)))) aD (aQ 1 (eF (aj 0))))) ao)))
theorem DK {o:MO}{acc:List D}{v:Int}{x:D}{z0 z1:Option U}(h:fu (.b o) (.int v)=some x):aN [2] aD NW [.int v] [z0,z1,some (.b o)] acc=some (acc++[x],[z0,z1,some (.b o)]):=by
 simp[aN,bL,eu,h,aJ]
theorem Jq {W:Nat}{g:Nat->Nat}{L:List Nat}{z0 z1:Option U}(h:∀c,c < W->g c∈L):aN [2] aD NW (fV W g) [z0,z1,some (.b (pq L))] []=some (fV W fun c=>L.idxOf (g c),[z0,z1,some (.b (pq L))]):=by
 obtain⟨acc,S',e,rfl,rfl⟩:=lW (cap:=[2]) (g:=NW) (fV W g) (fun j acc S=>acc=(List.range j).map (fun c=>D.int (L.idxOf (g c):Nat))/\S=[z0,z1,some (.b (pq L))]) _ ⟨rfl,rfl⟩ (by
  rintro j d acc S hd ⟨rfl,rfl⟩
  have hj:j < W:=by have:=(List.getElem?_eq_some_iff.mp hd).1;rwa [fJ] at this
  unfold fV at hd
  rw[List.getElem?_map,List.getElem?_range hj] at hd
  cases hd
  refine⟨_,_,DK (G2 (h j hj)),?_,rfl⟩
  rw[List.range_succ,List.map_append]
  rfl)
 rw[e,fJ]
 rfl
theorem DL {nt:D}{row outs acc:List D}{o:MO}{v:Int}{z1 z2 z3 z5 z6 z7 z8 z9 jE jz:Option U}(h1:fu (.t nt) (.int v)=some (.tup row)) (hl:row.length<=100000) (h2:∀z0 z1,aN [2] aD NW row [z0,z1,some (.b o)] []=some (outs,[z0,z1,some (.b o)])):
  aN [0,4] aD inR [.int v] [some (.t nt),z1,z2,z3,some (.m o),z5,z6,z7,z8,z9,jE,jz] acc=some (acc++[.tup outs],[some (.t nt),z1,z2,z3,some (.m o),z5,z6,z7,z8,z9,jE,jz]):=by
 simp[aN,bL,eu,h1,cZ,bT,hl,h2,aJ]
theorem gR {cap:List Nat}{g:GD}{S:SS}{α:Type}(fa f:α->D):∀(l:List α) (acc:List D),(∀x∈l,∀acc,aN cap aD g [fa x] S acc=some (acc++[f x],S))->aN cap aD g (l.map fa) S acc=some (acc++l.map f,S)
 | [],acc,_=>by simp[aN]
 | x :: l,acc,h=>by
  rw[List.map_cons,Sq.kW,h x List.mem_cons_self,Option.bind_some]
  refine(gR fa f l (acc++[f x]) fun y hy=>h y (List.mem_cons_of_mem _ hy)).trans ?_
  simp
section
variable {W:Nat}{N:List (List Int)}{L:List Nat}{nt:D}{z1 z2 z3 z5 z6 z7 z8 z9 jE jz:Option U}
theorem Jr (mo:kF W N) (hW:W < 1000) (hn:nt= .tup (N.map Sq.bC)\/nt= .lst (N.map Sq.bC)) (hL:∀v∈L,v < N.length) (cl:∀s c,s < L.length->c < W->bR N (na L s) c∈L):
  aN [0,4] aD inR (iD L) [some (.t nt),z1,z2,z3,some (.m (pq L)),z5,z6,z7,z8,z9,jE,jz] []=some (br L.length W (uO N L),[some (.t nt),z1,z2,z3,some (.m (pq L)),z5,z6,z7,z8,z9,jE,jz]):=by
 rw[nO rfl]
 refine(gR (fun s=>D.int (na L s:Nat)) (fun s=>.tup (fV W (uO N L s))) (List.range L.length) [] fun s hs acc=>?_).trans (by rw[List.nil_append];rfl)
 have hs:=List.mem_range.mp hs
 have sn:=hL _ (dg hs)
 exact DL (row:=fV W (bR N (na L s))) (by rw[xS hn];exact mW mo sn) (by rw[fJ];omega) fun z0 z1=>Jq fun c hc=>cl s c hs hc
theorem FT {wt:D}{acc:List D}{v:Int}{x:D}{z0 z4:Option U}(h:fu (.t wt) (.int v)=some x):aN [1] aD (aQ 1 (eF (aj 0))) [.int v] [z0,some (.t wt),z2,z3,z4,z5,z6,z7,z8,z9,jE,jz] acc=some (acc++[x],[z0,some (.t wt),z2,z3,z4,z5,z6,z7,z8,z9,jE,jz]):=by
 simp[aN,bL,eu,h,aJ]
theorem MA {wt:D}{M:List D}{z0 z4:Option U}(hw:wt= .tup M\/wt= .lst M) (hL:∀v∈L,v < M.length):aN [1] aD (aQ 1 (eF (aj 0))) (iD L) [z0,some (.t wt),z2,z3,z4,z5,z6,z7,z8,z9,jE,jz] []=some ((List.range L.length).map fun s=>bW M (na L s),[z0,some (.t wt),z2,z3,z4,z5,z6,z7,z8,z9,jE,jz]):=by
 rw[nO rfl]
 refine(gR (fun s=>D.int (na L s:Nat)) (fun s=>bW M (na L s)) (List.range L.length) [] fun s hs acc=>?_).trans (by rw[List.nil_append])
 exact FT (by rw[xS hw];exact oU (hL _ (dg (List.mem_range.mp hs))))
end
theorem xV {bd:GB}{g:GN}{a:Addr}{I:Nat->SS->List (List D)->Prop}:∀(ds:List D) (k:Nat) (S:SS) (n:List (List D)),I k S n->(∀j d S n,ds[j]? =some d->I (k+j) S n->∃S1 S2 n2,bd d S=some S1/\g a S1 n=some (S2,n2)/\I (k+j+1) S2 n2)->∃S' n',Ak bd g a ds S n=some (S',n')/\I (k+ds.length) S' n'
  | [],k,S,n,h,_=>⟨S,n,rfl,h⟩
  | d :: ds, k, S, n, h, hs => by
    obtain⟨S1,S2,n2,e1,e2,h2⟩:=hs 0 d S n rfl h
    obtain⟨S',n',e,h'⟩:=xV ds (k+1) S2 n2 h2 fun j d' S' n' hd hI=>by
      obtain⟨S1,S2,n2,a1,a2,a3⟩:=hs (j+1) d' S' n' hd (by rw[show k+(j+1)=k+1+j by omega];exact hI)
      rw[show k+(j+1)+1=k+1+j+1 by omega] at a3
      exact⟨S1,S2,n2,a1,a2,a3⟩
    refine⟨S',n',?_,?_⟩
    . show((bd d S).bind fun S1=>_)=_
      rw[e1,Option.bind_some,e2,Option.bind_some]
      exact e
    . rw[List.length_cons,show k+(ds.length+1)=k+1+ds.length by omega];exact h'
noncomputable def gr (L ns:List Nat) (j k:Nat):List D:=((List.range j).filter fun i=>na ns i == k).map fun i=>D.int (na L i:Nat)
noncomputable def rC (L ns:List Nat) (c j:Nat):List (List D):=(List.range c).map (gr L ns j)
theorem oX (L ns:List Nat) (c j:Nat):(rC L ns c j).length=c:=by unfold rC;rw[List.length_map,List.length_range]
theorem zz {L ns:List Nat}{c j k:Nat}(h:k < c):(rC L ns c j)[k]? =some (gr L ns j k):=by unfold rC;rw[List.getElem?_map,List.getElem?_range h];rfl
theorem DM (L ns:List Nat) (c:Nat):rC L ns c 0=List.replicate c []:=by
 unfold rC
 rw[List.eq_replicate_iff]
 exact⟨by rw[List.length_map,List.length_range],fun b hb=>by obtain⟨k,_,rfl⟩:=List.mem_map.mp hb;rfl⟩
theorem AJ (L ns:List Nat) (j k:Nat):gr L ns (j+1) k=gr L ns j k++if na ns j=k then [.int (na L j:Nat)] else []:=by
 unfold gr
 rw[List.range_succ,List.filter_append,List.map_append]
 by_cases h:na ns j=k
 ·rw[if_pos h,List.filter_cons_of_pos (by simpa using h)];rfl
 ·rw[if_neg h,List.filter_cons_of_neg (by simpa using h)];rfl
theorem DN {L ns:List Nat}{c j:Nat}(h:na ns j < c):(rC L ns c j).set (na ns j) (gr L ns j (na ns j)++[.int (na L j:Nat)])=rC L ns c (j+1):=by
 apply List.ext_getElem?
 intro k
 by_cases hk:k < c
 ·rw[zz hk,AJ]
  by_cases e:na ns j=k
  ·rw[if_pos e,e,List.getElem?_set_self (by rw[oX];exact hk)]
  ·rw[if_neg e,List.getElem?_set_ne e,zz hk,List.append_nil]
 ·rw[List.getElem?_eq_none (by rw[List.length_set,oX];omega),List.getElem?_eq_none (by rw[oX];omega)]
theorem Js (L ns:List Nat) (j k:Nat):(gr L ns j k).length<=j:=by
 unfold gr
 rw[List.length_map]
 exact Nat.le_trans (List.length_filter_le _ _) (by rw[List.length_range];exact Nat.le_refl _)
theorem AK {L ns : List Nat} {c k : Nat} (h : tZ ns c) (hk : k < c) : ∃ rest, gr L ns ns.length k = .int (na L (ns.idxOf k) : Nat) :: rest := by
  obtain⟨l,e⟩:=jU h hk
  have go : ∀ j, ns.idxOf k < j -> j <= ns.length -> ∃ rest, gr L ns j k = .int (na L (ns.idxOf k) : Nat) :: rest := by
    intro j
    induction j with
    | zero=>intro q;omega
    | succ j ih=>
      intro q ql
      rw[AJ]
      by_cases z:ns.idxOf k < j
      . obtain⟨rest,er⟩:=ih z (by omega)
        rw[er]
        exact⟨_,List.cons_append ..⟩
      . have:ns.idxOf k=j:=by omega
        have emp:gr L ns j k=[]:=by
          unfold gr
          rw[List.map_eq_nil_iff,List.filter_eq_nil_iff]
          intro i hi
          have hi:=List.mem_range.mp hi
          simp only[beq_iff_eq]
          intro w
          have:=mV (ns:=ns) (i:=i) (by omega) w
          omega
        rw[emp,<-this,if_pos e]
        exact⟨[],rfl⟩
  exact go ns.length l (Nat.le_refl _)
section
variable {z0 z1 z2 z4 z6 z7 jz:Option U}{L ns:List Nat}{c:Nat}
noncomputable def yI (y:Option U):Nat->Option U
 | 0=>y
 | j+1=>some (.t (.int (j:Nat)))
noncomputable def yN (ns:List Nat):Nat->Option U
 | 0=>none
 | j+1=>some (.t (.int (na ns j:Nat)))
noncomputable abbrev gS (z0 z1 z2 z4 z6 z7 jz:Option U) (L ns:List Nat) (u9:U) (y5 xP:Option U):SS:=[z0,z1,z2,some (.t (.lst (iD L))),z4,y5,z6,z7,some (.t (.lst (iD ns))),some u9,xP,jz]
theorem FU {a:Addr}{nums DO:List D}{nest:List (List D)}{ds:List D}{j k:Int}{kk:Nat}{v:D}(h1:wL nest.length k=some kk) (h2:nest[kk]? =some ds) (h3:fC DO j=some v) (hl:ds.length < 100000):
  NV a [z0,z1,z2,some (.t (.lst DO)),z4,some (.t (.int j)),z6,z7,some (.t (.lst nums)),some (.f a),some (.t (.int k)),jz] nest=some ([z0,z1,z2,some (.t (.lst DO)),z4,some (.t (.int j)),z6,z7,some (.t (.lst nums)),some (.f a),some (.t (.int k)),jz],nest.set kk (ds++[v])):=by
 simp[C0,h1,h2,h3,hl,CZ]
theorem vR {n k:Nat}(h:k < n):wL n (k:Int)=some k:=by
 unfold wL
 rw[if_pos (Int.natCast_nonneg k),if_pos (by omega),Int.toNat_natCast]
theorem Jt {y5:Option U}(h5:gZ y5=false) (hc:tZ ns c) (hl:ns.length=L.length) (hm:ns.length<=900) (a:Addr):
  C1 9 QC (ng (aa (eF (aj 8)) ao)) NV a (gS z0 z1 z2 z4 z6 z7 jz L ns (.f a) y5 none) (List.replicate c [])=some (gS z0 z1 z2 z4 z6 z7 jz L ns (.f a) (yI y5 ns.length) (yN ns ns.length),rC L ns c ns.length):=by
 obtain⟨S',n',e,rfl,rfl⟩:=xV (bd:=fun d S=>(QC d S).bind fun S1=>if CZ S1 9 a=true then some S1 else none) (g:=NV) (a:=a) (I:=fun j S n=>S=gS z0 z1 z2 z4 z6 z7 jz L ns (.f a) (yI y5 j) (yN ns j)/\n=rC L ns c j) (jm (iD ns)) 0 (gS z0 z1 z2 z4 z6 z7 jz L ns (.f a) y5 none) (List.replicate c []) ⟨rfl,(DM L ns c).symm⟩ (by
  rintro j d S n hd ⟨rfl,rfl⟩
  rw[Nat.zero_add]
  rw[nO rfl,lg] at hd
  have hj:j < ns.length:=by have:=(List.getElem?_eq_some_iff.mp hd).1;rwa [List.length_map,List.length_range] at this
  rw[List.getElem?_map,List.getElem?_range hj] at hd
  cases hd
  have kc:=hc.lt _ (dg hj)
  have gl:=Js L ns j (na ns j)
  have b5:gZ (yI y5 j)=false:=by cases j with | zero=>exact h5 | succ j=>rfl
  have Ku:gZ (yN ns j)=false:=by cases j with | zero=>rfl | succ j=>rfl
  refine⟨gS z0 z1 z2 z4 z6 z7 jz L ns (.f a) (some (.t (.int (j:Nat)))) (some (.t (.int (na ns j:Nat)))),_,_,?_,FU (vR (by rw[oX];exact kc)) (zz kc) (iV (ns:=L) (by omega)) (by omega),?_,?_⟩
  ·simp[-dQ,cB,b5,Ku,CZ]
  ·rfl
  ·exact DN kc)
 have el:(jm (iD ns)).length=ns.length:=by unfold jm iD;rw[List.length_mapIdx,List.length_map]
 rw[el,Nat.zero_add] at e
 have eg:ng (aa (eF (aj 8)) ao) (gS z0 z1 z2 z4 z6 z7 jz L ns (.f a) y5 none)=some (jm (iD ns),gS z0 z1 z2 z4 z6 z7 jz L ns (.f a) y5 none):=rfl
 unfold C1
 rw[eg,Option.bind_some]
 have ef:CZ (gS z0 z1 z2 z4 z6 z7 jz L ns (.f a) y5 none) 9 a=true:=by simp[CZ]
 rw[if_pos ef]
 exact e
theorem DP {f1 f2:FM}{y5:Option U}{c:Nat}(h5:gZ y5=false) (hc:tZ ns c) (hl:ns.length=L.length) (hm:ns.length<=900) (hpos:0 < ns.length):
  QE f1 f2 [z0,z1,z2,some (.t (.lst (iD L))),z4,y5,z6,z7,some (.t (.lst (iD ns))),none,none,jz]=some (.nx (gS z0 z1 z2 z4 z6 z7 jz L ns (.t (.lst ((rC L ns c ns.length).map D.lst))) (yI y5 ns.length) (yN ns ns.length))):=by
 have cpos:0 < c:=by have:=hc.lt _ (dg (ns:=ns) (i:=0) hpos);omega
 have Tz:=vN hc
 have em:=Dq hc cpos
 have er:QD [z0,z1,z2,some (.t (.lst (iD L))),z4,y5,z6,z7,some (.t (.lst (iD ns))),none,none,jz]=some (ig 0 c,[z0,z1,z2,some (.t (.lst (iD L))),z4,y5,z6,z7,some (.t (.lst (iD ns))),none,none,jz]):=by
  have e:(aa (eF (eP fy (aa (eF (eP j4 (aa (eF (aj 8)) ao))) (aa (eC (.int 1)) ao)))) ao) [z0,z1,z2,some (.t (.lst (iD L))),z4,y5,z6,z7,some (.t (.lst (iD ns))),none,none,jz]=some ([.int (((c - 1:Nat):Int)+1)],[z0,z1,z2,some (.t (.lst (iD L))),z4,y5,z6,z7,some (.t (.lst (iD ns))),none,none,jz]):=by
   generalize iD ns=nn at em
   generalize ((c - 1:Nat):Int)=mx at em
   simp[em]
  have e2:((c - 1:Nat):Int)+1=((c:Nat):Int):=by omega
  rw[e2] at e
  have hb:c < 1000000:=by omega
  rw[show QD _=_ from Sq.jD e (Int.ofNat_lt.mpr hb) (Sq.zp _),Int.toNat_natCast]
 unfold QE Al
 rw[er,Option.bind_some]
 simp only[List.getElem?_cons_succ,List.getElem?_cons_zero]
 have rl:(ig 0 c).length=c:=Sq.iK ..
 rw[rl,if_pos (by omega),zh (r:=gS z0 z1 z2 z4 z6 z7 jz L ns (.t (.lst ((rC L ns c ns.length).map D.lst))) (yI y5 ns.length) (yN ns ns.length)) (fun a=>by
  rw[show([z0,z1,z2,some (.t (.lst (iD L))),z4,y5,z6,z7,some (.t (.lst (iD ns))),none,none,jz]:SS).set 9 (some (.f a))=gS z0 z1 z2 z4 z6 z7 jz L ns (.f a) y5 none from rfl,Jt h5 hc hl hm a]
  rfl)]
 rfl
end
noncomputable abbrev QH:GD:=aQ 1 (aQ 2 (eF (aj 0)))
noncomputable abbrev TF:GD:=(eF (eP bE (aa (eF (bG [2,3] (cC (aQ 1 (aQ 0 (eC (.int 0))))) aD (aQ 1 (aQ 2 (eF (aj 0)))))) ao)))
theorem DQ {o:MO}{nums acc:List D}{v p:Int}{x:D}{z0 z1:Option U}(h:fu (.b o) (.int v)=some (.int p)) (h2:fC nums p=some x):aN [2,3] aD QH [.int v] [z0,z1,some (.t (.lst nums)),some (.b o)] acc=some (acc++[x],[z0,z1,some (.t (.lst nums)),some (.b o)]):=by
 simp[aN,bL,eu,h,h2,aJ]
theorem Ju {W:Nat}{g:Nat->Nat}{L ns:List Nat}{z0 z1:Option U}(hl:ns.length=L.length) (h:∀c,c < W->g c∈L):aN [2,3] aD QH (fV W g) [z0,z1,some (.t (.lst (iD ns))),some (.b (pq L))] []=some (fV W fun c=>pU L ns (g c),[z0,z1,some (.t (.lst (iD ns))),some (.b (pq L))]):=by
 unfold fV
 refine(gR (fun c=>D.int (g c:Nat)) (fun c=>D.int (pU L ns (g c):Nat)) (List.range W) [] fun c hc acc=>?_).trans (by rw[List.nil_append])
 have m:=h c (List.mem_range.mp hc)
 exact DQ (G2 m) (iV (by rw[hl];exact(kg m).1))
theorem DR {nt:D}{nums row outs rest acc:List D}{o:MO}{u:Int}{z1 z2 z3 z5 z6 z7 z9 jE jz:Option U}(h1:fu (.t nt) (.int u)=some (.tup row)) (hl:row.length<=100000) (h2:∀z0 z1,aN [2,3] aD QH row [z0,z1,some (.t (.lst nums)),some (.b o)] []=some (outs,[z0,z1,some (.t (.lst nums)),some (.b o)])):
  aN [0,8,4] aD TF [.lst (.int u :: rest)] [some (.t nt),z1,z2,z3,some (.m o),z5,z6,z7,some (.t (.lst nums)),z9,jE,jz] acc=some (acc++[.tup outs],[some (.t nt),z1,z2,z3,some (.m o),z5,z6,z7,some (.t (.lst nums)),z9,jE,jz]):=by
 have e0:fC (D.int u :: rest) 0=some (.int u):=Sq.pP (Int.le_refl 0) rfl
 simp[aN,bL,eu,e0,h1,cZ,bT,hl,h2,aJ]
theorem FW {wt:D}{rest acc:List D}{u:Int}{x:D}{z0 z2 z3 z4 z5 z6 z7 z8 z9 jE jz:Option U}(h:fu (.t wt) (.int u)=some x):aN [1] aD (aQ 1 (aQ 0 (eC (.int 0)))) [.lst (.int u :: rest)] [z0,some (.t wt),z2,z3,z4,z5,z6,z7,z8,z9,jE,jz] acc=some (acc++[x],[z0,some (.t wt),z2,z3,z4,z5,z6,z7,z8,z9,jE,jz]):=by
 have e0:fC (D.int u :: rest) 0=some (.int u):=Sq.pP (Int.le_refl 0) rfl
 simp[aN,bL,eu,e0,h,aJ]
section
variable {W:Nat}{N:List (List Int)}{L ns:List Nat}{c:Nat}{nt:D}{z1 z2 z3 z5 z6 z7 z9 jE jz:Option U}
theorem Jv (mo:kF W N) (hW:W < 1000) (hn:nt= .tup (N.map Sq.bC)\/nt= .lst (N.map Sq.bC)) (hL:∀v∈L,v < N.length) (cl:∀s c,s < L.length->c < W->bR N (na L s) c∈L) (hl:ns.length=L.length) (hc:tZ ns c):
  aN [0,8,4] aD TF ((rC L ns c ns.length).map D.lst) [some (.t nt),z1,z2,z3,some (.m (pq L)),z5,z6,z7,some (.t (.lst (iD ns))),z9,jE,jz] []=some ((List.range c).map fun k=>.tup (fV W fun col=>pU L ns (bR N (na L (ns.idxOf k)) col)),[some (.t nt),z1,z2,z3,some (.m (pq L)),z5,z6,z7,some (.t (.lst (iD ns))),z9,jE,jz]):=by
 unfold rC
 rw[List.map_map]
 refine(gR (D.lst ∘ gr L ns ns.length) (fun k=>.tup (fV W fun col=>pU L ns (bR N (na L (ns.idxOf k)) col))) (List.range c) [] fun k hk acc=>?_).trans (by rw[List.nil_append])
 have hk:=List.mem_range.mp hk
 obtain⟨il,_⟩:=jU hc hk
 obtain⟨rest,er⟩:=AK (L:=L) hc hk
 show aN _ _ _ [.lst (gr L ns ns.length k)] _ _=_
 rw[er]
 exact DR (row:=fV W (bR N (na L (ns.idxOf k)))) (by rw[xS hn];exact mW mo (hL _ (dg (by omega)))) (by rw[fJ];omega) fun z0 z1=>Ju hl fun col sJ=>cl _ col (by omega) sJ
theorem MB {wt:D}{M:List D}{z0 z4 z8:Option U}(hw:wt= .tup M\/wt= .lst M) (hL:∀v∈L,v < M.length) (hl:ns.length=L.length) (hc:tZ ns c):
  aN [1] aD (aQ 1 (aQ 0 (eC (.int 0)))) ((rC L ns c ns.length).map D.lst) [z0,some (.t wt),z2,z3,z4,z5,z6,z7,z8,z9,jE,jz] []=some ((List.range c).map fun k=>bW M (na L (ns.idxOf k)),[z0,some (.t wt),z2,z3,z4,z5,z6,z7,z8,z9,jE,jz]):=by
 unfold rC
 rw[List.map_map]
 refine(gR (D.lst ∘ gr L ns ns.length) (fun k=>bW M (na L (ns.idxOf k))) (List.range c) [] fun k hk acc=>?_).trans (by rw[List.nil_append])
 have hk:=List.mem_range.mp hk
 obtain⟨il,_⟩:=jU hc hk
 obtain⟨rest,er⟩:=AK (L:=L) hc hk
 show aN _ _ _ [.lst (gr L ns ns.length k)] _ _=_
 rw[er]
 exact FW (by rw[xS hw];exact oU (hL _ (dg (by omega))))
end
section
variable {W:Nat}{N:List (List Int)}{M:List D}{L ns:List Nat}{c a:Nat}
theorem vU (cl:∀s c,s < L.length->c < W->bR N (na L s) c∈L):∀(cs:List Nat) (p:Nat),Vd W cs->p < L.length->led (uO N L) cs p < L.length/\na L (led (uO N L) cs p)=led (bR N) cs (na L p)
 | [],p,_,hp=>⟨hp,rfl⟩
 | col :: cs,p,hc,hp=>by
  have m:=cl p col hp (hc col List.mem_cons_self)
  obtain⟨l,e⟩:=kg m
  have:=vU cl cs (uO N L p col) (fun d hd=>hc d (List.mem_cons_of_mem _ hd)) l
  refine⟨this.1,this.2.trans ?_⟩
  show led (bR N) cs (na L (L.idxOf (bR N (na L p) col)))=led (bR N) cs (bR N (na L p) col)
  rw[e]
theorem zA (hB:Bf (bR N) (fun v=>v) W L a 0) (ha:L.length<=a) (P:Part L.length W (uO N L) (fun s=>bW M (na L s)) ns c) (st:Jo L.length W (uO N L) ns):
  Canon W c (mU (bR N) (pU L ns) (rep L ns c)) (fun s=>bW M (na (rep L ns c) s))/\(∀cs,Vd W cs->bW M (na (rep L ns c) (led (mU (bR N) (pU L ns) (rep L ns c)) cs 0))=bW M (led (bR N) cs 0))/\
  ∀k col,k < c->col < W->mU (bR N) (pU L ns) (rep L ns c) k col=pU L ns (bR N (na L (ns.idxOf k)) col):=by
 have nd:L.Nodup:=by have:=hB.nd;rwa [List.map_id'] at this
 have l0:0 < L.length:=(List.getElem?_eq_some_iff.mp hB.zero).1
 have cl:∀s c,s < L.length->c < W->bR N (na L s) c∈L:=fun s col hs hc=>by
  have:=hB.seen s col _ hc (by unfold Er;omega) (cz hs)
  rwa [List.map_id'] at this
 have m0:0∈L:=List.mem_of_getElem? hB.zero
 have bf:=Jj hB ha P.len P.cls P.fo fun s t col hs ht sJ e=>st s t col hs ht sJ e
 have rl:(rep L ns c).length=c:=by unfold rep;rw[List.length_map,List.length_range]
 have C:Jh (bR N) (bW M) (pU L ns) W (fun v=>v∈L):=⟨m0,fun s col hs hc=>by
   have:=cl _ col (kg hs).1 hc
   rwa [(kg hs).2] at this,fun s t col hs ht hc e=>by
   have:=st _ _ col (kg hs).1 (kg ht).1 hc e
   unfold uO at this
   rw[(kg hs).2,(kg ht).2] at this
   exact this,fun s t hs ht e=>by
   have:=P.word _ _ (kg hs).1 (kg ht).1 e
   rw[(kg hs).2,(kg ht).2] at this
   exact this,fun s t hs ht ne=>by
   obtain⟨cs,v,q⟩:=P.ne _ _ (kg hs).1 (kg ht).1 ne
   refine⟨cs,v,?_⟩
   rw[(vU cl cs _ v (kg hs).1).2,(vU cl cs _ v (kg ht).1).2,(kg hs).2,(kg ht).2] at q
   exact q⟩
 have hP:∀v∈rep L ns c,v∈L:=fun v hv=>by
  obtain⟨k,hk,rfl⟩:=List.mem_map.mp hv
  have:=(jU P.cls (List.mem_range.mp hk)).1
  exact dg (by rw[<-P.len];exact this)
 obtain⟨cn,bh⟩:=canon_of C bf (Nat.le_refl _) hP
 rw[rl] at cn
 refine⟨cn,bh,fun k col hk sJ=>?_⟩
 have rk:na (rep L ns c) k=na L (ns.idxOf k):=oV hk
 unfold mU ix
 rw[rk,AF nd P.len P.cls]
 have m:=cl (ns.idxOf k) col (by rw[<-P.len];exact(jU P.cls hk).1) sJ
 have lt:pU L ns (bR N (na L (ns.idxOf k)) col) < c:=P.cls.lt _ (dg (by rw[P.len];exact(kg m).1))
 have:=List.nodup_range.idxOf_getElem (xs:=List.range c) (pU L ns (bR N (na L (ns.idxOf k)) col)) (by rw[List.length_range];exact lt)
 rwa [List.getElem_range] at this
end
theorem xW {m W:Nat}{f g:Nat->Nat->Nat}(h:∀s c,s < m->c < W->f s c=g s c):br m W f=br m W g:=by
 unfold br
 refine List.map_congr_left fun s hs=>?_
 unfold fV
 congr 1
 exact List.map_congr_left fun c hc=>by rw[h s c (List.mem_range.mp hs) (List.mem_range.mp hc)]
theorem DS {W : Nat} {N : List (List Int)} {M : List D} {nt wt md : D} (mo : kF W N) (hW : W < 1000) (hn : nt = .tup (N.map Sq.bC) \/ nt = .lst (N.map Sq.bC)) (hM : M.length = N.length) (hw : wt = .tup M \/ wt = .lst M) (IX : ∀ x ∈ M, Wd x)
    (hmd:md= .cH\/∃k:Int,md= .int k/\∀L ns c a,Bf (bR N) (fun v=>v) W L a 0->L.length<=a->Part L.length W (uO N L) (fun s=>bW M (na L s)) ns c->(c:Int)<=k):
    ∃n' nx' pT gs,sL [.t nt,.t wt,.t md]=some (.t (.tup [.tup (br n' W nx'),.tup ((List.range n').map pT),.lst gs]),[])/\Canon W n' nx' pT/\(∀cs,Vd W cs->pT (led nx' cs 0)=bW M (led (bR N) cs 0))/\n'<=N.length/\∀s,s < n'->pT s∈M:=by
  have few:=mo.few
  obtain⟨L,e0,hL,a,hB,ha⟩:=DH mo hn
  have nd:L.Nodup:=by have:=hB.nd;rwa [List.map_id'] at this
  have l0:0 < L.length:=(List.getElem?_eq_some_iff.mp hB.zero).1
  have lf:=sI nd hL
  have Jw:∀v∈L,v < M.length:=fun v hv=>by rw[hM];exact hL v hv
  have cl:∀s c,s < L.length->c < W->bR N (na L s) c∈L:=fun s col hs hc=>by
    have:=hB.seen s col _ hc (by unfold Er;omega) (cz hs)
    rwa [List.map_id'] at this
  obtain⟨ns,c,e4,P,st⟩:=FO (m:=L.length) (W:=W) (f:=uO N L) (wd:=fun s=>bW M (na L s)) (md:=md) l0 (by omega) hW (fun s col hs hc=>(kg (cl s col hs hc)).1) (fun s hs=>IX _ (iM (Jw _ (dg hs)))) (hmd.imp id fun⟨k,z1,z2⟩=>⟨k,z1,fun ns c P=>z2 L ns c a hB ha P⟩)
  have BC:=P.len
  have Tz:=vN P.cls
  obtain⟨cn,bh,rows⟩:=zA (M:=M) hB ha P st
  refine⟨c,mU (bR N) (pU L ns) (rep L ns c),fun s=>bW M (na (rep L ns c) s),(rC L ns c ns.length).map D.lst,?_,cn,bh,by omega,fun s hs=>?_⟩
  . have eL:(iD L).length<=100000:=by unfold iD;rw[List.length_map];omega
    have eG:((rC L ns c ns.length).map D.lst).length<=100000:=by rw[List.length_map,oX];omega
    have s0:Qx reachF jx [some (.t nt),some (.t wt),some (.t md),none,none,none,none,none,none,none,none,none]=some (.nx [some (.t nt),some (.t wt),some (.t md),some (.m (.lst (iD L))),none,none,none,none,none,none,none,none]):=by
      generalize reachF=f1 at e0
      simp[Qx,e0]
    have s1:Qy reachF jx [some (.t nt),some (.t wt),some (.t md),some (.m (.lst (iD L))),none,none,none,none,none,none,none,none]=some (.nx [some (.t nt),some (.t wt),some (.t md),some (.m (.lst (iD L))),some (.m (.dct [])),none,none,none,none,none,none,none]):=by simp[Qy]
    obtain⟨y5,y6,h5,lp⟩:=FQ (f1:=reachF) (f2:=jx) (z0:=some (.t nt)) (z1:=some (.t wt)) (z2:=some (.t md)) (z3:=some (.t (.lst (iD L)))) (y7:=none) (y8:=none) (y9:=none) (xP:=none) (G3:=none) nd (by omega)
    have s2:Qz reachF jx [some (.t nt),some (.t wt),some (.t md),some (.m (.lst (iD L))),some (.m (.dct [])),none,none,none,none,none,none,none]=some (.nx [some (.t nt),some (.t wt),some (.t md),some (.t (.lst (iD L))),some (.m (pq L)),y5,y6,none,none,none,none,none]):=by
      unfold Qz
      rw[pM]
      exact lp
    have s3:QA reachF jx [some (.t nt),some (.t wt),some (.t md),some (.t (.lst (iD L))),some (.m (pq L)),y5,y6,none,none,none,none,none]=some (.nx [some (.t nt),some (.t wt),some (.t md),some (.t (.lst (iD L))),some (.m (pq L)),y5,y6,some (.m (.lst (br L.length W (uO N L)))),none,none,none,none]):=by
      have:=Jr (L:=L) (z1:=some (.t wt)) (z2:=some (.t md)) (z3:=some (.t (.lst (iD L)))) (z5:=y5) (z6:=y6) (z7:=none) (z8:=none) (z9:=none) (jE:=none) (jz:=none) mo hW hn hL cl
      generalize iD L=l at this eL ⊢
      simp[QA,cZ,bT,eL,this]
    have s4:QB reachF jx [some (.t nt),some (.t wt),some (.t md),some (.t (.lst (iD L))),some (.m (pq L)),y5,y6,some (.m (.lst (br L.length W (uO N L)))),none,none,none,none]=some (.nx [some (.t nt),some (.t wt),some (.t md),some (.t (.lst (iD L))),some (.m (pq L)),y5,y6,some (.t (.lst (br L.length W (uO N L)))),some (.t (.lst (iD ns))),none,none,none]):=by
      have:=fun z7=>MA (L:=L) (z0:=some (.t nt)) (z2:=some (.t md)) (z3:=some (.t (.lst (iD L)))) (z4:=some (.m (pq L))) (z5:=y5) (z6:=y6) (z7:=z7) (z8:=none) (z9:=none) (jE:=none) (jz:=none) hw Jw
      generalize jx=f2 at e4
      generalize iD L=l at this eL ⊢
      generalize br L.length W (uO N L)=rr at e4 ⊢
      simp[QB,cZ,bT,eL,this,e4]
    have s5:=DP (f1:=reachF) (f2:=jx) (z0:=some (.t nt)) (z1:=some (.t wt)) (z2:=some (.t md)) (z4:=some (.m (pq L))) (z6:=y6) (z7:=some (.t (.lst (br L.length W (uO N L))))) (jz:=none) (L:=L) (y5:=y5) h5 P.cls BC (by omega) (by omega)
    have s7:QF reachF jx (gS (some (.t nt)) (some (.t wt)) (some (.t md)) (some (.m (pq L))) y6 (some (.t (.lst (br L.length W (uO N L))))) none L ns (.t (.lst ((rC L ns c ns.length).map D.lst))) (yI y5 ns.length) (yN ns ns.length))=some (.nx (gS (some (.t nt)) (some (.t wt)) (some (.t md)) (some (.m (pq L))) y6 (some (.t (.lst (br L.length W (uO N L))))) (some (.m (.lst (br c W (mU (bR N) (pU L ns) (rep L ns c)))))) L ns (.t (.lst ((rC L ns c ns.length).map D.lst))) (yI y5 ns.length) (yN ns ns.length))):=by
      have:=fun z3 z5 z9 jE=>Jv (L:=L) (ns:=ns) (c:=c) (z1:=some (.t wt)) (z2:=some (.t md)) (z3:=z3) (z5:=z5) (z6:=y6) (z7:=some (.t (.lst (br L.length W (uO N L))))) (z9:=z9) (jE:=jE) (jz:=none) mo hW hn hL cl BC P.cls
      have er:((List.range c).map fun k=>D.tup (fV W fun col=>pU L ns (bR N (na L (ns.idxOf k)) col)))=br c W (mU (bR N) (pU L ns) (rep L ns c)):=by
        rw[<-xW fun s col hs sJ=>(rows s col hs sJ).symm]
        rfl
      rw[er] at this
      generalize br c W (mU (bR N) (pU L ns) (rep L ns c))=rr at this ⊢
      generalize (rC L ns c ns.length).map D.lst=gg at this eG ⊢
      simp[QF,gS,cZ,bT,eG,this]
    have all:∃S,QG reachF jx (gS (some (.t nt)) (some (.t wt)) (some (.t md)) (some (.m (pq L))) y6 (some (.t (.lst (br L.length W (uO N L))))) (some (.m (.lst (br c W (mU (bR N) (pU L ns) (rep L ns c)))))) L ns (.t (.lst ((rC L ns c ns.length).map D.lst))) (yI y5 ns.length) (yN ns ns.length))=some (.rt (.t (.tup [.tup (br c W (mU (bR N) (pU L ns) (rep L ns c))),.tup ((List.range c).map fun s=>bW M (na (rep L ns c) s)),.lst ((rC L ns c ns.length).map D.lst)])) (some (.t nt) :: some (.t wt) :: some (.t md) :: S)):=by
      have:=fun z3 z5 z9 jE jz=>MB (L:=L) (ns:=ns) (c:=c) (z0:=some (.t nt)) (z2:=some (.t md)) (z3:=z3) (z4:=some (.m (pq L))) (z5:=z5) (z6:=y6) (z7:=some (.t (.lst (br L.length W (uO N L))))) (z8:=some (.t (.lst (iD ns)))) (z9:=z9) (jE:=jE) (jz:=jz) hw Jw BC P.cls
      have er:((List.range c).map fun k=>bW M (na L (ns.idxOf k)))=(List.range c).map fun s=>bW M (na (rep L ns c) s):=List.map_congr_left fun k hk=>by
        rw[show na (rep L ns c) k=na L (ns.idxOf k) from oV (List.mem_range.mp hk)]
      rw[er] at this
      generalize br c W (mU (bR N) (pU L ns) (rep L ns c))=rr at this ⊢
      generalize (rC L ns c ns.length).map D.lst=gg at this eG ⊢
      generalize ((List.range c).map fun s=>bW M (na (rep L ns c) s))=ww at this ⊢
      exact⟨_,by simp[QG,gS,cZ,bT,eG,this];rfl⟩
    obtain⟨S,all⟩:=all
    refine vO (S:=some (.t nt) :: some (.t wt) :: some (.t md) :: S) ?_ rfl
    show dW reachF jx [some (.t nt),some (.t wt),some (.t md),none,none,none,none,none,none,none,none,none]=_
    rw[Mz,Sq.bq s0,Sq.bq s1,Sq.bq s2,Sq.bq s3,Sq.bq s4,Sq.bq s5,Sq.bq s7]
    exact all
  . show bW M (na (rep L ns c) s)∈M
    rw[show na (rep L ns c) s=na L (ns.idxOf s) from oV hs]
    exact iM (Jw _ (dg (by rw[<-BC];exact(jU P.cls hs).1)))
theorem uP {κ:Type}{f:Nat->κ}{l:List Nat}(h:(l.map f).Nodup):l.Nodup:=by
 rw[List.nodup_iff_pairwise_ne,List.pairwise_map] at h
 rw[List.nodup_iff_pairwise_ne]
 exact h.imp fun q e=>q (by rw[e])
section
variable {W:Nat}{N:List (List Int)}{M:List D}
theorem zB (mo:Sq.fU W N) (hM:M.length=N.length) (hw:∀x∈M,x∈lG):∀i,∃(ns:List Nat) (c:Nat),ns.length=N.length/\tZ ns c/\∀s t,s < N.length->t < N.length->(na ns s=na ns t↔Bu (bR N) (bW M) W i s t)
  | 0 => by
    refine⟨gz (M.map fun d=>(Sum.inr (lH d):Key)),_,by rw[jR,List.length_map,hM],jS _,fun s t hs ht=>?_⟩
    have get:∀i,i < N.length->(M.map fun d=>(Sum.inr (lH d):Key))[i]? =some (Sum.inr (lH (bW M i))):=fun i hi=>by
      rw[List.getElem?_map,jT (by omega)];rfl
    rw[mT (get s hs) (get t ht)]
    constructor
    . intro h
      injection h with h
      exact Dw (hw _ (iM (by omega))) (hw _ (iM (by omega))) h
    . intro h
      rw[show bW M s=bW M t from h]
  | i + 1 => by
    obtain⟨ns,c,hl,hc,heq⟩:=zB mo hM hw i
    refine⟨next N W ns,_,by unfold next;rw[jR,List.length_map,List.length_range],jS _,fun s t hs ht=>?_⟩
    rw[next_eq hs ht,heq s t hs ht]
    constructor
    . rintro⟨a,b⟩
      exact⟨a,fun c hc=>(heq _ _ (cL mo hs hc).2 (cL mo ht hc).2).mp (b c hc)⟩
    . rintro⟨a,b⟩
      exact⟨a,fun c hc=>(heq _ _ (cL mo hs hc).2 (cL mo ht hc).2).mpr (b c hc)⟩
noncomputable def Jx (N:List (List Int)) (M:List D) (W i:Nat):Prop:=∀s t,s < N.length->t < N.length->Bu (bR N) (bW M) W i s t->Bu (bR N) (bW M) W (i+1) s t
theorem AL (mo : Sq.fU W N) (hM : M.length = N.length) (hw : ∀ x ∈ M, x ∈ lG) : ∀ i, Jx N M W i \/ ∃ (ns : List Nat) (c : Nat), ns.length = N.length /\ tZ ns c /\ (∀ s t, s < N.length -> t < N.length -> (na ns s = na ns t ↔ Bu (bR N) (bW M) W i s t)) /\ i + 1 <= c
  | 0=>by
    obtain⟨ns,c,hl,hc,heq⟩:=zB mo hM hw 0
    have pos:=mo.pos
    have:=hc.lt _ (dg (ns:=ns) (i:=0) (by omega))
    exact .inr ⟨ns,c,hl,hc,heq,by omega⟩
  | i + 1 => by
    rcases AL mo hM hw i with st | ⟨ns,c,hl,hc,heq,le⟩
    . left
      intro s t hs ht e
      exact⟨e,fun c hc=>st _ _ (cL mo hs hc).2 (cL mo ht hc).2 (e.2 c hc)⟩
    . by_cases q:Jx N M W i
      . left
        intro s t hs ht e
        exact⟨e,fun c hc=>q _ _ (cL mo hs hc).2 (cL mo ht hc).2 (e.2 c hc)⟩
      . right
        obtain⟨n1,c1,hl1,hc1,Jy⟩:=zB mo hM hw (i+1)
        refine⟨n1,c1,hl1,hc1,Jy,?_⟩
        have:∃s t,s < N.length/\t < N.length/\Bu (bR N) (bW M) W i s t/\¬Bu (bR N) (bW M) W (i+1) s t:=by
          apply Classical.byContradiction
          intro z
          exact q fun s t hs ht e=>Classical.byContradiction fun y=>z ⟨s,t,hs,ht,e,y⟩
        obtain⟨s,t,hs,ht,e1,e2⟩:=this
        have:=uM hc hc1 hl hl1 (fun a b ha hb w=>(heq a b ha hb).mpr ((Jy a b ha hb).mp w).1) hs ht ((heq s t hs ht).mpr e1) fun w=>e2 ((Jy s t hs ht).mp w)
        omega
theorem DT (mo:Sq.fU W N) (hM:M.length=N.length) (hw:∀x∈M,x∈lG):Jx N M W N.length:=by
 rcases AL mo hM hw N.length with st | ⟨ns,c,hl,hc,_,le⟩
 ·exact st
 ·have:=vN hc;omega
theorem rows_eq {nx:Nat->Nat->Nat}{wd:Nat->D}:∀(i:Nat) (s t:Nat),(∀cs,Vd W cs->wd (led nx cs s)=wd (led nx cs t))->Bu nx wd W i s t
  | 0,s,t,h=>h [] fun c hc=>(by cases hc)
  | i + 1, s, t, h => ⟨rows_eq i s t h, fun c hc => rows_eq i _ _ fun cs v => h (c :: cs) fun x hx => by
      rcases List.mem_cons.mp hx with rfl | hx
      . exact hc
      . exact v x hx⟩
theorem FY (mo:Sq.fU W N) (hM:M.length=N.length) (hw:∀x∈M,x∈lG){ns:List Nat}(heq:∀s t,s < N.length->t < N.length->(na ns s=na ns t↔Bu (bR N) (bW M) W N.length s t)):Jh (bR N) (bW M) (na ns) W (fun v=>v < N.length) where
 zero:=mo.pos
 cl:=fun s c hs hc=>(cL mo hs hc).2
 eq:=fun s t c hs ht hc e=>(heq _ _ (cL mo hs hc).2 (cL mo ht hc).2).mpr ((DT mo hM hw s t hs ht ((heq s t hs ht).mp e)).2 c hc)
 word:=fun s t hs ht e=>vL ((heq s t hs ht).mp e) [] (Nat.zero_le _) fun c hc=>(by cases hc)
 ne:=fun s t hs ht ne=>by
  apply Classical.byContradiction
  intro z
  exact ne ((heq s t hs ht).mpr (rows_eq _ s t fun cs v=>Classical.byContradiction fun y=>z ⟨cs,v,y⟩))
end
noncomputable def lI (ns L:List Nat):MO:=.dct (ent 0 (kL (L.map (na ns))))
theorem DU {ns L:List Nat}{g:Nat}:vD (.m (lI ns L)) (.int (g:Nat))=some (decide (g∈L.map (na ns))):=by
 unfold lI
 rw[vM.has _ _ (Sum.inl (g:Int)) rfl]
 by_cases h:g∈L.map (na ns)
 ·rw[iU (pX.mpr h),decide_eq_true h];rfl
 ·rw[jo 0 (fun z=>h (pX.mp z)),decide_eq_false h];rfl
theorem MC {ns L:List Nat}{g:Nat}(h:g∈L.map (na ns)):fu (.b (lI ns L)) (.int (g:Nat))=some (.int ((L.map (na ns)).idxOf g:Nat)):=by
 unfold lI
 rw[vM.rb _ _ (Sum.inl (g:Int)) rfl,iU (pX.mpr h)]
 unfold kL
 rw[idx_map (κ:=Key) (fun v:Nat=>(Sum.inl (v:Int):Key)) (fun a b z=>by injection z with z;omega)]
theorem Jz {ns L:List Nat}{v:Nat}(h:na ns v∉L.map (na ns)) (hl:L.length < 1000):iR (lI ns L) (.int (na ns v:Nat)) (.int (L.length:Nat))=some (lI ns (L++[v])):=by
 unfold lI
 have e:(kL (L.map (na ns))).length=L.length:=by unfold kL;rw[List.length_map,List.length_map]
 rw[vM.wr _ _ (Sum.inl ((na ns v:Nat):Int)) _ rfl (by rw[kY,e];omega),<-e,rB (fun z=>h (pX.mp z)),List.map_append]
 unfold kL
 rw[List.map_append]
 rfl
noncomputable def dj (aH:FM):GS:=
 (wX (qB (pK true 3 (aQ 2 (eF (aj 6))))) (aK (pI 3 (aQ 2 (eF (aj 6))) (gQ 4))
 (lQ (eT (eM 4 hAppend (aa (eF (aj 6)) ao))))) mZ)
noncomputable def dm (aH:FM):GS:=
 (wX (qB (eF (eP Ih (aa (eF (aj 5)) (aa (gQ 4) ao))))) (iA (bName 6) (cC (aQ 0 (aQ 4 (eF (aj 5))))) (dj aH)) mZ)
noncomputable def gH (aH:FM):GS:=
 (aK (aZ 2 (bF aH (bQ (eF (aj 0)) (bQ (eF (aj 1)) cQ))))
 (aK (aZ 3 (vG (aQ 2 (eC (.int 0))) (eC (.int 0))))
 (aK (aZ 4 (eP fY (aa (eC (.int 0)) ao)))
 (aK (iA (bName 5) (dh (aa (gQ 0) ao)) (dm aH))
 (aK (aZ 7 (bG [2,0,3] (cC (eF (aj 4))) aD (eF (eP bE (aa (eF (bG [1,3] (cC (aQ 2 (eF (aj 0)))) aD (aQ 2 (aQ 1 (eF (aj 0)))))) ao)))))
 (aK (aZ 8 (eP jg (aa (eF (eP bE (aa (eF (aj 7)) ao))) (aa (eF (eP bE (aa (eF (bG [1] (cC (eF (aj 4))) aD (aQ 1 (eF (aj 0))))) ao))) ao))))
 (gf (eP jg (aa (eF (aj 8)) (aa (eF (bG [3] (cC (eF (aj 2))) aD (sy 1 (eF (aj 0)) (eC .cH)))) ao))))))))))
noncomputable def QI (aH:FM):GS:=
 (aZ 2 (bF aH (bQ (eF (aj 0)) (bQ (eF (aj 1)) cQ))))
noncomputable def QJ (aH:FM):GS:=
 (aZ 3 (vG (aQ 2 (eC (.int 0))) (eC (.int 0))))
noncomputable def TH (aH:FM):GS:=
 (aZ 4 (eP fY (aa (eC (.int 0)) ao)))
noncomputable def QK (aH:FM):GS:=
 (iA (bName 5) (dh (aa (gQ 0) ao)) (dm aH))
noncomputable def QL (aH:FM):GS:=
 (aZ 7 (bG [2,0,3] (cC (eF (aj 4))) aD (eF (eP bE (aa (eF (bG [1,3] (cC (aQ 2 (eF (aj 0)))) aD (aQ 2 (aQ 1 (eF (aj 0)))))) ao)))))
noncomputable def QM (aH:FM):GS:=
 (aZ 8 (eP jg (aa (eF (eP bE (aa (eF (aj 7)) ao))) (aa (eF (eP bE (aa (eF (bG [1] (cC (eF (aj 4))) aD (aQ 1 (eF (aj 0))))) ao))) ao))))
noncomputable def QN (aH:FM):GS:=
 (gf (eP jg (aa (eF (aj 8)) (aa (eF (bG [3] (cC (eF (aj 2))) aD (sy 1 (eF (aj 0)) (eC .cH)))) ao))))
theorem MD (aH:FM):gH aH=aK (QI aH) (aK (QJ aH) (aK (TH aH) (aK (QK aH) (aK (QL aH) (aK (QM aH) (QN aH)))))):=rfl
noncomputable def rD:FM:=bY 9 (gH zx)
theorem zC:∀us r,rD us=some r->bY 9 (gH zx) us=some r:=fun _ _ h=>h
section
variable {f:FM}{z0 z1 z5 z7 z8:Option U}{nums fs:List D}{o o':MO}{v g:Int}
theorem JC (h1:fC nums v=some (.int g)) (h:vD (.m o) (.int g)=some true):dj f [z0,z1,some (.m (.lst nums)),some (.m o),some (.m (.lst fs)),z5,some (.t (.int v)),z7,z8]=some (.nx [z0,z1,some (.m (.lst nums)),some (.m o),some (.m (.lst fs)),z5,some (.t (.int v)),z7,z8]):=by
 simp[dj,pK,h1,h]
theorem ME (h1:fC nums v=some (.int g)) (h:vD (.m o) (.int g)=some false) (h2:iR o (.int g) (.int (fs.length:Nat))=some o') (hf:fs.length < 100000):dj f [z0,z1,some (.m (.lst nums)),some (.m o),some (.m (.lst fs)),z5,some (.t (.int v)),z7,z8]=some (.nx [z0,z1,some (.m (.lst nums)),some (.m o'),some (.m (.lst (fs++[.int v]))),z5,some (.t (.int v)),z7,z8]):=by
 simp[dj,pK,h1,h,h2,hf,j8,BK,hAppend]
end
section
variable {f:FM}{W:Nat}{N:List (List Int)}{ns:List Nat}{z0 z1 z5 z7 z8:Option U}
theorem JF (mo : Sq.fU W N) (hn : ns.length = N.length) {L : List Nat} {a u : Nat} {x6 : Option U} (h : Bf (bR N) (na ns) W L a 0) (hL : ∀ v ∈ L, v < N.length) (hu : L[a]? = some u) (h6 : gZ x6 = false) :
    ∃L' pW,loop (bName 6) (dj f) ((List.range W).map fun c=>D.int (bR N u c:Nat)) [z0,z1,some (.m (.lst (iD ns))),some (.m (lI ns L)),some (.m (.lst (iD L))),z5,x6,z7,z8]=some (.nx [z0,z1,some (.m (.lst (iD ns))),some (.m (lI ns L')),some (.m (.lst (iD L'))),z5,pW,z7,z8])/\Bf (bR N) (na ns) W L' a W/\(∀v∈L',v < N.length)/\gZ pW=false/\L.length<=L'.length:=by
  have few:=mo.few
  have un:u < N.length:=hL u (List.mem_of_getElem? hu)
  obtain⟨S',e,L',pW,b1,b2,b4,b5,b6,rfl⟩:=jQ (bd:=bName 6) (body:=dj f) ((List.range W).map fun c=>D.int (bR N u c:Nat))
    (fun j S=>∃L' pW,Bf (bR N) (na ns) W L' a j/\(∀v∈L',v < N.length)/\gZ pW=false/\L'[a]? =some u/\L.length<=L'.length/\S=[z0,z1,some (.m (.lst (iD ns))),some (.m (lI ns L')),some (.m (.lst (iD L'))),z5,pW,z7,z8])
    _ ⟨L,x6,h,hL,h6,hu,Nat.le_refl _,rfl⟩ (by
    rintro j d S hd ⟨L',pW,b1,b2,b4,b5,b6,rfl⟩
    have hj:j < W:=by
      have:=(List.getElem?_eq_some_iff.mp hd).1
      rwa [List.length_map,List.length_range] at this
    rw[List.getElem?_map,List.getElem?_range hj] at hd
    have hd:D.int (bR N u j:Nat)=d:=Option.some.inj hd
    subst hd
    have vn:=(cL mo un hj).2
    have nd:L'.Nodup:=uP b1.nd
    have lf:=sI nd b2
    have il:(iD L').length=L'.length:=by unfold iD;rw[List.length_map]
    refine⟨[z0,z1,some (.m (.lst (iD ns))),some (.m (lI ns L')),some (.m (.lst (iD L'))),z5,some (.t (.int (bR N u j:Nat))),z7,z8],?_⟩
    by_cases m:na ns (bR N u j)∈L'.map (na ns)
    . refine⟨_,?_,JC (iV (by omega)) (by rw[DU,decide_eq_true m]),L',some (.t (.int (bR N u j:Nat))),b1.skip b5 m,b2,rfl,b5,b6,rfl⟩
      generalize ((bR N u j:Nat):Int)=jj
      simp[-dQ,cB,b4]
    . refine⟨_,?_,ME (iV (by omega)) (by rw[DU,decide_eq_false m]) (by rw[il];exact Jz m (by omega)) (by omega),L'++[bR N u j],some (.t (.int (bR N u j:Nat))),b1.add b5 hj m,fun v hv=>?_,rfl,?_,by rw[List.length_append];omega,by rw[AG]⟩
      . generalize ((bR N u j:Nat):Int)=jj
        simp[-dQ,cB,b4]
      . rcases List.mem_append.mp hv with q | q
        . exact b2 v q
        . rw[List.mem_singleton.mp q];exact vn
      . rw[List.getElem?_append_left (List.getElem?_eq_some_iff.mp b5).1];exact b5)
  rw[List.length_map,List.length_range] at b1
  exact⟨L',pW,e,b1,b2,b4,b6⟩
theorem MF {nd:List D}{fs row:List D}{o o':MO}{fs':List D}{a u:Int}{x6 pW:Option U}(ha:a < (fs.length:Nat)) (e1:fC fs a=some (.int u)) (e2:fC nd u=some (.tup row))
  (lp:loop (bName 6) (dj f) row [some (.t (.tup nd)),z1,some (.m (.lst (iD ns))),some (.m o),some (.m (.lst fs)),some (.t (.int a)),x6,z7,z8]=some (.nx [some (.t (.tup nd)),z1,some (.m (.lst (iD ns))),some (.m o'),some (.m (.lst fs')),some (.t (.int a)),pW,z7,z8])):
  dm f [some (.t (.tup nd)),z1,some (.m (.lst (iD ns))),some (.m o),some (.m (.lst fs)),some (.t (.int a)),x6,z7,z8]=some (.nx [some (.t (.tup nd)),z1,some (.m (.lst (iD ns))),some (.m o'),some (.m (.lst fs')),some (.t (.int a)),pW,z7,z8]):=by
 simp[dm,ha,e1,e2,cZ,lp]
theorem JH {nd fs:List D}{o:MO}{a:Int}{x6:Option U}(ha:¬a < (fs.length:Nat)):dm f [some (.t (.tup nd)),z1,some (.m (.lst (iD ns))),some (.m o),some (.m (.lst fs)),some (.t (.int a)),x6,z7,z8]=some (.nx [some (.t (.tup nd)),z1,some (.m (.lst (iD ns))),some (.m o),some (.m (.lst fs)),some (.t (.int a)),x6,z7,z8]):=by
 simp[dm,ha]
theorem FZ (mo:Sq.fU W N) (hn:ns.length=N.length):∃L z5 z6,loop (bName 5) (dm f) (ig 0 N.length) [some (.t (nD N)),z1,some (.m (.lst (iD ns))),some (.m (lI ns [0])),some (.m (.lst (iD [0]))),none,none,z7,z8]=some (.nx [some (.t (nD N)),z1,some (.m (.lst (iD ns))),some (.m (lI ns L)),some (.m (.lst (iD L))),z5,z6,z7,z8])/\Bf (bR N) (na ns) W L N.length 0/\(∀v∈L,v < N.length)/\L.length<=N.length:=by
 have few:=mo.few
 obtain⟨S',e,L,x5,x6,b1,b2,b5,b6,rfl⟩:=jQ (bd:=bName 5) (body:=dm f) (ig 0 N.length)
  (fun j S=>∃L x5 x6,Bf (bR N) (na ns) W L j 0/\(∀v∈L,v < N.length)/\gZ x5=false/\gZ x6=false/\S=[some (.t (nD N)),z1,some (.m (.lst (iD ns))),some (.m (lI ns L)),some (.m (.lst (iD L))),x5,x6,z7,z8])
  _ ⟨[0],none,none,AA,fun v hv=>by rw[List.mem_singleton.mp hv];exact mo.pos,rfl,rfl,rfl⟩ (by
  rintro j d S hd ⟨L,x5,x6,b1,b2,b5,b6,rfl⟩
  obtain⟨hj,rfl⟩:=mS hd
  have il:(iD L).length=L.length:=by unfold iD;rw[List.length_map]
  refine⟨[some (.t (nD N)),z1,some (.m (.lst (iD ns))),some (.m (lI ns L)),some (.m (.lst (iD L))),some (.t (.int (j:Nat))),x6,z7,z8],?_⟩
  have eb:bName 5 (.int (j:Nat)) [some (.t (nD N)),z1,some (.m (.lst (iD ns))),some (.m (lI ns L)),some (.m (.lst (iD L))),x5,x6,z7,z8]=some [some (.t (nD N)),z1,some (.m (.lst (iD ns))),some (.m (lI ns L)),some (.m (.lst (iD L))),some (.t (.int (j:Nat))),x6,z7,z8]:=by
   generalize (j:Int)=jj
   simp[-dQ,cB,b5]
  by_cases c:j < L.length
  ·obtain⟨L',pW,e,c1,c2,c3,_⟩:=JF (f:=f) (z0:=some (.t (nD N))) (z1:=z1) (z5:=some (.t (.int (j:Nat)))) (z7:=z7) (z8:=z8) mo hn b1 b2 (cz c) b6
   refine⟨_,eb,MF (by rw[il];omega) (iV c) (mW (kF.of mo) (b2 _ (dg c))) e,L',_,pW,c1.row,c2,rfl,c3,rfl⟩
  ·exact⟨_,eb,JH (by rw[il];omega),L,_,x6,b1.none (by omega),b2,rfl,b6,rfl⟩)
 rw[Sq.iK] at b1
 have nd:L.Nodup:=uP b1.nd
 exact⟨L,x5,x6,e,b1,b2,sI nd b2⟩
end
noncomputable abbrev QO:GD:=aQ 2 (aQ 1 (eF (aj 0)))
noncomputable abbrev TJ:GD:=(eF (eP bE (aa (eF (bG [1,3] (cC (aQ 2 (eF (aj 0)))) aD (aQ 2 (aQ 1 (eF (aj 0)))))) ao)))
theorem DV {o:MO}{nums acc:List D}{v g:Int}{x:D}{z0 z2:Option U}(h:fC nums v=some (.int g)) (h2:fu (.b o) (.int g)=some x):aN [1,3] aD QO [.int v] [z0,some (.b (.lst nums)),z2,some (.b o)] acc=some (acc++[x],[z0,some (.b (.lst nums)),z2,some (.b o)]):=by
 simp[aN,bL,eu,h,h2,aJ]
theorem JJ {W:Nat}{g:Nat->Nat}{L ns:List Nat}{z0 z2:Option U}(hg:∀c,c < W->g c < ns.length) (h:∀c,c < W->na ns (g c)∈L.map (na ns)):aN [1,3] aD QO (fV W g) [z0,some (.b (.lst (iD ns))),z2,some (.b (lI ns L))] []=some (fV W fun c=>ix (na ns) L (g c),[z0,some (.b (.lst (iD ns))),z2,some (.b (lI ns L))]):=by
 unfold fV
 refine(gR (fun c=>D.int (g c:Nat)) (fun c=>D.int (ix (na ns) L (g c):Nat)) (List.range W) [] fun c hc acc=>?_).trans (by rw[List.nil_append])
 have hc:=List.mem_range.mp hc
 exact DV (iV (hg c hc)) (MC (h c hc))
theorem DW {nums aT row outs acc:List D}{o:MO}{v:Int}{z1 z4 z5 z6 z7 z8:Option U}(h1:fC aT v=some (.tup row)) (hl:row.length<=100000) (h2:∀z0 z2,aN [1,3] aD QO row [z0,some (.b (.lst nums)),z2,some (.b o)] []=some (outs,[z0,some (.b (.lst nums)),z2,some (.b o)])):
  aN [2,0,3] aD TJ [.int v] [some (.t (.tup aT)),z1,some (.m (.lst nums)),some (.m o),z4,z5,z6,z7,z8] acc=some (acc++[.tup outs],[some (.t (.tup aT)),z1,some (.m (.lst nums)),some (.m o),z4,z5,z6,z7,z8]):=by
 simp[aN,bL,eu,h1,cZ,bT,hl,h2,aJ]
theorem Ga {M acc:List D}{v:Int}{x:D}{z0 z2 z3 z4 z5 z6 z7 z8:Option U}(h:fC M v=some x):aN [1] aD (aQ 1 (eF (aj 0))) [.int v] [z0,some (.t (.tup M)),z2,z3,z4,z5,z6,z7,z8] acc=some (acc++[x],[z0,some (.t (.tup M)),z2,z3,z4,z5,z6,z7,z8]):=by
 simp[aN,bL,eu,h,aJ]
theorem Gb {kvs:List (Key×D)}{acc:List D}{g:Int}{z0 z1 z2 z4 z5 z6 z7 z8:Option U}:aN [3] aD (sy 1 (eF (aj 0)) (eC .cH)) [.int g] [z0,z1,z2,some (.m (.dct kvs)),z4,z5,z6,z7,z8] acc=some (acc++[(aV kvs (.inl g)).getD .cH],[z0,z1,z2,some (.m (.dct kvs)),z4,z5,z6,z7,z8]):=by
 simp[aN,bL,eu,sy,su,E6,keyOf,aJ]
section
variable {W:Nat}{N:List (List Int)}{M:List D}{ns L:List Nat}{z1 z4 z5 z6 z7 z8:Option U}
theorem JK (mo:kF W N) (hW:W < 1000) (hn:ns.length=N.length) (hL:∀v∈L,v < N.length) (sn:∀s c,s < L.length->c < W->na ns (bR N (na L s) c)∈L.map (na ns)):
  aN [2,0,3] aD TJ (iD L) [some (.t (nD N)),z1,some (.m (.lst (iD ns))),some (.m (lI ns L)),z4,z5,z6,z7,z8] []=some (br L.length W (mU (bR N) (na ns) L),[some (.t (nD N)),z1,some (.m (.lst (iD ns))),some (.m (lI ns L)),z4,z5,z6,z7,z8]):=by
 rw[nO (ns:=L) rfl]
 refine(gR (fun s=>D.int (na L s:Nat)) (fun s=>.tup (fV W (mU (bR N) (na ns) L s))) (List.range L.length) [] fun s hs acc=>?_).trans (by rw[List.nil_append];rfl)
 have hs:=List.mem_range.mp hs
 have un:=hL _ (dg hs)
 exact DW (row:=fV W (bR N (na L s))) (mW mo un) (by rw[fJ];omega) fun z0 z2=>JJ (fun c hc=>by rw[hn];exact(sH mo un hc).2) fun c hc=>sn s c hs hc
theorem MG {z0 z2 z3:Option U}(hL:∀v∈L,v < M.length):aN [1] aD (aQ 1 (eF (aj 0))) (iD L) [z0,some (.t (.tup M)),z2,z3,z4,z5,z6,z7,z8] []=some ((List.range L.length).map fun s=>bW M (na L s),[z0,some (.t (.tup M)),z2,z3,z4,z5,z6,z7,z8]):=by
 rw[nO rfl]
 refine(gR (fun s=>D.int (na L s:Nat)) (fun s=>bW M (na L s)) (List.range L.length) [] fun s hs acc=>?_).trans (by rw[List.nil_append])
 exact Ga (oU (hL _ (dg (List.mem_range.mp hs))))
theorem MH {kvs:List (Key×D)}{z0 z2:Option U}:aN [3] aD (sy 1 (eF (aj 0)) (eC .cH)) (iD ns) [z0,z1,z2,some (.m (.dct kvs)),z4,z5,z6,z7,z8] []=some ((List.range ns.length).map fun s=>(aV kvs (.inl ((na ns s:Nat):Int))).getD .cH,[z0,z1,z2,some (.m (.dct kvs)),z4,z5,z6,z7,z8]):=by
 rw[nO rfl]
 exact(gR (fun s=>D.int (na ns s:Nat)) (fun s=>(aV kvs (.inl ((na ns s:Nat):Int))).getD .cH) (List.range ns.length) [] fun s hs acc=>Gb).trans (by rw[List.nil_append])
end
theorem BE {W:Nat}{N:List (List Int)}{M:List D}(mo:Sq.fU W N) (hW:W < 1000) (hM:M.length=N.length) (hw:∀x∈M,x∈lG):
  ∃n' nx' pT gs,rD [.t (nD N),.t (.tup M)]=some (.t (.tup [.tup [.tup (br n' W nx'),.tup ((List.range n').map pT)],.lst gs]),[])/\Canon W n' nx' pT/\(∀cs,Vd W cs->pT (led nx' cs 0)=bW M (led (bR N) cs 0))/\n'<=N.length/\∀s,s < n'->pT s∈M:=by
 have few:=mo.few
 have mk:=kF.of mo
 obtain⟨ns,c,e0,hl,hc,heq⟩:=Ms mo hW hM hw
 have C:=FY mo hM hw heq
 obtain⟨L,y5,y6,lp,bf,hL,lf⟩:=FZ (f:=zx) (z1:=some (.t (.tup M))) (z7:=none) (z8:=none) mo hl
 have l0:0 < L.length:=(List.getElem?_eq_some_iff.mp bf.zero).1
 have Jw:∀v∈L,v < M.length:=fun v hv=>by rw[hM];exact hL v hv
 have sn:∀s c,s < L.length->c < W->na ns (bR N (na L s) c)∈L.map (na ns):=fun s c hs hc=>bf.seen s c _ hc (by unfold Er;omega) (cz hs)
 obtain⟨cn,bh⟩:=canon_of C bf lf hL
 refine⟨L.length,mU (bR N) (na ns) L,fun s=>bW M (na L s),(List.range ns.length).map fun s=>(aV (ent 0 (kL (L.map (na ns)))) (.inl ((na ns s:Nat):Int))).getD .cH,?_,cn,bh,lf,fun s hs=>iM (Jw _ (dg hs))⟩
 have eL:(iD L).length<=100000:=by unfold iD;rw[List.length_map];omega
 have eN:(iD ns).length<=100000:=by unfold iD;rw[List.length_map];omega
 have s0:QI zx [some (.t (nD N)),some (.t (.tup M)),none,none,none,none,none,none,none]=some (.nx [some (.t (nD N)),some (.t (.tup M)),some (.m (.lst (iD ns))),none,none,none,none,none,none]):=by
  generalize zx=f at e0
  generalize nD N=nd at e0
  simp[QI,e0]
 have s1:QJ zx [some (.t (nD N)),some (.t (.tup M)),some (.m (.lst (iD ns))),none,none,none,none,none,none]=some (.nx [some (.t (nD N)),some (.t (.tup M)),some (.m (.lst (iD ns))),some (.m (lI ns [0])),none,none,none,none,none]):=by
  have e:=iV (ns:=ns) (s:=0) (by have:=mo.pos;omega)
  have e:fC (iD ns) 0=some (.int (na ns 0:Nat)):=e
  have eo:lI ns [0]= .dct [(.inl ((na ns 0:Nat):Int),.int 0)]:=rfl
  rw[eo]
  generalize iD ns=l at e
  generalize ((na ns 0:Nat):Int)=g at e
  simp[QJ,e]
 have s2:TH zx [some (.t (nD N)),some (.t (.tup M)),some (.m (.lst (iD ns))),some (.m (lI ns [0])),none,none,none,none,none]=some (.nx [some (.t (nD N)),some (.t (.tup M)),some (.m (.lst (iD ns))),some (.m (lI ns [0])),some (.m (.lst (iD [0]))),none,none,none,none]):=rfl
 have s3:QK zx [some (.t (nD N)),some (.t (.tup M)),some (.m (.lst (iD ns))),some (.m (lI ns [0])),some (.m (.lst (iD [0]))),none,none,none,none]=some (.nx [some (.t (nD N)),some (.t (.tup M)),some (.m (.lst (iD ns))),some (.m (lI ns L)),some (.m (.lst (iD L))),y5,y6,none,none]):=by
  have g:=zy (aT:=N.map Sq.bC) (z:=[some (.t (.tup M)),some (.m (.lst (iD ns))),some (.m (lI ns [0])),some (.m (.lst (iD [0]))),none,none,none,none]) (by rw[List.length_map];omega)
  rw[List.length_map] at g
  unfold QK
  rw[pM,show dh (aa (gQ 0) ao) [some (.t (nD N)),some (.t (.tup M)),some (.m (.lst (iD ns))),some (.m (lI ns [0])),some (.m (.lst (iD [0]))),none,none,none,none]=some (ig 0 N.length,[some (.t (nD N)),some (.t (.tup M)),some (.m (.lst (iD ns))),some (.m (lI ns [0])),some (.m (.lst (iD [0]))),none,none,none,none]) from g]
  exact lp
 have s4:QL zx [some (.t (nD N)),some (.t (.tup M)),some (.m (.lst (iD ns))),some (.m (lI ns L)),some (.m (.lst (iD L))),y5,y6,none,none]=some (.nx [some (.t (nD N)),some (.t (.tup M)),some (.m (.lst (iD ns))),some (.m (lI ns L)),some (.t (.lst (iD L))),y5,y6,some (.m (.lst (br L.length W (mU (bR N) (na ns) L)))),none]):=by
  have:=fun z4=>JK (ns:=ns) (L:=L) (z1:=some (.t (.tup M))) (z4:=z4) (z5:=y5) (z6:=y6) (z7:=none) (z8:=none) mk hW hl hL sn
  generalize iD L=l at this eL ⊢
  simp[QL,cZ,bT,eL,this]
 have s5:QM zx [some (.t (nD N)),some (.t (.tup M)),some (.m (.lst (iD ns))),some (.m (lI ns L)),some (.t (.lst (iD L))),y5,y6,some (.m (.lst (br L.length W (mU (bR N) (na ns) L)))),none]=some (.nx [some (.t (nD N)),some (.t (.tup M)),some (.m (.lst (iD ns))),some (.m (lI ns L)),some (.t (.lst (iD L))),y5,y6,some (.t (.lst (br L.length W (mU (bR N) (na ns) L)))),some (.t (.tup [.tup (br L.length W (mU (bR N) (na ns) L)),.tup ((List.range L.length).map fun s=>bW M (na L s))]))]):=by
  have:=fun z7=>MG (M:=M) (L:=L) (z0:=some (.t (nD N))) (z2:=some (.m (.lst (iD ns)))) (z3:=some (.m (lI ns L))) (z4:=some (.t (.lst (iD L)))) (z5:=y5) (z6:=y6) (z7:=z7) (z8:=none) Jw
  generalize iD L=l at this eL ⊢
  generalize br L.length W (mU (bR N) (na ns) L)=rr at this ⊢
  generalize ((List.range L.length).map fun s=>bW M (na L s))=ww at this ⊢
  simp[QM,cZ,bT,eL,this]
 have all:∃S,QN zx [some (.t (nD N)),some (.t (.tup M)),some (.m (.lst (iD ns))),some (.m (lI ns L)),some (.t (.lst (iD L))),y5,y6,some (.t (.lst (br L.length W (mU (bR N) (na ns) L)))),some (.t (.tup [.tup (br L.length W (mU (bR N) (na ns) L)),.tup ((List.range L.length).map fun s=>bW M (na L s))]))]=some (.rt (.t (.tup [.tup [.tup (br L.length W (mU (bR N) (na ns) L)),.tup ((List.range L.length).map fun s=>bW M (na L s))],.lst ((List.range ns.length).map fun s=>(aV (ent 0 (kL (L.map (na ns)))) (.inl ((na ns s:Nat):Int))).getD .cH)])) (some (.t (nD N)) :: some (.t (.tup M)) :: S)):=by
  have:=fun z2=>MH (ns:=ns) (kvs:=ent 0 (kL (L.map (na ns)))) (z0:=some (.t (nD N))) (z1:=some (.t (.tup M))) (z2:=z2) (z4:=some (.t (.lst (iD L)))) (z5:=y5) (z6:=y6) (z7:=some (.t (.lst (br L.length W (mU (bR N) (na ns) L))))) (z8:=some (.t (.tup [.tup (br L.length W (mU (bR N) (na ns) L)),.tup ((List.range L.length).map fun s=>bW M (na L s))])))
  unfold lI
  generalize ((List.range ns.length).map fun s=>(aV (ent 0 (kL (L.map (na ns)))) (.inl ((na ns s:Nat):Int))).getD .cH)=gg at this ⊢
  generalize iD ns=l at this eN ⊢
  generalize br L.length W (mU (bR N) (na ns) L)=rr at this ⊢
  generalize ((List.range L.length).map fun s=>bW M (na L s))=ww at this ⊢
  exact⟨_,by simp[QN,cZ,bT,eN,this];rfl⟩
 obtain⟨S,all⟩:=all
 refine vO (S:=some (.t (nD N)) :: some (.t (.tup M)) :: S) ?_ rfl
 show gH zx [some (.t (nD N)),some (.t (.tup M)),none,none,none,none,none,none,none]=_
 rw[MD,Sq.bq s0,Sq.bq s1,Sq.bq s2,Sq.bq s3,Sq.bq s4,Sq.bq s5]
 exact all
noncomputable def fP (gC:FM):GS:=
 (aK (aZ 2 (bF gC (bQ (aQ 1 (eC (.int 0))) (bQ (aQ 1 (eC (.int 1))) (bQ (eC .cH) cQ)))))
 (gf (eP jg (aa (aQ 2 (eC (.int 0))) (aa (aQ 2 (eC (.int 1))) ao)))))
noncomputable def NX:FM:=bY 3 (fP sL)
theorem JL:∀us r,NX us=some r->bY 3 (fP sL) us=some r:=fun _ _ h=>h
theorem QS {f:FM}{td nt wt a b g:D}(h:f [.t nt,.t wt,.t .cH]=some (.t (.tup [a,b,g]),[])):bY 3 (fP f) [.t td,.t (.tup [nt,wt])]=some (.t (.tup [a,b]),[]):=by
 simp[bY,fP,at2,Vb,h,aJ]
noncomputable def kJ (n t:Nat):Nat->Nat
 | 0=>0
 | k+1=>1+(k+t) % (2 * n - 1)
theorem xX {n t k:Nat}(hn:0 < n):kJ n t k < 2 * n:=by
 cases k with
 | zero=>show 0 < _;omega
 | succ k=>
  have:=Nat.mod_lt (k+t) (show 0 < 2 * n - 1 by omega)
  show 1+(k+t) % (2 * n - 1) < 2 * n
  omega
theorem Gd {a b t m:Nat}(ha:a < m) (hb:b < m) (h:(a+t) % m=(b+t) % m):a=b:=by
 have key:∀{a b:Nat},a<=b->b < m->(a+t) % m=(b+t) % m->a=b:=fun {a b} l hb h=>by
  have e1:=Nat.div_add_mod (a+t) m
  have e2:=Nat.div_add_mod (b+t) m
  have l2:(a+t) / m<=(b+t) / m:=Nat.div_le_div_right (by omega)
  by_cases q:(a+t) / m=(b+t) / m
  ·rw[q] at e1;omega
  ·obtain⟨d,hd⟩:∃d,(b+t) / m=(a+t) / m+(d+1):=⟨(b+t) / m - (a+t) / m - 1,by omega⟩
   rw[hd,Nat.mul_add,Nat.mul_add] at e2
   have:m * d≥0:=Nat.zero_le _
   omega
 rcases Nat.le_total a b with l | l
 ·exact key l hb h
 ·exact(key l ha h.symm).symm
theorem DX {n t k j:Nat}(hk:k < 2 * n) (hj:j < 2 * n) (h:kJ n t k=kJ n t j):k=j:=by
 cases k with
 | zero=>cases j with
  | zero=>rfl
  | succ j=>have h:0=1+(j+t) % (2 * n - 1):=h;omega
 | succ k=>cases j with
  | zero=>have h:1+(k+t) % (2 * n - 1)=0:=h;omega
  | succ j=>
   have h:1+(k+t) % (2 * n - 1)=1+(j+t) % (2 * n - 1):=h
   rw[Gd (m:=2 * n - 1) (t:=t) (by omega) (by omega) (show(k+t) % (2 * n - 1)=(j+t) % (2 * n - 1) by omega)]
theorem MI {n t p:Nat}(hn:0 < n) (hp:p < 2 * n):∃k,k < 2 * n/\kJ n t k=p:=by
 have nd:((List.range (2 * n)).map (kJ n t)).Nodup:=by
  rw[List.nodup_iff_pairwise_ne,List.pairwise_map]
  exact List.Pairwise.imp_of_mem (R:=fun a b=>a≠b) (fun {a b} ha hb ne e=>ne (DX (List.mem_range.mp ha) (List.mem_range.mp hb) e)) (List.nodup_iff_pairwise_ne.mp List.nodup_range)
 apply Classical.byContradiction
 intro z
 have sub:∀v∈(List.range (2 * n)).map (kJ n t),v∈(List.range (2 * n)).erase p:=fun v hv=>by
  obtain⟨k,hk,rfl⟩:=List.mem_map.mp hv
  rw[List.mem_erase_of_ne (fun e=>z ⟨k,List.mem_range.mp hk,e⟩)]
  exact List.mem_range.mpr (xX hn)
 have l:=nd.length_le_of_subset sub
 rw[List.length_map,List.length_range,List.length_erase_of_mem (List.mem_range.mpr hp),List.length_range] at l
 omega
noncomputable def cT (au:FM):GS:=
 (aK (aZ 10 (bG [0,4,6] (cC (aQ 2 (eF (eP nH (aa (eF (aj 9)) (aa (eF (aj 4)) ao)))))) aD (aQ 3 (eF (eP fy (aa (eF (aj 0)) (aa (eF (eP gW (aa (eF (aj 2)) (aa (eF (bF au (gX (aj 1) (bQ (eC (.int 2)) cQ)))) ao)))) ao)))))))
 (aK (pI 7 (aQ 6 (eF (aj 9))) (eF (eP bE (aa (eF (aj 10)) ao))))
 (pI 8 (aQ 6 (eF (aj 9))) (aQ 3 (eF (eP nH (aa (eF (aj 9)) (aa (eF (aj 4)) ao))))))))
noncomputable def cF (au:FM):GS:=
 (aK (ER (nJ 2 (fh (bName 2) (fh (bName 3) oq))) (eF (aj 1)))
 (aK (aZ 4 (eT (gQ 2)))
 (aK (aZ 5 (bF au (gX (aj 0) (bQ (eF (eP gW (aa (eC (.int 2)) (aa (eF (aj 4)) ao)))) cQ))))
 (aK (aZ 6 (eP fy (aa (eF (eP fY (aa (eC (.int 0)) ao))) (aa (eF (bG [4,5] (dh (aa (eF (eP qJ (aa (eF (eP gW (aa (eC (.int 2)) (aa (eF (aj 4)) ao)))) (aa (eC (.int 1)) ao)))) ao)) aD (eF (eP fy (aa (eC (.int 1)) (aa (eF (eP nH (aa (eF (eP fy (aa (eF (aj 0)) (aa (eF (aj 2)) ao)))) (aa (eF (eP qJ (aa (eF (eP gW (aa (eC (.int 2)) (aa (eF (aj 1)) ao)))) (aa (eC (.int 1)) ao)))) ao)))) ao)))))) ao))))
 (aK (aZ 7 (eP qL (aa (eF (eP fY (aa (eF (eP jg ao)) ao))) (aa (eF (eP gW (aa (eC (.int 2)) (aa (eF (aj 4)) ao)))) ao))))
 (aK (aZ 8 (eP qL (aa (eF (eP fY (aa (eC (.bl false)) ao))) (aa (eF (eP gW (aa (eC (.int 2)) (aa (eF (aj 4)) ao)))) ao))))
 (aK (iA (bName 9) (dh (aa (eF (eP gW (aa (eC (.int 2)) (aa (eF (aj 4)) ao)))) ao)) (cT au))
 (gf (eP jg (aa (eF (eP bE (aa (eF (aj 7)) ao))) (aa (eF (eP bE (aa (eF (aj 8)) ao))) ao)))))))))))
noncomputable def NY (au:FM):GS:=
 (ER (nJ 2 (fh (bName 2) (fh (bName 3) oq))) (eF (aj 1)))
noncomputable def NZ (au:FM):GS:=
 (aZ 4 (eT (gQ 2)))
noncomputable def N3 (au:FM):GS:=
 (aZ 5 (bF au (gX (aj 0) (bQ (eF (eP gW (aa (eC (.int 2)) (aa (eF (aj 4)) ao)))) cQ))))
noncomputable def N4 (au:FM):GS:=
 (aZ 6 (eP fy (aa (eF (eP fY (aa (eC (.int 0)) ao))) (aa (eF (bG [4,5] (dh (aa (eF (eP qJ (aa (eF (eP gW (aa (eC (.int 2)) (aa (eF (aj 4)) ao)))) (aa (eC (.int 1)) ao)))) ao)) aD (eF (eP fy (aa (eC (.int 1)) (aa (eF (eP nH (aa (eF (eP fy (aa (eF (aj 0)) (aa (eF (aj 2)) ao)))) (aa (eF (eP qJ (aa (eF (eP gW (aa (eC (.int 2)) (aa (eF (aj 1)) ao)))) (aa (eC (.int 1)) ao)))) ao)))) ao)))))) ao))))
noncomputable def N5 (au:FM):GS:=
 (aZ 7 (eP qL (aa (eF (eP fY (aa (eF (eP jg ao)) ao))) (aa (eF (eP gW (aa (eC (.int 2)) (aa (eF (aj 4)) ao)))) ao))))
noncomputable def N6 (au:FM):GS:=
 (aZ 8 (eP qL (aa (eF (eP fY (aa (eC (.bl false)) ao))) (aa (eF (eP gW (aa (eC (.int 2)) (aa (eF (aj 4)) ao)))) ao))))
noncomputable def MJ (au:FM):GS:=
 (iA (bName 9) (dh (aa (eF (eP gW (aa (eC (.int 2)) (aa (eF (aj 4)) ao)))) ao)) (cT au))
noncomputable def MK (au:FM):GS:=
 (gf (eP jg (aa (eF (eP bE (aa (eF (aj 7)) ao))) (aa (eF (eP bE (aa (eF (aj 8)) ao))) ao))))
theorem ML (au:FM):cF au=aK (NY au) (aK (NZ au) (aK (N3 au) (aK (N4 au) (aK (N5 au) (aK (N6 au) (aK (MJ au) (MK au))))))):=rfl
noncomputable def QT (au:FM):GS:=
 (aZ 10 (bG [0,4,6] (cC (aQ 2 (eF (eP nH (aa (eF (aj 9)) (aa (eF (aj 4)) ao)))))) aD (aQ 3 (eF (eP fy (aa (eF (aj 0)) (aa (eF (eP gW (aa (eF (aj 2)) (aa (eF (bF au (gX (aj 1) (bQ (eC (.int 2)) cQ)))) ao)))) ao)))))))
noncomputable def QU (au:FM):GS:=
 (pI 7 (aQ 6 (eF (aj 9))) (eF (eP bE (aa (eF (aj 10)) ao))))
noncomputable def LH (au:FM):GS:=
 (pI 8 (aQ 6 (eF (aj 9))) (aQ 3 (eF (eP nH (aa (eF (aj 9)) (aa (eF (aj 4)) ao))))))
theorem MM (au:FM):cT au=aK (QT au) (aK (QU au) (LH au)):=rfl
noncomputable def Ge:FM:=bY 11 (cF Sq.cu)
theorem Gf:∀us r,Ge us=some r->bY 11 (cF Sq.cu) us=some r:=fun _ _ h=>h
noncomputable abbrev TL:GD:=(aQ 3 (eF (eP fy (aa (eF (aj 0)) (aa (eF (eP gW (aa (eF (aj 2)) (aa (eF (bF Sq.cu (gX (aj 1) (bQ (eC (.int 2)) cQ)))) ao)))) ao)))))
noncomputable def qN (n t:Nat):List Nat:=(List.range (2 * n)).map (kJ n t)
theorem DY {n t k:Nat}(h:k < 2 * n):fC (iD (qN n t)) (k:Int)=some (.int (kJ n t k:Nat)):=by
 rw[iV (by unfold qN;rw[List.length_map,List.length_range];exact h)]
 unfold qN
 rw[oV h]
section
variable {z1 z2 z3 z5 z7 z8 z9 jE:Option U}{c l i:Int}
theorem JM {f:FM}{names acc:List D}{v m b l':Int}{x:D}(ht:f [.b (Sq.fd c i l),.t (.int 2)]=some (.t (.int b),[Sq.fd c (i+1) l'])) (hm:-18446744073709551616 < m/\m < 18446744073709551616) (h:fC names (v+m * b)=some x):
  aN [0,4,6] aD (aQ 3 (eF (eP fy (aa (eF (aj 0)) (aa (eF (eP gW (aa (eF (aj 2)) (aa (eF (bF f (gX (aj 1) (bQ (eC (.int 2)) cQ)))) ao)))) ao))))) [.int v] [some (.b (Sq.fd c i l)),z1,z2,z3,some (.t (.int m)),z5,some (.m (.lst names)),z7,z8,z9,jE] acc=
   some (acc++[x],[some (.b (Sq.fd c (i+1) l')),z1,z2,z3,some (.t (.int m)),z5,some (.m (.lst names)),z7,z8,z9,jE]):=by
 obtain⟨h1,h2⟩:=hm
 simp[aN,bL,eu,ht,h1,h2,h,aJ]
theorem JO {W n t : Nat} {g : Nat -> Nat} (hn : 0 < n) (BJ : n <= 7) (hg : ∀ c, c < W -> g c < n) (hW : W <= 44) (hi : 0 <= i) (hi2 : i < 800000) :
    ∃(b:Nat->Nat) (l':Int),(∀c,b c < 2)/\aN [0,4,6] aD TL (fV W g) [some (.b (Sq.fd c i l)),z1,z2,z3,some (.t (.int (n:Nat))),z5,some (.m (.lst (iD (qN n t)))),z7,z8,z9,jE] []=
      some (fV W fun c=>kJ n t (g c+n * b c),[some (.b (Sq.fd c (i+(W:Nat)) l')),z1,z2,z3,some (.t (.int (n:Nat))),z5,some (.m (.lst (iD (qN n t)))),z7,z8,z9,jE]):=by
  obtain⟨acc,S',e,b,l',hb,rfl,rfl⟩:=lW (cap:=[0,4,6]) (g:=TL) (fV W g)
    (fun j acc S=>∃(b:Nat->Nat) (l':Int),(∀c,b c < 2)/\acc=(List.range j).map (fun c=>D.int (kJ n t (g c+n * b c):Nat))/\S=[some (.b (Sq.fd c (i+(j:Nat)) l')),z1,z2,z3,some (.t (.int (n:Nat))),z5,some (.m (.lst (iD (qN n t)))),z7,z8,z9,jE])
    [some (.b (Sq.fd c i l)),z1,z2,z3,some (.t (.int (n:Nat))),z5,some (.m (.lst (iD (qN n t)))),z7,z8,z9,jE] ⟨fun _=>0,l,fun _=>(by show 0 < 2;omega),rfl,by simp⟩ (by
    rintro j d acc S hd ⟨b,l',hb,rfl,rfl⟩
    have hj:j < W:=by have:=(List.getElem?_eq_some_iff.mp hd).1;rwa [fJ] at this
    unfold fV at hd
    rw[List.getElem?_map,List.getElem?_range hj] at hd
    cases hd
    obtain⟨v,l'',ht,v0,v1⟩:=Sq.i9 c l' (i:=i+(j:Nat)) (m:=2) (by omega) (by omega) (by omega) (by omega)
    obtain⟨q,rfl⟩:∃q:Nat,v=q:=⟨v.toNat,by omega⟩
    have hq:q < 2:=by omega
    have gj:=hg j hj
    have idx:g j+n * q < 2 * n:=by
      have:q=0\/q=1:=by omega
      rcases this with rfl | rfl <;> omega
    have w4:=DY (n:=n) (t:=t) idx
    have ei:((g j+n * q:Nat):Int)=((g j:Nat):Int)+((n:Nat):Int) * ((q:Nat):Int):=by push_cast;rfl
    rw[ei] at w4
    refine⟨.int (kJ n t (g j+n * q):Nat),[some (.b (Sq.fd c (i+(j:Nat)+1) l'')),z1,z2,z3,some (.t (.int (n:Nat))),z5,some (.m (.lst (iD (qN n t)))),z7,z8,z9,jE],JM ht ⟨by omega,by omega⟩ w4,fun x=>if x=j then q else b x,l'',fun x=>?_,?_,?_⟩
    . show(if x=j then q else b x) < 2
      split
      . exact hq
      . exact hb x
    . rw[List.range_succ,List.map_append]
      congr 1
      . refine List.map_congr_left fun x hx=>?_
        have hx:=List.mem_range.mp hx
        show D.int ((kJ n t (g x+n * b x):Nat):Int)=D.int ((kJ n t (g x+n * (if x=j then q else b x)):Nat):Int)
        rw[if_neg (show ¬x=j by omega)]
      . simp
    . rw[show i+((j+1:Nat):Int)=i+(j:Nat)+1 by push_cast;omega])
  rw[fJ] at e
  exact⟨b,l',hb,e⟩
theorem Gg {f:FM}{aT M names row lZ rs ms:List D}{k n km nk i' l':Int}{rk:Nat}{xP:Option U}{w:D}(h10:gZ xP=false) (hn:0 < n) (hkm:k % n=km) (e1:fC aT km=some (.tup row)) (hl:row.length<=100000)
  (ec:aN [0,4,6] aD (aQ 3 (eF (eP fy (aa (eF (aj 0)) (aa (eF (eP gW (aa (eF (aj 2)) (aa (eF (bF f (gX (aj 1) (bQ (eC (.int 2)) cQ)))) ao)))) ao))))) row [some (.b (Sq.fd c i l)),z1,some (.t (.tup aT)),some (.t (.tup M)),some (.t (.int n)),z5,some (.m (.lst names)),some (.m (.lst rs)),some (.m (.lst ms)),some (.t (.int k)),xP] []=
   some (lZ,[some (.b (Sq.fd c i' l')),z1,some (.t (.tup aT)),some (.t (.tup M)),some (.t (.int n)),z5,some (.m (.lst names)),some (.m (.lst rs)),some (.m (.lst ms)),some (.t (.int k)),xP]))
  (e2:fC names k=some (.int nk)) (e3:wL rs.length nk=some rk) (e4:wL ms.length nk=some rk) (e5:fC M km=some w):
  cT f [some (.b (Sq.fd c i l)),z1,some (.t (.tup aT)),some (.t (.tup M)),some (.t (.int n)),z5,some (.m (.lst names)),some (.m (.lst rs)),some (.m (.lst ms)),some (.t (.int k)),xP]=
   some (.nx [some (.b (Sq.fd c i' l')),z1,some (.t (.tup aT)),some (.t (.tup M)),some (.t (.int n)),z5,some (.m (.lst names)),some (.m (.lst (rs.set rk (.tup lZ)))),some (.m (.lst (ms.set rk w))),some (.t (.int k)),some (.t (.lst lZ))]):=by
 rw[MM]
 have s0:QT f [some (.b (Sq.fd c i l)),z1,some (.t (.tup aT)),some (.t (.tup M)),some (.t (.int n)),z5,some (.m (.lst names)),some (.m (.lst rs)),some (.m (.lst ms)),some (.t (.int k)),xP]=some (.nx [some (.b (Sq.fd c i' l')),z1,some (.t (.tup aT)),some (.t (.tup M)),some (.t (.int n)),z5,some (.m (.lst names)),some (.m (.lst rs)),some (.m (.lst ms)),some (.t (.int k)),some (.m (.lst lZ))]):=by
  simp[-dQ,cB,QT,cZ,bT,hn,hkm,e1,hl,ec,h10]
 have s1:QU f [some (.b (Sq.fd c i' l')),z1,some (.t (.tup aT)),some (.t (.tup M)),some (.t (.int n)),z5,some (.m (.lst names)),some (.m (.lst rs)),some (.m (.lst ms)),some (.t (.int k)),some (.m (.lst lZ))]=some (.nx [some (.b (Sq.fd c i' l')),z1,some (.t (.tup aT)),some (.t (.tup M)),some (.t (.int n)),z5,some (.m (.lst names)),some (.m (.lst (rs.set rk (.tup lZ)))),some (.m (.lst ms)),some (.t (.int k)),some (.t (.lst lZ))]):=by
  simp[QU,e2,e3,j8]
 have s2:LH f [some (.b (Sq.fd c i' l')),z1,some (.t (.tup aT)),some (.t (.tup M)),some (.t (.int n)),z5,some (.m (.lst names)),some (.m (.lst (rs.set rk (.tup lZ)))),some (.m (.lst ms)),some (.t (.int k)),some (.t (.lst lZ))]=some (.nx [some (.b (Sq.fd c i' l')),z1,some (.t (.tup aT)),some (.t (.tup M)),some (.t (.int n)),z5,some (.m (.lst names)),some (.m (.lst (rs.set rk (.tup lZ)))),some (.m (.lst (ms.set rk w))),some (.t (.int k)),some (.t (.lst lZ))]):=by
  simp[LH,e2,e4,e5,hn,hkm,j8]
 rw[Sq.bq s0,Sq.bq s1,s2]
end
theorem sM {n v q:Nat}(hv:v < n) (hq:q < 2):v+n * q < 2 * n/\(v+n * q) % n=v:=by
 have:q=0\/q=1:=by omega
 rcases this with rfl | rfl
 ·rw[Nat.mul_zero,Nat.add_zero];exact⟨by omega,Nat.mod_eq_of_lt hv⟩
 ·rw[Nat.mul_one,Nat.add_mod_right];exact⟨by omega,Nat.mod_eq_of_lt hv⟩
structure MN (W:Nat) (N:List (List Int)) (M:List D) (t:Nat) (h:Nat->Nat->Nat) (rs ms:List D) (j:Nat):Prop where
 rl:rs.length=2 * N.length
 ml:ms.length=2 * N.length
 row:∀k,k < j->rs[kJ N.length t k]? =some (.tup (fV W (h (kJ N.length t k))))/\ms[kJ N.length t k]? =some (bW M (k % N.length))/\∀c,c < W->∃i,i < 2 * N.length/\h (kJ N.length t k) c=kJ N.length t i/\i % N.length=bR N (k % N.length) c
theorem MN.step {W:Nat}{N:List (List Int)}{M:List D}{t:Nat}{h:Nat->Nat->Nat}{rs ms:List D}{j:Nat}(hn:0 < N.length) (o:MN W N M t h rs ms j) (hj:j < 2 * N.length){g:Nat->Nat}(hg:∀c,c < W->∃i,i < 2 * N.length/\g c=kJ N.length t i/\i % N.length=bR N (j % N.length) c):
  MN W N M t (fun p=>if p=kJ N.length t j then g else h p) (rs.set (kJ N.length t j) (.tup (fV W g))) (ms.set (kJ N.length t j) (bW M (j % N.length))) (j+1):=by
 refine⟨by rw[List.length_set];exact o.rl,by rw[List.length_set];exact o.ml,fun k hk=>?_⟩
 have lt:kJ N.length t j < 2 * N.length:=xX hn
 by_cases e:k=j
 ·subst e
  simp only[if_true]
  exact⟨List.getElem?_set_self (by rw[o.rl];exact lt),List.getElem?_set_self (by rw[o.ml];exact lt),hg⟩
 ·have ne:kJ N.length t j≠kJ N.length t k:=fun z=>e (DX (by omega) hj z.symm)
  obtain⟨a,b,d⟩:=o.row k (by omega)
  simp only[if_neg (Ne.symm ne)]
  exact⟨by rw[List.getElem?_set_ne ne];exact a,by rw[List.getElem?_set_ne ne];exact b,d⟩
theorem Gh {W:Nat}{N:List (List Int)}{M:List D}{t:Nat}{c l i:Int}{z1 z5:Option U}(mo:Sq.fU W N) (hW:W<=44) (hM:M.length=N.length) (hi:0<=i) (hi2:i < 1000):
  ∃h rs ms i' l' x9 zD,loop (bName 9) (cT Sq.cu) (ig 0 (2 * N.length)) [some (.b (Sq.fd c i l)),z1,some (.t (nD N)),some (.t (.tup M)),some (.t (.int (N.length:Nat))),z5,some (.m (.lst (iD (qN N.length t)))),some (.m (.lst (List.replicate (2 * N.length) (.tup [])))),some (.m (.lst (List.replicate (2 * N.length) (.bl false)))),none,none]=
   some (.nx [some (.b (Sq.fd c i' l')),z1,some (.t (nD N)),some (.t (.tup M)),some (.t (.int (N.length:Nat))),z5,some (.m (.lst (iD (qN N.length t)))),some (.m (.lst rs)),some (.m (.lst ms)),x9,zD])/\MN W N M t h rs ms (2 * N.length):=by
 have few:=mo.few
 have pos:=mo.pos
 obtain⟨S',e,h,rs,ms,i',l',x9,zD,o,b9,Ku,q1,q2,rfl⟩:=jQ (bd:=bName 9) (body:=cT Sq.cu) (ig 0 (2 * N.length))
  (fun j S=>∃h rs ms i' l' x9 zD,MN W N M t h rs ms j/\gZ x9=false/\gZ zD=false/\0<=i'/\i'<=i+44 * (j:Nat)/\S=[some (.b (Sq.fd c i' l')),z1,some (.t (nD N)),some (.t (.tup M)),some (.t (.int (N.length:Nat))),z5,some (.m (.lst (iD (qN N.length t)))),some (.m (.lst rs)),some (.m (.lst ms)),x9,zD])
  _ ⟨fun _ _=>0,_,_,i,l,none,none,⟨List.length_replicate ..,List.length_replicate ..,fun k hk=>by omega⟩,rfl,rfl,hi,by omega,rfl⟩ (by
  rintro j d S hd ⟨h,rs,ms,i',l',x9,zD,o,b9,Ku,q1,q2,rfl⟩
  obtain⟨hj,rfl⟩:=mS hd
  have km:j % N.length < N.length:=Nat.mod_lt _ pos
  obtain⟨b,l'',hb,ec⟩:=JO (z1:=z1) (z2:=some (.t (nD N))) (z3:=some (.t (.tup M))) (z5:=z5) (z7:=some (.m (.lst rs))) (z8:=some (.m (.lst ms))) (z9:=some (.t (.int (j:Nat)))) (jE:=zD) (c:=c) (l:=l') (i:=i') (W:=W) (n:=N.length) (t:=t) (g:=bR N (j % N.length)) pos few (fun c hc=>(cL mo km hc).2) hW q1 (by omega)
  have lt:kJ N.length t j < 2 * N.length:=xX pos
  have tn:=Gg (f:=Sq.cu) (aT:=N.map Sq.bC) (M:=M) (k:=(j:Nat)) (n:=(N.length:Nat)) (km:=((j % N.length:Nat):Int)) (rk:=kJ N.length t j) Ku (by omega) (by push_cast;rfl) (mW (kF.of mo) km) (by rw[List.length_map,List.length_range];omega) ec (DY hj) (by rw[o.rl];exact vR lt) (by rw[o.ml];exact vR lt) (oU (by omega))
  refine⟨_,_,?_,tn,_,_,_,_,l'',_,_,o.step (g:=fun c=>kJ N.length t (bR N (j % N.length) c+N.length * b c)) pos hj (fun c hc=>⟨_,(sM (cL mo km hc).2 (hb c)).1,rfl,(sM (cL mo km hc).2 (hb c)).2⟩),rfl,rfl,by omega,by push_cast;omega,rfl⟩
  show bName 9 (.int (j:Nat)) [some (.b (Sq.fd c i' l')),z1,some (.t (nD N)),some (.t (.tup M)),some (.t (.int (N.length:Nat))),z5,some (.m (.lst (iD (qN N.length t)))),some (.m (.lst rs)),some (.m (.lst ms)),x9,zD]=some [some (.b (Sq.fd c i' l')),z1,some (.t (nD N)),some (.t (.tup M)),some (.t (.int (N.length:Nat))),z5,some (.m (.lst (iD (qN N.length t)))),some (.m (.lst rs)),some (.m (.lst ms)),some (.t (.int (j:Nat))),zD]
  generalize (j:Int)=jj
  generalize (N.length:Int)=nn
  simp[-dQ,cB,b9])
 rw[Sq.iK] at o
 exact⟨h,rs,ms,i',l',x9,zD,e,o⟩
noncomputable abbrev N7:GD:=(eF (eP fy (aa (eC (.int 1)) (aa (eF (eP nH (aa (eF (eP fy (aa (eF (aj 0)) (aa (eF (aj 2)) ao)))) (aa (eF (eP qJ (aa (eF (eP gW (aa (eC (.int 2)) (aa (eF (aj 1)) ao)))) (aa (eC (.int 1)) ao)))) ao)))) ao))))
theorem Gi {k n t:Int}{acc:List D}{z0 z1 z2 z3 z6 z7 z8 z9 jE:Option U}(h:0 < 2 * n - 1):aN [4,5] aD N7 [.int k] [z0,z1,z2,z3,some (.t (.int n)),some (.t (.int t)),z6,z7,z8,z9,jE] acc=some (acc++[.int (1+(k+t) % (2 * n - 1))],[z0,z1,z2,z3,some (.t (.int n)),some (.t (.int t)),z6,z7,z8,z9,jE]):=by
 have h':1 < 2 * n:=by omega
 simp[aN,bL,eu,h',aJ]
theorem Gj {n t k:Nat}(hn:0 < n):(1:Int)+((k:Int)+(t:Int)) % (2 * (n:Int) - 1)=((kJ n t (k+1):Nat):Int):=by
 have hb:((2 * n - 1:Nat):Int)=2 * (n:Int) - 1:=by omega
 show _=((1+(k+t) % (2 * n - 1):Nat):Int)
 rw[Int.natCast_add,Int.natCast_emod,hb,Int.natCast_add]
 rfl
theorem Gk {n t:Nat}{z0 z1 z2 z3 z6 z7 z8 z9 jE:Option U}(hn:0 < n):aN [4,5] aD N7 (ig 0 (2 * n - 1)) [z0,z1,z2,z3,some (.t (.int (n:Nat))),some (.t (.int (t:Nat))),z6,z7,z8,z9,jE] []=some ((List.range (2 * n - 1)).map fun k=>D.int (kJ n t (k+1):Nat),[z0,z1,z2,z3,some (.t (.int (n:Nat))),some (.t (.int (t:Nat))),z6,z7,z8,z9,jE]):=by
 obtain⟨acc,S',e,rfl,rfl⟩:=lW (cap:=[4,5]) (g:=N7) (ig 0 (2 * n - 1)) (fun j acc S=>acc=(List.range j).map (fun k=>D.int (kJ n t (k+1):Nat))/\S=[z0,z1,z2,z3,some (.t (.int (n:Nat))),some (.t (.int (t:Nat))),z6,z7,z8,z9,jE]) _ ⟨rfl,rfl⟩ (by
  rintro j d acc S hd ⟨rfl,rfl⟩
  obtain⟨hj,rfl⟩:=mS hd
  refine⟨.int (kJ n t (j+1):Nat),_,?_,?_,rfl⟩
  ·rw[<-Gj hn];exact Gi (by omega)
  ·rw[List.range_succ,List.map_append];rfl)
 rw[e,Sq.iK]
theorem Gm {n t:Nat}(hn:0 < n):[D.int 0]++(List.range (2 * n - 1)).map (fun k=>D.int (kJ n t (k+1):Nat))=iD (qN n t):=by
 unfold iD qN
 rw[List.map_map,show 2 * n=(2 * n - 1)+1 by omega,List.range_succ_eq_map,List.map_cons,List.map_map]
 rfl
section
variable {f:FM}{aT M:List D}{c l l1:Int}{i t n:Int}
theorem Gn {nn:Nat}(names:List D) (hn:aT.length=nn) (h0:0 < nn) (h7:nn<=7) (ht:f [.b (Sq.fd c i l),.t (.int (2 * (nn:Nat)))]=some (.t (.int t),[Sq.fd c (i+1) l1]))
  (ec:∀z6 z7 z8 z9 jE z1,aN [4,5] aD N7 (ig 0 (2 * nn - 1)) [some (.b (Sq.fd c (i+1) l1)),z1,some (.t (.tup aT)),some (.t (.tup M)),some (.t (.int (nn:Nat))),some (.t (.int t)),z6,z7,z8,z9,jE] []=some (names,[some (.b (Sq.fd c (i+1) l1)),z1,some (.t (.tup aT)),some (.t (.tup M)),some (.t (.int (nn:Nat))),some (.t (.int t)),z6,z7,z8,z9,jE])) (hnl:names.length=2 * nn - 1) (rest:GS):
  aK (NY f) (aK (NZ f) (aK (N3 f) (aK (N4 f) (aK (N5 f) (aK (N6 f) rest))))) [some (.b (Sq.fd c i l)),some (.t (.tup [.tup aT,.tup M])),none,none,none,none,none,none,none,none,none]=
   rest [some (.b (Sq.fd c (i+1) l1)),some (.t (.tup [.tup aT,.tup M])),some (.t (.tup aT)),some (.t (.tup M)),some (.t (.int (nn:Nat))),some (.t (.int t)),some (.m (.lst ([.int 0]++names))),some (.m (.lst (List.replicate (2 * nn) (.tup [])))),some (.m (.lst (List.replicate (2 * nn) (.bl false)))),none,none]:=by
 have e2:(2 * ((nn:Nat):Int))=((2 * nn:Nat):Int):=by push_cast;rfl
 have r1:=Sq.sC (.tup []) (2 * nn) (by omega)
 have r2:=Sq.sC (.bl false) (2 * nn) (by omega)
 have s0:NY f [some (.b (Sq.fd c i l)),some (.t (.tup [.tup aT,.tup M])),none,none,none,none,none,none,none,none,none]=some (.nx [some (.b (Sq.fd c i l)),some (.t (.tup [.tup aT,.tup M])),some (.t (.tup aT)),some (.t (.tup M)),none,none,none,none,none,none,none]):=by simp[NY]
 have s1:NZ f [some (.b (Sq.fd c i l)),some (.t (.tup [.tup aT,.tup M])),some (.t (.tup aT)),some (.t (.tup M)),none,none,none,none,none,none,none]=some (.nx [some (.b (Sq.fd c i l)),some (.t (.tup [.tup aT,.tup M])),some (.t (.tup aT)),some (.t (.tup M)),some (.t (.int (nn:Nat))),none,none,none,none,none,none]):=by simp[NZ,hn]
 have s2:N3 f [some (.b (Sq.fd c i l)),some (.t (.tup [.tup aT,.tup M])),some (.t (.tup aT)),some (.t (.tup M)),some (.t (.int (nn:Nat))),none,none,none,none,none,none]=some (.nx [some (.b (Sq.fd c (i+1) l1)),some (.t (.tup [.tup aT,.tup M])),some (.t (.tup aT)),some (.t (.tup M)),some (.t (.int (nn:Nat))),some (.t (.int t)),none,none,none,none,none]):=by
  generalize ((nn:Nat):Int)=n at ht
  simp[N3,ht]
 have g3:∀x,dh (aa (eF (eP qJ (aa (eF (eP gW (aa (eC (.int 2)) (aa (eF (aj 4)) ao)))) (aa (eC (.int 1)) ao)))) ao) [some (.b (Sq.fd c (i+1) l1)),x,some (.t (.tup aT)),some (.t (.tup M)),some (.t (.int (nn:Nat))),some (.t (.int t)),none,none,none,none,none]=some (ig 0 (2 * nn - 1),[some (.b (Sq.fd c (i+1) l1)),x,some (.t (.tup aT)),some (.t (.tup M)),some (.t (.int (nn:Nat))),some (.t (.int t)),none,none,none,none,none]):=fun x=>by
  have e:(aa (eF (eP qJ (aa (eF (eP gW (aa (eC (.int 2)) (aa (eF (aj 4)) ao)))) (aa (eC (.int 1)) ao)))) ao) [some (.b (Sq.fd c (i+1) l1)),x,some (.t (.tup aT)),some (.t (.tup M)),some (.t (.int (nn:Nat))),some (.t (.int t)),none,none,none,none,none]=some ([.int (2 * (nn:Nat) - 1)],[some (.b (Sq.fd c (i+1) l1)),x,some (.t (.tup aT)),some (.t (.tup M)),some (.t (.int (nn:Nat))),some (.t (.int t)),none,none,none,none,none]):=by
   generalize ((nn:Nat):Int)=n
   simp
  rw[Sq.jD e (by omega) (by omega)]
  congr 3
  omega
 have hz:(ig 0 (2 * nn - 1)).length<=100000:=by rw[Sq.iK];omega
 have hnm:1+names.length<=100000:=by omega
 have s3:N4 f [some (.b (Sq.fd c (i+1) l1)),some (.t (.tup [.tup aT,.tup M])),some (.t (.tup aT)),some (.t (.tup M)),some (.t (.int (nn:Nat))),some (.t (.int t)),none,none,none,none,none]=some (.nx [some (.b (Sq.fd c (i+1) l1)),some (.t (.tup [.tup aT,.tup M])),some (.t (.tup aT)),some (.t (.tup M)),some (.t (.int (nn:Nat))),some (.t (.int t)),some (.m (.lst ([.int 0]++names))),none,none,none,none]):=by
  simp[-oM,N4,g3,bT,hz,ec,hnm]
 rw[<-e2] at r1 r2
 have s4:N5 f [some (.b (Sq.fd c (i+1) l1)),some (.t (.tup [.tup aT,.tup M])),some (.t (.tup aT)),some (.t (.tup M)),some (.t (.int (nn:Nat))),some (.t (.int t)),some (.m (.lst ([.int 0]++names))),none,none,none,none]=some (.nx [some (.b (Sq.fd c (i+1) l1)),some (.t (.tup [.tup aT,.tup M])),some (.t (.tup aT)),some (.t (.tup M)),some (.t (.int (nn:Nat))),some (.t (.int t)),some (.m (.lst ([.int 0]++names))),some (.m (.lst (List.replicate (2 * nn) (.tup [])))),none,none,none]):=by
  generalize List.replicate (2 * nn) (D.tup [])=R at r1 ⊢
  generalize ((nn:Nat):Int)=n at r1
  simp[-vI,N5,r1]
 have s5:N6 f [some (.b (Sq.fd c (i+1) l1)),some (.t (.tup [.tup aT,.tup M])),some (.t (.tup aT)),some (.t (.tup M)),some (.t (.int (nn:Nat))),some (.t (.int t)),some (.m (.lst ([.int 0]++names))),some (.m (.lst (List.replicate (2 * nn) (.tup [])))),none,none,none]=some (.nx [some (.b (Sq.fd c (i+1) l1)),some (.t (.tup [.tup aT,.tup M])),some (.t (.tup aT)),some (.t (.tup M)),some (.t (.int (nn:Nat))),some (.t (.int t)),some (.m (.lst ([.int 0]++names))),some (.m (.lst (List.replicate (2 * nn) (.tup [])))),some (.m (.lst (List.replicate (2 * nn) (.bl false)))),none,none]):=by
  generalize List.replicate (2 * nn) (D.tup [])=R at r1 ⊢
  generalize List.replicate (2 * nn) (D.bl false)=R2 at r2 ⊢
  generalize ((nn:Nat):Int)=n at r2
  simp[-vI,N6,r2]
 rw[Sq.bq s0,Sq.bq s1,Sq.bq s2,Sq.bq s3,Sq.bq s4,Sq.bq s5]
end
noncomputable def toN (m W:Nat) (h:Nat->Nat->Nat):List (List Int):=(List.range m).map fun p=>(List.range W).map fun c=>((h p c:Nat):Int)
theorem oY (m W:Nat) (h:Nat->Nat->Nat):(toN m W h).length=m:=by unfold toN;rw[List.length_map,List.length_range]
theorem MP (m W:Nat) (h:Nat->Nat->Nat):(toN m W h).map Sq.bC=br m W h:=by
 unfold toN br
 rw[List.map_map]
 refine List.map_congr_left fun p _=>?_
 show D.tup (((List.range W).map fun c=>((h p c:Nat):Int)).map D.int)=_
 rw[List.map_map]
 rfl
theorem vV {m W:Nat}{h:Nat->Nat->Nat}{p c:Nat}(hp:p < m) (hc:c < W):bR (toN m W h) p c=h p c:=by
 unfold bR rw' toN
 rw[List.getD_eq_getElem?_getD,List.getD_eq_getElem?_getD,List.getElem?_map,List.getElem?_range hp]
 simp only[Option.map_some,Option.getD_some]
 rw[List.getElem?_map,List.getElem?_range hc]
 simp
theorem DZ {m W:Nat}{h:Nat->Nat->Nat}(m0:0 < m) (m9:m<=900) (hh:∀p c,p < m->c < W->h p c < m):kF W (toN m W h):=by
 refine⟨by rw[oY];exact m0,by rw[oY];exact m9,fun r hr=>?_⟩
 obtain⟨p,hp,rfl⟩:=List.mem_map.mp hr
 refine⟨by rw[List.length_map,List.length_range],fun v hv=>?_⟩
 obtain⟨c,hc,rfl⟩:=List.mem_map.mp hv
 have:=hh p c (List.mem_range.mp hp) (List.mem_range.mp hc)
 rw[oY]
 omega
theorem xY {m:Nat}{w:Nat->D}{s:Nat}(h:s < m):bW ((List.range m).map w) s=w s:=by
 unfold bW
 rw[List.getD_eq_getElem?_getD,List.getElem?_map,List.getElem?_range h]
 rfl
theorem JP {W : Nat} {N : List (List Int)} {M : List D} {c l i : Int} (mo : Sq.fU W N) (hW : W <= 44) (hM : M.length = N.length) (hi : 0 <= i) (hi2 : i < 500) :
    ∃h w i' l',Ge [.b (Sq.fd c i l),.t (.tup [nD N,.tup M])]=some (.t (.tup [.tup (br (2 * N.length) W h),.tup ((List.range (2 * N.length)).map w)]),[Sq.fd c i' l'])/\(∀p c,p < 2 * N.length->c < W->h p c < 2 * N.length)/\(∀p,p < 2 * N.length->w p∈M)/\
      ∀cs,Vd W cs->w (led (bR (toN (2 * N.length) W h)) cs 0)=bW M (led (bR N) cs 0):=by
  have few:=mo.few
  have pos:=mo.pos
  obtain⟨t0,l1,ht,t1,t2⟩:=Sq.i9 c l (i:=i) (m:=2 * (N.length:Nat)) hi (by omega) (by omega) (by omega)
  obtain⟨t,rfl⟩:∃t:Nat,t0=t:=⟨t0.toNat,by omega⟩
  obtain⟨h,rs,ms,i',l',x9,zD,e,o⟩:=Gh (c:=c) (l:=l1) (i:=i+1) (t:=t) (z1:=some (.t (.tup [nD N,.tup M]))) (z5:=some (.t (.int (t:Nat)))) mo hW hM (by omega) (by omega)
  have at':∀p,p < 2 * N.length->∃k,k < 2 * N.length/\kJ N.length t k=p/\rs[p]? =some (.tup (fV W (h p)))/\ms[p]? =some (bW M (k % N.length))/\∀c,c < W->∃i,i < 2 * N.length/\h p c=kJ N.length t i/\i % N.length=bR N (k % N.length) c:=fun p hp=>by
    obtain⟨k,hk,rfl⟩:=MI (t:=t) pos hp
    obtain⟨a,b,d⟩:=o.row k hk
    exact⟨k,hk,rfl,a,b,d⟩
  have er:rs=br (2 * N.length) W h:=by
    apply List.ext_getElem?
    intro p
    unfold br
    rw[List.getElem?_map]
    by_cases hp:p < 2 * N.length
    . rw[List.getElem?_range hp]
      obtain⟨_,_,_,a,_⟩:=at' p hp
      exact a
    . rw[List.getElem?_eq_none (by rw[o.rl];omega),List.getElem?_eq_none (by rw[List.length_range];omega)];rfl
  have em:ms=(List.range (2 * N.length)).map fun p=>bW ms p:=by
    apply List.ext_getElem?
    intro p
    rw[List.getElem?_map]
    by_cases hp:p < 2 * N.length
    . rw[List.getElem?_range hp,jT (by rw[o.ml];exact hp)];rfl
    . rw[List.getElem?_eq_none (by rw[o.ml];omega),List.getElem?_eq_none (by rw[List.length_range];omega)];rfl
  have TM:∀{p d},ms[p]? =some d->bW ms p=d:=fun {p d} z=>by
    have:=jT (List.getElem?_eq_some_iff.mp z).1
    rw[z] at this
    exact(Option.some.inj this).symm
  have hlt:∀p c,p < 2 * N.length->c < W->h p c < 2 * N.length:=fun p c hp hc=>by
    obtain⟨k,hk,_,_,_,d⟩:=at' p hp
    obtain⟨i,hi,e,_⟩:=d c hc
    rw[e];exact xX pos
  have way:∀(cs:List Nat) (k:Nat),Vd W cs->k < 2 * N.length->∃j,j < 2 * N.length/\led (bR (toN (2 * N.length) W h)) cs (kJ N.length t k)=kJ N.length t j/\j % N.length=led (bR N) cs (k % N.length):=by
    intro cs
    induction cs with
    | nil=>intro k _ hk;exact⟨k,hk,rfl,rfl⟩
    | cons c cs ih=>
      intro k hc hk
      have hcc:=hc c List.mem_cons_self
      obtain⟨i,hi,e1,e2⟩:=(o.row k hk).2.2 c hcc
      obtain⟨j,hj,a,b⟩:=ih i (fun d hd=>hc d (List.mem_cons_of_mem _ hd)) hi
      refine⟨j,hj,?_,?_⟩
      . show led (bR (toN (2 * N.length) W h)) cs (bR (toN (2 * N.length) W h) (kJ N.length t k) c)=_
        rw[vV (xX pos) hcc,e1]
        exact a
      . rw[b,e2];rfl
  refine⟨h,fun p=>bW ms p,i',l',?_,hlt,fun p hp=>?_,fun cs hc=>?_⟩
  . have nl:=Gm (n:=N.length) (t:=t) pos
    have hd:=Gn (f:=Sq.cu) (aT:=N.map Sq.bC) (M:=M) (c:=c) (l:=l) (l1:=l1) (i:=i) (t:=(t:Nat)) (nn:=N.length) ((List.range (2 * N.length - 1)).map fun k=>D.int (kJ N.length t (k+1):Nat)) (List.length_map ..) pos few ht (fun z6 z7 z8 z9 jE z1=>Gk pos) (by rw[List.length_map,List.length_range]) (aK (MJ Sq.cu) (MK Sq.cu))
    rw[nl] at hd
    have g:dh (aa (eF (eP gW (aa (eC (.int 2)) (aa (eF (aj 4)) ao)))) ao) [some (.b (Sq.fd c (i+1) l1)),some (.t (.tup [nD N,.tup M])),some (.t (nD N)),some (.t (.tup M)),some (.t (.int (N.length:Nat))),some (.t (.int (t:Nat))),some (.m (.lst (iD (qN N.length t)))),some (.m (.lst (List.replicate (2 * N.length) (.tup [])))),some (.m (.lst (List.replicate (2 * N.length) (.bl false)))),none,none]=some (ig 0 (2 * N.length),[some (.b (Sq.fd c (i+1) l1)),some (.t (.tup [nD N,.tup M])),some (.t (nD N)),some (.t (.tup M)),some (.t (.int (N.length:Nat))),some (.t (.int (t:Nat))),some (.m (.lst (iD (qN N.length t)))),some (.m (.lst (List.replicate (2 * N.length) (.tup [])))),some (.m (.lst (List.replicate (2 * N.length) (.bl false)))),none,none]):=by
      have e:(aa (eF (eP gW (aa (eC (.int 2)) (aa (eF (aj 4)) ao)))) ao) [some (.b (Sq.fd c (i+1) l1)),some (.t (.tup [nD N,.tup M])),some (.t (nD N)),some (.t (.tup M)),some (.t (.int (N.length:Nat))),some (.t (.int (t:Nat))),some (.m (.lst (iD (qN N.length t)))),some (.m (.lst (List.replicate (2 * N.length) (.tup [])))),some (.m (.lst (List.replicate (2 * N.length) (.bl false)))),none,none]=some ([.int (2 * (N.length:Nat))],[some (.b (Sq.fd c (i+1) l1)),some (.t (.tup [nD N,.tup M])),some (.t (nD N)),some (.t (.tup M)),some (.t (.int (N.length:Nat))),some (.t (.int (t:Nat))),some (.m (.lst (iD (qN N.length t)))),some (.m (.lst (List.replicate (2 * N.length) (.tup [])))),some (.m (.lst (List.replicate (2 * N.length) (.bl false)))),none,none]):=by
        generalize ((N.length:Nat):Int)=n
        generalize List.replicate (2 * N.length) (D.tup [])=R1
        generalize List.replicate (2 * N.length) (D.bl false)=R2
        simp
      rw[Sq.jD e (by omega) (by omega)]
      congr 3
    have s6:MJ Sq.cu [some (.b (Sq.fd c (i+1) l1)),some (.t (.tup [nD N,.tup M])),some (.t (nD N)),some (.t (.tup M)),some (.t (.int (N.length:Nat))),some (.t (.int (t:Nat))),some (.m (.lst (iD (qN N.length t)))),some (.m (.lst (List.replicate (2 * N.length) (.tup [])))),some (.m (.lst (List.replicate (2 * N.length) (.bl false)))),none,none]=some (.nx [some (.b (Sq.fd c i' l')),some (.t (.tup [nD N,.tup M])),some (.t (nD N)),some (.t (.tup M)),some (.t (.int (N.length:Nat))),some (.t (.int (t:Nat))),some (.m (.lst (iD (qN N.length t)))),some (.m (.lst rs)),some (.m (.lst ms)),x9,zD]):=by
      unfold MJ
      rw[pM,g]
      exact e
    have s7:MK Sq.cu [some (.b (Sq.fd c i' l')),some (.t (.tup [nD N,.tup M])),some (.t (nD N)),some (.t (.tup M)),some (.t (.int (N.length:Nat))),some (.t (.int (t:Nat))),some (.m (.lst (iD (qN N.length t)))),some (.m (.lst rs)),some (.m (.lst ms)),x9,zD]=some (.rt (.t (.tup [.tup rs,.tup ms])) [some (.b (Sq.fd c i' l')),some (.t (.tup [nD N,.tup M])),some (.t (nD N)),some (.t (.tup M)),some (.t (.int (N.length:Nat))),some (.t (.int (t:Nat))),some (.m (.lst (iD (qN N.length t)))),some (.t (.lst rs)),some (.t (.lst ms)),x9,zD]):=by
      simp[MK]
    rw[<-er,<-em]
    have all:cF Sq.cu [some (.b (Sq.fd c i l)),some (.t (.tup [nD N,.tup M])),none,none,none,none,none,none,none,none,none]=some (.rt (.t (.tup [.tup rs,.tup ms])) [some (.b (Sq.fd c i' l')),some (.t (.tup [nD N,.tup M])),some (.t (nD N)),some (.t (.tup M)),some (.t (.int (N.length:Nat))),some (.t (.int (t:Nat))),some (.m (.lst (iD (qN N.length t)))),some (.t (.lst rs)),some (.t (.lst ms)),x9,zD]):=by
      rw[ML]
      refine(show _=_ from hd).trans ?_
      show aK (MJ Sq.cu) (MK Sq.cu) [some (.b (Sq.fd c (i+1) l1)),some (.t (.tup [nD N,.tup M])),some (.t (nD N)),some (.t (.tup M)),some (.t (.int (N.length:Nat))),some (.t (.int (t:Nat))),some (.m (.lst (iD (qN N.length t)))),some (.m (.lst (List.replicate (2 * N.length) (.tup [])))),some (.m (.lst (List.replicate (2 * N.length) (.bl false)))),none,none]=_
      rw[Sq.bq s6,s7]
    show(cF Sq.cu [some (.b (Sq.fd c i l)),some (.t (.tup [nD N,.tup M])),none,none,none,none,none,none,none,none,none]).bind _=_
    rw[all]
    rfl
  . obtain⟨k,hk,_,_,b,_⟩:=at' p hp
    show bW ms p∈M
    rw[TM b]
    exact iM (by rw[hM];exact Nat.mod_lt _ pos)
  . obtain⟨j,hj,a,b⟩:=way cs 0 hc (by omega)
    rw[Nat.zero_mod] at b
    have a:led (bR (toN (2 * N.length) W h)) cs 0=kJ N.length t j:=a
    show bW ms (led (bR (toN (2 * N.length) W h)) cs 0)=_
    rw[a,TM (o.row j hj).2.1,b]
theorem sN {c k:Nat}:∀{l:List D},(∀d∈l,Good c k d)->uL l/\C5 l<=(c+2) * l.length/\fE l<=k
  | [],_=>⟨True.intro,Nat.zero_le _,Nat.zero_le _⟩
  | d :: l, h => by
    obtain⟨a,b,e⟩:=sN (l:=l) fun x hx=>h x (List.mem_cons_of_mem _ hx)
    have g:=h d List.mem_cons_self
    have gw:=g.w
    have gd:=g.dep
    refine⟨⟨g.C7,a⟩,?_,?_⟩
    . show wD d+2+C5 l<=(c+2) * (l.length+1)
      rw[Nat.mul_add,Nat.mul_one];omega
    . show max (ji d) (fE l)<=k;omega
theorem sO {c k m:Nat}{l:List D}(h:∀d∈l,Good c k d) (hl:l.length<=m):Good ((c+2) * m+4) (k+1) (.tup l):=by
 obtain⟨a,b,e⟩:=sN h
 have:=Nat.mul_le_mul_left (c+2) hl
 exact⟨a,by show C5 l+4<=_;omega,by show fE l+1<=_;omega⟩
theorem D0 {c k m:Nat}{l:List D}(h:∀d∈l,Good c k d) (hl:l.length<=m):Good ((c+2) * m+4) (k+1) (.lst l):=by
 obtain⟨a,b,e⟩:=sN h
 have:=Nat.mul_le_mul_left (c+2) hl
 exact⟨a,by show C5 l+4<=_;omega,by show fE l+1<=_;omega⟩
theorem pY {m W:Nat}{h:Nat->Nat->Nat}{w:Nat->D}(hm:m<=14) (hW:W<=44) (hh:∀p c,p < m->c < W->h p c < m) (hw:∀p,p < m->w p∈lG):Good 60000 3 (.tup [.tup (br m W h),.tup ((List.range m).map w)]):=by
 have g1:Good 30000 2 (.tup (br m W h)):=(sO (c:=1852) (k:=1) (m:=14) (fun d hd=>by
  obtain⟨p,hp,rfl⟩:=List.mem_map.mp hd
  refine(sO (c:=40) (k:=0) (m:=44) (fun x hx=>?_) (by rw[fJ];exact hW)).mono (by decide) (by decide)
  obtain⟨c,hc,rfl⟩:=List.mem_map.mp hx
  have:=hh p c (List.mem_range.mp hp) (List.mem_range.mp hc)
  exact⟨(by show(((h p c:Nat):Int)).natAbs < 10 ^ 30;omega),by show 40<=40;omega,Nat.le_refl _⟩) (by rw[Bx];exact hm)).mono (by decide) (by decide)
 have g2:Good 29000 2 (.tup ((List.range m).map w)):=(sO (c:=42) (k:=0) (m:=14) (fun d hd=>by
  obtain⟨p,hp,rfl⟩:=List.mem_map.mp hd
  obtain⟨a,b,e⟩:=Ax (hw p (List.mem_range.mp hp))
  exact⟨a,b,by omega⟩) (by rw[List.length_map,List.length_range];exact hm)).mono (by decide) (by decide)
 refine⟨⟨g1.C7,g2.C7,True.intro⟩,?_,?_⟩
 ·have:=g1.w;have:=g2.w
  show wD (.tup (br m W h))+2+(wD (.tup ((List.range m).map w))+2+0)+4<=_
  omega
 ·have:=g1.dep;have:=g2.dep
  show max (ji (.tup (br m W h))) (max (ji (.tup ((List.range m).map w))) 0)+1<=_
  omega
theorem vW {W n:Nat}{nx:Nat->Nat->Nat}{wd:Nat->D}{N:List (List Int)}{M:List D}{td:D}(C:Canon W n nx wd) (mo:kF W N) (hW:W < 1000) (hM:M.length=N.length) (hw:∀x∈M,Wd x) (hb:∀cs,Vd W cs->bW M (led (bR N) cs 0)=wd (led nx cs 0)):
  NX [.t td,.t (.tup [.tup (N.map Sq.bC),.tup M])]=some (.t (.tup [.tup (br n W nx),.tup ((List.range n).map wd)]),[]):=by
 obtain⟨n',nx',pT,gs,e,C',b',_,_⟩:=DS (nt:=.tup (N.map Sq.bC)) (wt:=.tup M) (md:=.cH) mo hW (.inl rfl) hM (.inl rfl) hw (.inl rfl)
 obtain⟨en,q⟩:=canon_one C C' fun cs v=>by rw[b' cs v,hb cs v]
 subst en
 have e1:br n W nx=br n W nx':=xW fun s c hs hc=>(q s hs).2 c hc
 have e2:(List.range n).map wd=(List.range n).map pT:=List.map_congr_left fun s hs=>(q s (List.mem_range.mp hs)).1
 rw[e1,e2]
 exact QS e
noncomputable def vX (aR:FM) (aU:FM) (aI:FM) (aB:FM) (aP:FM) (aM:FM):GS:=
 (wX (qB (eF (eP LC (aa (eF (eP kE (aa (eF (bF aM (bQ (eF (aj 1)) (bQ (eF (aj 8)) cQ)))) ao))) (aa (eF (eP kE (aa (eF (aj 6)) ao))) ao))))) (gf (eT (eC (.bl false)))) mZ)
noncomputable def sP (aR:FM) (aU:FM) (aI:FM) (aB:FM) (aP:FM) (aM:FM):GS:=
 (aK (aZ 3 (bF aU (gX (aj 0) (bQ (eF (eP fy (aa (eC (.int 1)) (aa (eF (aj 2)) ao)))) cQ))))
 (aK (aZ 4 (bF aI (gX (aj 3) (bQ (eF (aj 1)) (bQ (eF (eP fY (aa (eC (.bl true)) (aa (eC (.bl false)) ao)))) cQ)))))
 (aK (aZ 5 (bF aB (gX (aj 3) (bQ (eF (aj 4)) cQ))))
 (aK (aZ 6 (eP Ij (aa (eF (bF aP (bQ (aQ 4 (eC (.int 0))) (bQ (aQ 4 (eC (.int 1))) cQ)))) (aa (eC (.int 0)) ao))))
 (aK (aZ 7 (eP kE (aa (eF (eP fY (aa (eF (aj 4)) (aa (eF (aj 5)) ao)))) ao)))
 (aK (iA (bName 8) (cC (eF (eP fY (aa (eF (aj 4)) (aa (eF (aj 5)) (aa (eF (aj 6)) ao)))))) (vX aR aU aI aB aP aM))
 (wX (qB (eF (eP LC (aa (eF (eP kE (aa (eF (eP fY (aa (eF (aj 4)) (aa (eF (aj 5)) ao)))) ao))) (aa (eF (aj 7)) ao))))) (gf (eT (eC (.bl false)))) mZ)))))))
noncomputable def xZ (aR:FM) (aU:FM) (aI:FM) (aB:FM) (aP:FM) (aM:FM):GS:=
 (aK (aZ 1 (bF aR (gX (bF aU (gX (aj 0) (bQ (eC (.int 0)) cQ))) cQ)))
 (aK (iA (bName 2) (dh (aa (eC (.int 4)) ao)) (sP aR aU aI aB aP aM))
 (gf (eT (eC (.bl true))))))
noncomputable def QV (aR:FM) (aU:FM) (aI:FM) (aB:FM) (aP:FM) (aM:FM):GS:=
 (aZ 3 (bF aU (gX (aj 0) (bQ (eF (eP fy (aa (eC (.int 1)) (aa (eF (aj 2)) ao)))) cQ))))
noncomputable def QW (aR:FM) (aU:FM) (aI:FM) (aB:FM) (aP:FM) (aM:FM):GS:=
 (aZ 4 (bF aI (gX (aj 3) (bQ (eF (aj 1)) (bQ (eF (eP fY (aa (eC (.bl true)) (aa (eC (.bl false)) ao)))) cQ)))))
noncomputable def QX (aR:FM) (aU:FM) (aI:FM) (aB:FM) (aP:FM) (aM:FM):GS:=
 (aZ 5 (bF aB (gX (aj 3) (bQ (eF (aj 4)) cQ))))
noncomputable def QY (aR:FM) (aU:FM) (aI:FM) (aB:FM) (aP:FM) (aM:FM):GS:=
 (aZ 6 (eP Ij (aa (eF (bF aP (bQ (aQ 4 (eC (.int 0))) (bQ (aQ 4 (eC (.int 1))) cQ)))) (aa (eC (.int 0)) ao))))
noncomputable def QZ (aR:FM) (aU:FM) (aI:FM) (aB:FM) (aP:FM) (aM:FM):GS:=
 (aZ 7 (eP kE (aa (eF (eP fY (aa (eF (aj 4)) (aa (eF (aj 5)) ao)))) ao)))
noncomputable def Q0 (aR:FM) (aU:FM) (aI:FM) (aB:FM) (aP:FM) (aM:FM):GS:=
 (iA (bName 8) (cC (eF (eP fY (aa (eF (aj 4)) (aa (eF (aj 5)) (aa (eF (aj 6)) ao)))))) (vX aR aU aI aB aP aM))
noncomputable def Q2 (aR:FM) (aU:FM) (aI:FM) (aB:FM) (aP:FM) (aM:FM):GS:=
 (wX (qB (eF (eP LC (aa (eF (eP kE (aa (eF (eP fY (aa (eF (aj 4)) (aa (eF (aj 5)) ao)))) ao))) (aa (eF (aj 7)) ao))))) (gf (eT (eC (.bl false)))) mZ)
theorem lw_eq (aR:FM) (aU:FM) (aI:FM) (aB:FM) (aP:FM) (aM:FM):sP aR aU aI aB aP aM=aK (QV aR aU aI aB aP aM) (aK (QW aR aU aI aB aP aM) (aK (QX aR aU aI aB aP aM) (aK (QY aR aU aI aB aP aM) (aK (QZ aR aU aI aB aP aM) (aK (Q0 aR aU aI aB aP aM) (Q2 aR aU aI aB aP aM)))))):=rfl
section
variable {f1 f2 f3 f4 f5 f6:FM}{ns:List Int}{td j0 j1 o due g:D}{k c l i1 l1 i2 l2:Int}{x3 x4 x5 x6 x7 x8 y3:Option U}
theorem vY {one:D}{z3 z4 z5 z7:Option U}(e:f6 [.t td,.t one]=some (.t due,[])) (ok:yE due):
  vX f1 f2 f3 f4 f5 f6 [some (.s ns),some (.t td),some (.t (.int k)),z3,z4,z5,some (.t due),z7,some (.t one)]=some (.nx [some (.s ns),some (.t td),some (.t (.int k)),z3,z4,z5,some (.t due),z7,some (.t one)]):=by
 have r:=sF ok
 have q:tV (.str (lH due)) (.str (lH due))=true:=rZ _
 have d0:ji (.str (lH due))<=40:=Nat.zero_le _
 simp[vX,e,r,q,d0]
theorem Gp (h3:gZ x3=false) (h4:gZ x4=false) (h5:gZ x5=false) (h6:gZ x6=false) (h7:gZ x7=false) (h8:gZ x8=false)
  (e1:f2 [.s ns,.t (.int (1+k))]=some (.m (Sq.fd c 0 l),[])) (e2:f3 [.b (Sq.fd c 0 l),.t td,.t (.lst [.bl true,.bl false])]=some (.t (.tup [j0,j1]),[Sq.fd c i1 l1]))
  (e3:f4 [.b (Sq.fd c i1 l1),.t (.tup [j0,j1])]=some (.t o,[Sq.fd c i2 l2])) (e4:f5 [.t j0,.t j1]=some (.t (.tup [due,g]),[]))
  (e5:f6 [.t td,.t (.tup [j0,j1])]=some (.t due,[])) (e6:f6 [.t td,.t o]=some (.t due,[])) (e7:f6 [.t td,.t due]=some (.t due,[])) (Q3:yE (.lst [.tup [j0,j1],o])) (Q4:yE due):
  ∃y3 y4 y5 y6 y7 y8,gZ y3=false/\gZ y4=false/\gZ y5=false/\gZ y6=false/\gZ y7=false/\gZ y8=false/\
  sP f1 f2 f3 f4 f5 f6 [some (.s ns),some (.t td),some (.t (.int k)),x3,x4,x5,x6,x7,x8]=some (.nx [some (.s ns),some (.t td),some (.t (.int k)),y3,y4,y5,y6,y7,y8]):=by
 have r:=sF Q3
 refine⟨some (.m (Sq.fd c i2 l2)),some (.t (.tup [j0,j1])),some (.t o),some (.t due),some (.t (.str (lH (.lst [.tup [j0,j1],o])))),some (.t due),rfl,rfl,rfl,rfl,rfl,rfl,?_⟩
 have q:tV (.str (lH (.lst [.tup [j0,j1],o]))) (.str (lH (.lst [.tup [j0,j1],o])))=true:=rZ _
 have d0:ji (.str (lH (.lst [.tup [j0,j1],o])))<=40:=Nat.zero_le _
 have s0:QV f1 f2 f3 f4 f5 f6 [some (.s ns),some (.t td),some (.t (.int k)),x3,x4,x5,x6,x7,x8]=some (.nx [some (.s ns),some (.t td),some (.t (.int k)),some (.m (Sq.fd c 0 l)),x4,x5,x6,x7,x8]):=by simp[-dQ,cB,QV,e1,h3]
 have s1:QW f1 f2 f3 f4 f5 f6 [some (.s ns),some (.t td),some (.t (.int k)),some (.m (Sq.fd c 0 l)),x4,x5,x6,x7,x8]=some (.nx [some (.s ns),some (.t td),some (.t (.int k)),some (.m (Sq.fd c i1 l1)),some (.t (.tup [j0,j1])),x5,x6,x7,x8]):=by simp[-dQ,cB,QW,e2,h4]
 have s2:QX f1 f2 f3 f4 f5 f6 [some (.s ns),some (.t td),some (.t (.int k)),some (.m (Sq.fd c i1 l1)),some (.t (.tup [j0,j1])),x5,x6,x7,x8]=some (.nx [some (.s ns),some (.t td),some (.t (.int k)),some (.m (Sq.fd c i2 l2)),some (.t (.tup [j0,j1])),some (.t o),x6,x7,x8]):=by simp[-dQ,cB,QX,e3,h5]
 have s3:QY f1 f2 f3 f4 f5 f6 [some (.s ns),some (.t td),some (.t (.int k)),some (.m (Sq.fd c i2 l2)),some (.t (.tup [j0,j1])),some (.t o),x6,x7,x8]=some (.nx [some (.s ns),some (.t td),some (.t (.int k)),some (.m (Sq.fd c i2 l2)),some (.t (.tup [j0,j1])),some (.t o),some (.t due),x7,x8]):=by simp[-dQ,cB,QY,e4,at2,h6]
 have s4:QZ f1 f2 f3 f4 f5 f6 [some (.s ns),some (.t td),some (.t (.int k)),some (.m (Sq.fd c i2 l2)),some (.t (.tup [j0,j1])),some (.t o),some (.t due),x7,x8]=some (.nx [some (.s ns),some (.t td),some (.t (.int k)),some (.m (Sq.fd c i2 l2)),some (.t (.tup [j0,j1])),some (.t o),some (.t due),some (.t (.str (lH (.lst [.tup [j0,j1],o])))),x8]):=by simp[-dQ,cB,QZ,r,h7]
 have s5:Q0 f1 f2 f3 f4 f5 f6 [some (.s ns),some (.t td),some (.t (.int k)),some (.m (Sq.fd c i2 l2)),some (.t (.tup [j0,j1])),some (.t o),some (.t due),some (.t (.str (lH (.lst [.tup [j0,j1],o])))),x8]=some (.nx [some (.s ns),some (.t td),some (.t (.int k)),some (.m (Sq.fd c i2 l2)),some (.t (.tup [j0,j1])),some (.t o),some (.t due),some (.t (.str (lH (.lst [.tup [j0,j1],o])))),some (.t due)]):=by
  have b:∀(d:D) (x:Option U),gZ x=false->bName 8 d [some (.s ns),some (.t td),some (.t (.int k)),some (.m (Sq.fd c i2 l2)),some (.t (.tup [j0,j1])),some (.t o),some (.t due),some (.t (.str (lH (.lst [.tup [j0,j1],o])))),x]=some [some (.s ns),some (.t td),some (.t (.int k)),some (.m (Sq.fd c i2 l2)),some (.t (.tup [j0,j1])),some (.t o),some (.t due),some (.t (.str (lH (.lst [.tup [j0,j1],o])))),some (.t d)]:=fun d x hx=>by simp[-dQ,cB,hx]
  have ei:cC (eF (eP fY (aa (eF (aj 4)) (aa (eF (aj 5)) (aa (eF (aj 6)) ao))))) [some (.s ns),some (.t td),some (.t (.int k)),some (.m (Sq.fd c i2 l2)),some (.t (.tup [j0,j1])),some (.t o),some (.t due),some (.t (.str (lH (.lst [.tup [j0,j1],o])))),x8]=some ([.tup [j0,j1],o,due],[some (.s ns),some (.t td),some (.t (.int k)),some (.m (Sq.fd c i2 l2)),some (.t (.tup [j0,j1])),some (.t o),some (.t due),some (.t (.str (lH (.lst [.tup [j0,j1],o])))),x8]):=by simp[cZ]
  unfold Q0
  rw[pM,ei,Option.bind_some]
  show loop _ _ [.tup [j0,j1],o,due] _=_
  rw[iS,b _ _ h8,Option.bind_some,vY e5 Q4,Option.bind_some]
  show loop _ _ [o,due] _=_
  rw[iS,b _ _ rfl,Option.bind_some,vY e6 Q4,Option.bind_some]
  show loop _ _ [due] _=_
  rw[iS,b _ _ rfl,Option.bind_some,vY e7 Q4,Option.bind_some]
  rfl
 have s6:Q2 f1 f2 f3 f4 f5 f6 [some (.s ns),some (.t td),some (.t (.int k)),some (.m (Sq.fd c i2 l2)),some (.t (.tup [j0,j1])),some (.t o),some (.t due),some (.t (.str (lH (.lst [.tup [j0,j1],o])))),some (.t due)]=some (.nx [some (.s ns),some (.t td),some (.t (.int k)),some (.m (Sq.fd c i2 l2)),some (.t (.tup [j0,j1])),some (.t o),some (.t due),some (.t (.str (lH (.lst [.tup [j0,j1],o])))),some (.t due)]):=by simp[Q2,r,q,d0]
 rw[lw_eq,Sq.bq s0,Sq.bq s1,Sq.bq s2,Sq.bq s3,Sq.bq s4,Sq.bq s5,s6]
end
noncomputable abbrev MQ (g:FM->FM->FM->FM->FM->FM->GS):GS:=g Sq.Bp Sq.qC Sq.Ar Ge rD NX
theorem JQ {ns : List Int} {T : List (Str × Int)} {j : Nat} {x3 x4 x5 x6 x7 x8 : Option U} (hT : T.length <= 4) (hp : ∀ p ∈ T, kU p) (hns : ns.length < 1000) (hj : j < 4) (hh : (iT T).length <= 44) (h3 : gZ x3 = false) (h4 : gZ x4 = false) (h5 : gZ x5 = false) (h6 : gZ x6 = false) (h7 : gZ x7 = false) (h8 : gZ x8 = false) :
    ∃y3 y4 y5 y6 y7 y8,gZ y3=false/\gZ y4=false/\gZ y5=false/\gZ y6=false/\gZ y7=false/\gZ y8=false/\MQ sP [some (.s ns),some (.t (d7 T)),some (.t (.int (j:Nat))),x3,x4,x5,x6,x7,x8]=some (.nx [some (.s ns),some (.t (d7 T)),some (.t (.int (j:Nat))),y3,y4,y5,y6,y7,y8]):=by
  obtain⟨c,l,e1⟩:=Sq.Aq (ns:=ns) (k:=1+j) (by omega) (by omega) hns
  obtain⟨N,M,i1,l1,e2,mo,hM,hm,q1,q2⟩:=Sq.Dl c l (i:=0) (T:=T) (menu:=[.bl true,.bl false]) (by omega) (by omega) hT hp (by decide) (by decide)
  have few:=mo.few
  have pos:=mo.pos
  have hw:∀x∈M,x∈lG:=fun x hx=>by
    have:=hm x hx
    simp only[List.mem_cons,List.not_mem_nil,or_false] at this
    rcases this with rfl | rfl <;> simp[lG]
  have IX:∀x∈M,Wd x:=fun x hx=>Mn (hw x hx)
  obtain⟨h,w,i2,l2,e3,hlt,TN,bo⟩:=JP (c:=c) (l:=l1) (i:=i1) mo hh hM q1 (by omega)
  obtain⟨n',nx',pT,gs,e4,C,bd,W0,wm⟩:=BE mo (by omega) hM hw
  have Vg:((List.range n').map pT).length=(toN n' (iT T).length nx').length:=by rw[List.length_map,List.length_range,oY]
  have e5:=vW (td:=d7 T) C (kF.of mo) (by omega) hM IX fun cs v=>(bd cs v).symm
  have e6 := vW (td := d7 T) (N := toN (2 * N.length) (iT T).length h) (M := (List.range (2 * N.length)).map w) C (DZ (by omega) (by omega) hlt) (by omega) (by rw [List.length_map, List.length_range, oY]) (fun x hx => by
    obtain⟨p,hp,rfl⟩:=List.mem_map.mp hx
    exact IX _ (TN p (List.mem_range.mp hp))) fun cs v=>by
    have lt:led (bR (toN (2 * N.length) (iT T).length h)) cs 0 < 2 * N.length:=by
      have go:∀(cs:List Nat) (s:Nat),Vd (iT T).length cs->s < 2 * N.length->led (bR (toN (2 * N.length) (iT T).length h)) cs s < 2 * N.length:=by
        intro cs
        induction cs with
        | nil=>intro s _ hs;exact hs
        | cons d cs ih=>
          intro s hc hs
          refine ih _ (fun x hx=>hc x (List.mem_cons_of_mem _ hx)) ?_
          rw[vV hs (hc d List.mem_cons_self)]
          exact hlt s d hs (hc d List.mem_cons_self)
      exact go cs 0 v (by omega)
    rw[xY lt,bo cs v,bd cs v]
  have e7:=vW (td:=d7 T) (N:=toN n' (iT T).length nx') (M:=(List.range n').map pT) C (DZ C.pos (by omega) C.lt) (by omega) Vg (fun x hx=>by
    obtain⟨p,hp,rfl⟩:=List.mem_map.mp hx
    exact IX _ (wm p (List.mem_range.mp hp))) fun cs v=>by
    have eq:∀(cs:List Nat) (s:Nat),Vd (iT T).length cs->s < n'->led (bR (toN n' (iT T).length nx')) cs s=led nx' cs s:=by
      intro cs
      induction cs with
      | nil=>intro s _ _;rfl
      | cons d cs ih=>
        intro s hc hs
        have hd:=hc d List.mem_cons_self
        show led (bR (toN n' (iT T).length nx')) cs (bR (toN n' (iT T).length nx') s d)=led nx' cs (nx' s d)
        rw[vV hs hd]
        exact ih _ (fun x hx=>hc x (List.mem_cons_of_mem _ hx)) (C.lt s d hs hd)
    rw[eq cs 0 v C.pos,xY (C.vQ v C.pos)]
  rw[MP] at e6 e7
  have gj:Good 60000 3 (.tup [nD N,.tup M]):=by
    have a:nD N= .tup (br N.length (iT T).length (bR N)):=by
      unfold nD br
      congr 1
      apply List.ext_getElem?
      intro s
      rw[List.getElem?_map,List.getElem?_map]
      by_cases hs:s < N.length
      . rw[rw_get hs,List.getElem?_range hs]
        show some (D.tup ((rw' N s).map D.int))=_
        rw[G1 (kF.of mo) hs]
        rfl
      . rw[List.getElem?_eq_none (by omega),List.getElem?_eq_none (by rw[List.length_range];omega)];rfl
    have b:M=(List.range N.length).map (bW M):=by
      apply List.ext_getElem?
      intro s
      rw[List.getElem?_map]
      by_cases hs:s < N.length
      . rw[List.getElem?_range hs,jT (by omega)];rfl
      . rw[List.getElem?_eq_none (by omega),List.getElem?_eq_none (by rw[List.length_range];omega)];rfl
    rw[a]
    conv=>arg 3;rw[b]
    exact pY (by omega) hh (fun p c hp hc=>(cL mo hp hc).2) fun p hp=>hw _ (iM (by omega))
  have go:=pY (m:=2 * N.length) (W:=(iT T).length) (h:=h) (w:=w) (by omega) hh hlt fun p hp=>hw _ (TN p hp)
  have gd:=pY (m:=n') (W:=(iT T).length) (h:=nx') (w:=pT) (by omega) hh C.lt fun p hp=>hw _ (wm p hp)
  have Q3:yE (.lst [.tup [nD N,.tup M],.tup [.tup (br (2 * N.length) (iT T).length h),.tup ((List.range (2 * N.length)).map w)]]):=(D0 (c:=60000) (k:=3) (m:=2) (fun d hd=>by
    rcases List.mem_cons.mp hd with rfl | hd
    . exact gj
    . rw[List.mem_singleton.mp hd];exact go) (Nat.le_refl _)).yE (by decide) (by decide)
  exact Gp h3 h4 h5 h6 h7 h8 e1 e2 e3 e4 e5 e6 e7 Q3 (gd.yE (by decide) (by decide))
theorem BF : ∀ us r, zo 63 us = some r -> bY 9 (MQ xZ) us = some r := by
  intro us r h
  unfold zo at h
  split at h
  . rename_i ns
    obtain⟨hl,rfl⟩:=dF h
    obtain⟨c,l,e1⟩:=Sq.Aq (ns:=ns) (k:=0) (by omega) (by omega) (by omega)
    obtain⟨T,i',l',e2,t0,t1,t2,_,_,nn⟩:=Sx.Ft c l (i:=0) (by omega) (by omega)
    have hh:=oO t2
    obtain⟨S',e7,x2,x3,x4,x5,x6,x7,x8,h2,h3,h4,h5,h6,h7,h8,rfl⟩:=jQ (bd:=bName 2) (body:=MQ sP) (ig 0 4)
      (fun j S=>∃x2 x3 x4 x5 x6 x7 x8:Option U,gZ x2=false/\gZ x3=false/\gZ x4=false/\gZ x5=false/\gZ x6=false/\gZ x7=false/\gZ x8=false/\S=[some (.s ns),some (.t (d7 T)),x2,x3,x4,x5,x6,x7,x8])
      [some (.s ns),some (.t (d7 T)),none,none,none,none,none,none,none] ⟨none,none,none,none,none,none,none,rfl,rfl,rfl,rfl,rfl,rfl,rfl,rfl⟩ (by
        rintro j d S hd ⟨x2,x3,x4,x5,x6,x7,x8,h2,h3,h4,h5,h6,h7,h8,rfl⟩
        obtain⟨hj,rfl⟩:=mS hd
        obtain⟨y3,y4,y5,y6,y7,y8,g3,g4,g5,g6,g7,g8,e⟩:=JQ (ns:=ns) (T:=T) (j:=j) (by omega) t2 (by omega) hj (by omega) h3 h4 h5 h6 h7 h8
        refine⟨_,_,?_,e,some (.t (.int (j:Nat))),y3,y4,y5,y6,y7,y8,rfl,g3,g4,g5,g6,g7,g8,rfl⟩
        generalize (j:Int)=jj
        simp[-dQ,cB,h2])
    have g:dh (aa (eC (.int 4)) ao) [some (.s ns),some (.t (d7 T)),none,none,none,none,none,none,none]=some (ig 0 4,[some (.s ns),some (.t (d7 T)),none,none,none,none,none,none,none]):=Sq.jD (j:=4) rfl (by decide) (by decide)
    have all:MQ xZ [some (.s ns),none,none,none,none,none,none,none,none]=some (.rt (.t (.bl true)) [some (.s ns),some (.t (d7 T)),x2,x3,x4,x5,x6,x7,x8]):=by
      unfold MQ xZ at *
      rw[Sq.bq (S1:=[some (.s ns),some (.t (d7 T)),none,none,none,none,none,none,none]),Sq.bq (S1:=[some (.s ns),some (.t (d7 T)),x2,x3,x4,x5,x6,x7,x8])]
      . rfl
      . rw[pM,g]
        exact e7
      . generalize Sq.Bp=f1 at e2
        generalize Sq.qC=f2 at e1
        generalize d7 T=td at e2
        simp[e1,e2]
    exact vO all rfl
  . cases h
end Sk
end
section
namespace K42
open PySem PySem.Spec PyProof.Rows L2
def top (i:Nat):Stmt:=PySem.Challenge.pw_surewatch_k42_least_judges.main.body.getD i (.Pass ⟨0,0,0,0⟩)
open L2 Sw Sq Sl Sk
noncomputable abbrev jF:Stmt:=top 4
theorem g9:cR ["nexts","begin","found","seen","at","leads","later"] ["nexts","begin"] (aO jF):=⟨rfl,rfl,rfl,by decide +kernel,rfl,by decide +kernel,by decide +kernel⟩
theorem zE {P:Program}{w:World}{K:PySem.W.Frag}{mg:Str->Option Value}{base:Heap}{f:Addr}{fd:FuncData}{n:Nat}{fm:FM}(F:tK K "reached" "reached" jF f fd) (D3:mg "list" =none) (D4:mg "dict" =none) (gT:mg "len" =none)
  (hf:∀us r,fm us=some r->bY 7 (iW) us=some r):dD P w K mg base j7 (n+1) f fd ["nexts","begin"] (spT K 2 fm):=
 yD (g:=iW) F g9 (fun cdv A outer s H E hr=>(aA (aW (i:=2) g9.nd rfl (by first | exact Or.inl rfl | exact Or.inr rfl) (bS yY rfl D3 PyProof.Rows.Boot.list (aq (JE.d (ak 1)) aC)))
  (aA (aW (i:=3) g9.nd rfl (by first | exact Or.inl rfl | exact Or.inr rfl) (Bj rfl rfl D4 (JE.d (eU (nF (by decide) (by decide) rfl (by decide) rfl) rfl (cY (JE.d (ak 1))) (fun _ _ _ _=>cj) (fun _ _ _ _=>(JE.d (ju (aq (JE.d (ak 0)) (aq qp aC)))))))))
  (aA (aW (i:=4) g9.nd rfl (by first | exact Or.inl rfl | exact Or.inr rfl) (JD.e aG))
  (aA (wZ PassesOwn.never (jI yU (JE.d (ak 4)) (gY (i:=2) rfl gT)) (aA (aW (i:=5) g9.nd rfl (by first | exact Or.inl rfl | exact Or.inr rfl) (JD.e (aX (i:=0) (aY hr) (aX (i:=2) (aY hr) (JE.d (ak 4)) (fun _ _=>rfl)) (fun _ _=>rfl))))
  (aA (iI PassesOwn.never rfl (cY (JE.d (ak 5))) (cJ (i:=6) g9.nd rfl (by first | exact Or.inl rfl | exact Or.inr rfl)) (bg (lz (mQ (i:=3) (aY hr) (JE.d (ak 6))) (aA (kR (i:=3) (aY hr) (JE.d (ak 6)) qp)
  (bg (jy (JD.e (kQ (i:=2) PySem.F.slot_list_append PySem.F.type_list_append iO jB jC (aq (JE.d (ak 6)) aC)))))) jK)))
  (bg (Ir (i:=4) Hr g9.nd rfl (by first | exact Or.inl rfl | exact Or.inr rfl) aG)))))
  (bg (d9 (ak 2)))))))) hf
noncomputable abbrev iX:Stmt:=top 5
theorem jr:cR ["signs","numbers","sign"] ["signs"] (aO iX):=⟨rfl,rfl,rfl,by decide +kernel,rfl,by decide +kernel,by decide +kernel⟩
theorem ya {P:Program}{w:World}{K:PySem.W.Frag}{mg:Str->Option Value}{base:Heap}{f:Addr}{fd:FuncData}{n:Nat}{fm:FM}(F:tK K "numbered" "numbered" iX f fd) (gT:mg "len" =none)
  (hf:∀us r,fm us=some r->bY 3 (eB) us=some r):dD P w K mg base j7 (n+1) f fd ["signs"] (spT K 1 fm):=
 yD (g:=eB) F jr (fun cdv A outer s H E hr=>(GV (aA (aW (i:=1) jr.nd rfl (by first | exact Or.inl rfl | exact Or.inr rfl) vC)
  (aA (iI PassesOwn.never rfl (cY (JE.d (ak 0))) (cJ (i:=2) jr.nd rfl (by first | exact Or.inl rfl | exact Or.inr rfl)) (bg (lz (mQ (i:=1) (aY hr) (JE.d (ak 2))) (bg (kR (i:=1) (aY hr) (JE.d (ak 2)) (gY (i:=1) rfl gT))) jK)))
  (bg (d9 (eU (gm (i:=1) rfl (by decide) rfl (by decide) rfl rfl (by decide) (by decide) rfl rfl rfl) rfl (cY (JE.d (ak 0))) (fun _ _ _ _=>cj) (fun _ _ _ _=>(aX (i:=1) (aY hr) (JE.d (ak 0)) (fun _ _=>rfl))))))))
  (aA (aW (i:=1) jr.nd rfl (by first | exact Or.inl rfl | exact Or.inr rfl) Ah)
  (aA (iI PassesOwn.never rfl (cY (JE.d (ak 0))) (cJ (i:=2) jr.nd rfl (by first | exact Or.inl rfl | exact Or.inr rfl)) (bg (lz (mQ (i:=1) (aY hr) (JE.d (ak 2))) (bg (kR (i:=1) (aY hr) (JE.d (ak 2)) (gY (i:=1) rfl gT))) jK)))
  (bg (d9 (eU (gm (i:=1) rfl (by decide) rfl (by decide) rfl rfl (by decide) (by decide) rfl rfl rfl) rfl (cY (JE.d (ak 0))) (fun _ _ _ _=>cj) (fun _ _ _ _=>(aX (i:=1) (aY hr) (JE.d (ak 0)) (fun _ _=>rfl)))))))))) hf
noncomputable abbrev gI:Stmt:=top 6
theorem gU:cR ["nexts","words","most","numbers","count"] ["nexts","words","most"] (aO gI):=⟨rfl,rfl,rfl,by decide +kernel,rfl,by decide +kernel,by decide +kernel⟩
theorem uc {P:Program}{w:World}{K:PySem.W.Frag}{mg:Str->Option Value}{base:Heap}{f:Addr}{fd:FuncData}{n:Nat}{fm:FM}(F:tK K "told_apart" "told_apart" gI f fd) (zF:mg "max" =none) (ia:mg "enumerate" =none) (bX:mg "tuple" =none)
  {pZ:Addr}{uQ:FuncData}{bV:FM}(uR:dD P w K mg base j7 n pZ uQ ["signs"] (spT K 1 bV)) (uS:Binds K uQ ["signs"] []) (uT:PySem.W.keepIn K (.ref pZ)=true) (uU:mg "numbered" =some (.ref pZ))
  (hf:∀us r,fm us=some r->bY 5 (gG bV) us=some r):dD P w K mg base j7 (n+1) f fd ["nexts","words","most"] (spT K 3 fm):=
 yD (g:=gG bV) F gU (fun cdv A outer s H E hr=>(aA (aW (i:=3) gU.nd rfl (by first | exact Or.inl rfl | exact Or.inr rfl) (bO uR hr rfl uU uT uS (bK (JE.d (ak 1)) cD)))
  (aA (aW (i:=4) gU.nd rfl (by first | exact Or.inl rfl | exact Or.inr rfl) (JD.e aG))
  (aA (wZ PassesOwn.never (jI CB (JE.d (gP (nN rfl) rfl zF PyProof.Rows.Boot.max (aq (JE.d (ak 3)) aC))) (JE.d (ak 4))) (aA (aW (i:=4) gU.nd rfl (by first | exact Or.inl rfl | exact Or.inr rfl) (bx dZ (JE.d (gP (nN rfl) rfl zF PyProof.Rows.Boot.max (aq (JE.d (ak 3)) aC))) aG))
  (aA (lz (JW.t (Ig (jI zf (JE.d (ak 2)) yS) (yT (jI yV (JE.d (ak 4)) (JE.d (ak 2)))))) (bg LQ) jK)
  (bg (aW (i:=3) gU.nd rfl (by first | exact Or.inl rfl | exact Or.inr rfl) (bO uR hr rfl uU uT uS (bK (JE.d (Bh ⟨(gm (i:=3) rfl (by decide) rfl (by decide) rfl rfl (by decide) (by decide) rfl rfl rfl),rfl,by decide⟩ rfl (vB rfl ia (aq (JE.d (ak 0)) aC)) (fun _ _ _ _=>cj) (fun _ _ _ _=>(JE.d (bx dZ (JE.d (ju (aq (aX (i:=2) (aY hr) (JE.d (ak 0)) (fun _ _=>rfl)) aC))) (JE.d (bS bJ rfl bX PyProof.Rows.Boot.tuple (aq (JE.d (eU (gm (i:=2) rfl (by decide) rfl (by decide) rfl rfl (by decide) (by decide) rfl rfl rfl) rfl (cY (JE.d (ak 1))) (fun _ _ _ _=>cj) (fun _ _ _ _=>(aX (i:=1) (aY hr) (JE.d (ak 0)) (fun _ _=>rfl))))) aC)))))))) cD)))))))
  (bg (d9 (ak 3))))))) hf
noncomputable abbrev dX:Stmt:=top 7
theorem bz:cR ["nexts","words","most","spots","places","place","spot","inner","numbers","groups","number","least"] ["nexts","words","most"] (aO dX):=⟨rfl,rfl,rfl,by decide +kernel,rfl,by decide +kernel,by decide +kernel⟩
theorem p5 {P:Program}{w:World}{K:PySem.W.Frag}{mg:Str->Option Value}{base:Heap}{f:Addr}{fd:FuncData}{n:Nat}{fm:FM}(F:tK K "least_machine" "least_machine" dX f fd) (ia:mg "enumerate" =none) (zF:mg "max" =none) (cA:mg "range" =none) (bX:mg "tuple" =none)
  {sQ:Addr}{yc:FuncData}{cP:FM}(D5:dD P w K mg base j7 n sQ yc ["nexts","begin"] (spT K 2 cP)) (D6:Binds K yc ["nexts","begin"] []) (D7:PySem.W.keepIn K (.ref sQ)=true) (D8:mg "reached" =some (.ref sQ))
  {mh:Addr}{qE:FuncData}{bD:FM}(yf:dD P w K mg base j7 n mh qE ["nexts","words","most"] (spT K 3 bD)) (yg:Binds K qE ["nexts","words","most"] []) (yh:PySem.W.keepIn K (.ref mh)=true) (yi:mg "told_apart" =some (.ref mh))
  (hf:∀us r,fm us=some r->bY 12 (dW cP bD) us=some r):dD P w K mg base j7 (n+1) f fd ["nexts","words","most"] (spT K 3 fm):=
 yD (g:=dW cP bD) F bz (fun cdv A outer s H E hr=>(aA (aW (i:=3) bz.nd rfl (by first | exact Or.inl rfl | exact Or.inr rfl) (bO D5 hr rfl D8 D7 D6 (bK (JE.d (ak 0)) (bK (JE.d (fT (aq aG aC))) cD))))
  (aA (aW (i:=4) bz.nd rfl (by first | exact Or.inl rfl | exact Or.inr rfl) vC)
  (aA (E3 PassesOwn.never rfl (vB rfl ia (aq (JE.d (ak 3)) aC)) (vq rfl (jh (cJ (i:=5) bz.nd rfl (by first | exact Or.inl rfl | exact Or.inr rfl)) (jh (cJ (i:=6) bz.nd rfl (by first | exact Or.inl rfl | exact Or.inr rfl)) q8))) (bg (kR (i:=4) (aY hr) (JE.d (ak 6)) (JE.d (ak 5)))))
  (aA (kr (i:=7) bz.nd rfl (by first | exact Or.inl rfl | exact Or.inr rfl) (ez (bB:=["nexts","places"]) (cap:=[0,4]) rfl (by decide) rfl (by decide) rfl rfl (by decide) (by first | exact Or.inl rfl | exact Or.inr rfl) (by decide) rfl rfl rfl) rfl (cY (JE.d (ak 3))) (fun _ _ _ _=>cj) (fun _ _ _ _=>(JE.d (bS bJ rfl bX PyProof.Rows.Boot.tuple (aq (JE.d (eU (gm (i:=2) rfl (by decide) rfl (by decide) rfl rfl (by decide) (by decide) rfl rfl rfl) rfl (cY (aX (i:=1) (aY hr) (JE.d (ak 0)) (fun _ _=>rfl))) (fun _ _ _ _=>cj) (fun _ _ _ _=>(aX (i:=1) (aY hr) (JE.d (ak 0)) (fun _ _=>rfl))))) aC)))))
  (aA (aW (i:=8) bz.nd rfl (by first | exact Or.inl rfl | exact Or.inr rfl) (bO yf hr rfl yi yh yg (bK (JE.d (ak 7)) (bK (JE.d (eU (gm (i:=1) rfl (by decide) rfl (by decide) rfl rfl (by decide) (by decide) rfl rfl rfl) rfl (cY (JE.d (ak 3))) (fun _ _ _ _=>cj) (fun _ _ _ _=>(aX (i:=1) (aY hr) (JE.d (ak 0)) (fun _ _=>rfl))))) (bK (JE.d (ak 2)) cD)))))
  (Fg (i:=9) bz.nd rfl (by first | exact Or.inl rfl | exact Or.inr rfl) (nF (by decide) (by decide) rfl (by decide) rfl) rfl (dR rfl cA (aq (JE.d (bx dZ (JE.d (gP (nN rfl) rfl zF PyProof.Rows.Boot.max (aq (JE.d (ak 8)) aC))) aG)) aC)) (IF PassesOwn.never rfl (vB rfl ia (aq (JE.d (ak 8)) aC)) (vq rfl (jh (cJ (i:=5) bz.nd rfl (by first | exact Or.inl rfl | exact Or.inr rfl)) (jh (cJ (i:=10) bz.nd rfl (by first | exact Or.inl rfl | exact Or.inr rfl)) q8))) (IE (i:=9) (JE.d (ak 10)) (aX (i:=3) (aY hr) (JE.d (ak 5)) (fun _ _=>rfl)) (by intro _ _;rfl))) (aA (kr (i:=11) bz.nd rfl (by first | exact Or.inl rfl | exact Or.inr rfl) (ez (bB:=["nexts","numbers","places"]) (cap:=[0,8,4]) rfl (by decide) rfl (by decide) rfl rfl (by decide) (by first | exact Or.inl rfl | exact Or.inr rfl) (by decide) rfl rfl rfl) rfl (cY (JE.d (ak 9))) (fun _ _ _ _=>cj) (fun _ _ _ _=>(JE.d (bS bJ rfl bX PyProof.Rows.Boot.tuple (aq (JE.d (eU (ez (bB:=["numbers","places"]) (cap:=[2,3]) rfl (by decide) rfl (by decide) rfl rfl (by decide) (by first | exact Or.inl rfl | exact Or.inr rfl) (by decide) rfl rfl rfl) rfl (cY (aX (i:=1) (aY hr) (aX (i:=0) (aY hr) aG (fun _ _=>rfl)) (fun _ _=>rfl))) (fun _ _ _ _=>cj) (fun _ _ _ _=>(aX (i:=1) (aY hr) (aX (i:=2) (aY hr) (JE.d (ak 0)) (fun _ _=>rfl)) (fun _ _=>rfl))))) aC)))))
  (bg (d9 (ju (aq (JE.d (bS bJ rfl bX PyProof.Rows.Boot.tuple (aq (JE.d (ak 11)) aC))) (aq (JE.d (bS bJ rfl bX PyProof.Rows.Boot.tuple (aq (JE.d (eU (gm (i:=1) rfl (by decide) rfl (by decide) rfl rfl (by decide) (by decide) rfl rfl rfl) rfl (cY (JE.d (ak 9))) (fun _ _ _ _=>cj) (fun _ _ _ _=>(aX (i:=1) (aY hr) (aX (i:=0) (aY hr) aG (fun _ _=>rfl)) (fun _ _=>rfl))))) aC))) (aq (JE.d (ak 9)) aC)))))))))))))) hf
noncomputable abbrev fQ:Stmt:=top 9
theorem mj:cR ["table","judge","least"] ["table","judge"] (aO fQ):=⟨rfl,rfl,rfl,by decide +kernel,rfl,by decide +kernel,by decide +kernel⟩
theorem sR {P:Program}{w:World}{K:PySem.W.Frag}{mg:Str->Option Value}{base:Heap}{f:Addr}{fd:FuncData}{n:Nat}{fm:FM}(F:tK K "least_judge" "least_judge" fQ f fd)
  {jV:Addr}{mq:FuncData}{gC:FM}(sS:dD P w K mg base j7 n jV mq ["nexts","words","most"] (spT K 3 gC)) (sU:Binds K mq ["nexts","words","most"] []) (sV:PySem.W.keepIn K (.ref jV)=true) (sW:mg "least_machine" =some (.ref jV))
  (hf:∀us r,fm us=some r->bY 3 (fP gC) us=some r):dD P w K mg base j7 (n+1) f fd ["table","judge"] (spT K 2 fm):=
 yD (g:=fP gC) F mj (fun cdv A outer s H E hr=>(aA (aW (i:=2) mj.nd rfl (by first | exact Or.inl rfl | exact Or.inr rfl) (bO sS hr rfl sW sV sU (bK (aX (i:=1) (aY hr) aG (fun _ _=>rfl)) (bK (aX (i:=1) (aY hr) aG (fun _ _=>rfl)) (bK yS cD)))))
  (bg (d9 (ju (aq (aX (i:=2) (aY hr) aG (fun _ _=>rfl)) (aq (aX (i:=2) (aY hr) aG (fun _ _=>rfl)) aC))))))) hf
noncomputable abbrev iY:Stmt:=top 11
theorem qF:cR ["_law_cell","_law_k","_law_by"] ["_law_cell","_law_k"] (aO iY):=⟨rfl,rfl,rfl,by decide +kernel,rfl,by decide +kernel,by decide +kernel⟩
theorem yj {P:Program}{w:World}{K:PySem.W.Frag}{mg:Str->Option Value}{base:Heap}{f:Addr}{fd:FuncData}{n:Nat}{fm:FM}(F:tK K "_law_mix" "_law_mix" iY f fd)
  (hf:∀us r,fm us=some r->bY 3 (jP) us=some r):dD P w K mg base j7 (n+1) f fd ["_law_cell","_law_k"] (spT K 2 fm):=
 yD (g:=jP) F qF (fun cdv A outer s H E hr=>(aA (aW (i:=2) qF.nd rfl (by first | exact Or.inl rfl | exact Or.inr rfl) (bx dZ (JE.d (bx dZ (JE.d (bx fX (JE.d (bx dZ (JE.d (bx i7 (JE.d (ak 0)) (JE.d (bx vp aG aG)))) aG)) aG)) (JE.d (bx fX (JE.d (bx fX (JE.d (ak 1)) (JE.d (ak 1)))) aG)))) (JE.d (bx fX (JE.d (ak 1)) aG))))
  (bg (d9 (bx i7 (JE.d (bx fX (JE.d (bx i7 (JE.d (ak 2)) aG)) aG)) aG))))) hf
noncomputable abbrev iw:Stmt:=top 12
theorem jA:cR ["_law_script","_law_k","_law_cell"] ["_law_script","_law_k"] (aO iw):=⟨rfl,rfl,rfl,by decide +kernel,rfl,by decide +kernel,by decide +kernel⟩
theorem vZ {P:Program}{w:World}{K:PySem.W.Frag}{mg:Str->Option Value}{base:Heap}{f:Addr}{fd:FuncData}{n:Nat}{fm:FM}(F:tK K "_law_feed" "_law_feed" iw f fd) (gT:mg "len" =none) (JR:mg "int" =none)
  {iZ:Addr}{kG:FuncData}{eV:FM}(p6:dD P w K mg base j7 n iZ kG ["_law_cell","_law_k"] (spT K 2 eV)) (p7:Binds K kG ["_law_cell","_law_k"] []) (p8:PySem.W.keepIn K (.ref iZ)=true) (p9:mg "_law_mix" =some (.ref iZ))
  (hf:∀us r,fm us=some r->bY 3 (gq eV) us=some r):dD P w K mg base j7 (n+1) f fd ["_law_script","_law_k"] (spT K 2 fm):=
 yD (g:=gq eV) F jA (fun cdv A outer s H E hr=>(aA (aW (i:=2) jA.nd rfl (by first | exact Or.inl rfl | exact Or.inr rfl) (bx dZ (JE.d (bx fX aG (JE.d (ak 1)))) aG))
  (aA (lz (jI yU (JE.d (ak 1)) (gY (i:=0) rfl gT)) (bg (aW (i:=2) jA.nd rfl (by first | exact Or.inl rfl | exact Or.inr rfl) (JD.e (aX (i:=0) (aY hr) (JE.d (ak 1)) (fun _ _=>rfl))))) (bg (lz (jI yV (gY (i:=0) rfl gT) aG) (bg (aW (i:=2) jA.nd rfl (by first | exact Or.inl rfl | exact Or.inr rfl) (bO p6 hr rfl p9 p8 p7 (bK (aX (i:=0) (aY hr) (JE.d (bx i7 (JE.d (ak 1)) (gY (i:=0) rfl gT))) (fun _ _=>rfl)) (bK (JE.d (ak 1)) cD))))) jK)))
  (bg (d9 (fT (aq (JE.d (ak 2)) (aq aG (aq (JE.d (bx fX (JE.d (bx mK (JE.d (ak 2)) (JE.d (bx vp aG aG)))) (JE.d (bS Ba rfl JR PyProof.Rows.Boot.int (aq (JE.d (Ie CB (JE.d (ak 2)) (JE.d (bx vp aG aG)))) aC))))) aC))))))))) hf
noncomputable abbrev iy:Stmt:=top 13
theorem oZ:cR ["_law_feed_here","_law_many","_law_found"] ["_law_feed_here","_law_many"] (aO iy):=⟨rfl,rfl,rfl,by decide +kernel,rfl,by decide +kernel,by decide +kernel⟩
theorem v5 {P:Program}{w:World}{K:PySem.W.Frag}{mg:Str->Option Value}{base:Heap}{f:Addr}{fd:FuncData}{n:Nat}{fm:FM}(F:tK K "_law_take" "_law_take" iy f fd)
  {iZ:Addr}{kG:FuncData}{eV:FM}(p6:dD P w K mg base j7 n iZ kG ["_law_cell","_law_k"] (spT K 2 eV)) (p7:Binds K kG ["_law_cell","_law_k"] []) (p8:PySem.W.keepIn K (.ref iZ)=true) (p9:mg "_law_mix" =some (.ref iZ))
  (hf:∀us r,fm us=some r->bY 3 (iu eV) us=some r):dD P w K mg base j7 (n+1) f fd ["_law_feed_here","_law_many"] (spT K 2 fm):=
 yD (g:=iu eV) F oZ (fun cdv A outer s H E hr=>(aA (kR (i:=0) (aY hr) aG (JE.d (bx dZ (aX (i:=0) (aY hr) aG (fun _ _=>rfl)) aG)))
  (aA (lz (jI yV (aX (i:=0) (aY hr) aG (fun _ _=>rfl)) aG) (aA (aW (i:=2) oZ.nd rfl (by first | exact Or.inl rfl | exact Or.inr rfl) (bx i7 (aX (i:=0) (aY hr) aG (fun _ _=>rfl)) (JE.d (ak 1))))
  (aA (kR (i:=0) (aY hr) aG (JE.d (bx Ab (aX (i:=0) (aY hr) aG (fun _ _=>rfl)) (JE.d (ak 1)))))
  (bg (d9 (ak 2))))) jK)
  (bg (d9 (bx i7 (JE.d (bx Ab (JE.d (bO p6 hr rfl p9 p8 p7 (bK (aX (i:=0) (aY hr) aG (fun _ _=>rfl)) (bK (aX (i:=0) (aY hr) aG (fun _ _=>rfl)) cD)))) aG)) (JE.d (ak 1)))))))) hf
noncomputable abbrev gJ:Stmt:=top 14
theorem cM:cR ["_law_feed_here","_law_pool","_law_start","_law_many","_law_left","_law_table_here","_law_k","_law_most"] ["_law_feed_here"] (aO gJ):=⟨rfl,rfl,rfl,by decide +kernel,rfl,by decide +kernel,by decide +kernel⟩
theorem ud {P:Program}{w:World}{K:PySem.W.Frag}{mg:Str->Option Value}{base:Heap}{f:Addr}{fd:FuncData}{n:Nat}{fm:FM}(F:tK K "_law_table" "_law_table" gJ f fd) (cA:mg "range" =none) (JV:mg "min" =none) (bX:mg "tuple" =none)
  {dJ:Addr}{gD:FuncData}{au:FM}(dM:dD P w K mg base j7 n dJ gD ["_law_feed_here","_law_many"] (spT K 2 au)) (dN:Binds K gD ["_law_feed_here","_law_many"] []) (dO:PySem.W.keepIn K (.ref dJ)=true) (dP:mg "_law_take" =some (.ref dJ))
  (hf:∀us r,fm us=some r->bY 8 (iL au) us=some r):dD P w K mg base j7 (n+1) f fd ["_law_feed_here"] (spT K 1 fm):=
 yD (g:=iL au) F cM (fun cdv A outer s H E hr=>(aA (aW (i:=1) cM.nd rfl (by first | exact Or.inl rfl | exact Or.inr rfl) (fT (aq kO (aq kO (aq kO (aq kO (aq kO (aq kO (aq kO (aq kO (aq kO aC)))))))))))
  (aA (aW (i:=2) cM.nd rfl (by first | exact Or.inl rfl | exact Or.inr rfl) (bO dM hr rfl dP dO dN (iJ (ak 0) (bK aG cD))))
  (aA (aW (i:=3) cM.nd rfl (by first | exact Or.inl rfl | exact Or.inr rfl) (GJ Ls (JE.d (fT (aq aG (aq aG (aq aG (aq aG aC)))))) (JE.d (bO dM hr rfl dP dO dN (iJ (ak 0) (bK aG cD)))) (fun _ _=>rfl)))
  (aA (aW (i:=4) cM.nd rfl (by first | exact Or.inl rfl | exact Or.inr rfl) (JD.e aG))
  (aA (aW (i:=5) cM.nd rfl (by first | exact Or.inl rfl | exact Or.inr rfl) (fT aC))
  (aA (iI PassesOwn.never rfl (dR rfl cA (aq (JE.d (ak 3)) aC)) (cJ (i:=6) cM.nd rfl (by first | exact Or.inl rfl | exact Or.inr rfl)) (aA (aW (i:=7) cM.nd rfl (by first | exact Or.inl rfl | exact Or.inr rfl) (gP (yX rfl) rfl JV PyProof.Rows.Boot.min (aq (JE.d (bO dM hr rfl dP dO dN (iJ (ak 0) (bK aG cD)))) (aq (JE.d (bx dZ (JE.d (bx mK (JE.d (ak 4)) (JE.d (ak 3)))) (JE.d (ak 6)))) aC))))
  (aA (jy (JD.e (kQ (i:=5) PySem.F.slot_list_append PySem.F.type_list_append iO jB jC (aq (JE.d (ju (aq (aX (i:=1) (aY hr) (JE.d (bx i7 (JE.d (bx dZ (JE.d (ak 2)) (JE.d (ak 6)))) aG)) (fun _ _=>rfl)) (aq (JE.d (ak 7)) aC)))) aC))))
  (bg (aW (i:=4) cM.nd rfl (by first | exact Or.inl rfl | exact Or.inr rfl) (bx mK (JE.d (bx mK (JE.d (ak 4)) (JE.d (ak 7)))) aG))))))
  (bg (d9 (bS bJ rfl bX PyProof.Rows.Boot.tuple (aq (JE.d (ak 5)) aC))))))))))) hf
noncomputable abbrev cU:Stmt:=top 15
theorem fB:cR ["_law_table_here","_law_found","_law_name","_law_most"] ["_law_table_here"] (aO cU):=⟨rfl,rfl,rfl,by decide +kernel,rfl,by decide +kernel,by decide +kernel⟩
theorem nP {P:Program}{w:World}{K:PySem.W.Frag}{mg:Str->Option Value}{base:Heap}{f:Addr}{fd:FuncData}{n:Nat}{fm:FM}(F:tK K "_law_happenings" "_law_happenings" cU f fd) (cA:mg "range" =none)
  (hf:∀us r,fm us=some r->bY 4 (d8) us=some r):dD P w K mg base j7 (n+1) f fd ["_law_table_here"] (spT K 1 fm):=
 yD (g:=d8) F fB (fun cdv A outer s H E hr=>(aA (aW (i:=1) fB.nd rfl (by first | exact Or.inl rfl | exact Or.inr rfl) (fT aC))
  (aA (iI PassesOwn.never rfl (Il (JE.d (ak 0))) (vq rfl (jh (cJ (i:=2) fB.nd rfl (by first | exact Or.inl rfl | exact Or.inr rfl)) (jh (cJ (i:=3) fB.nd rfl (by first | exact Or.inl rfl | exact Or.inr rfl)) q8))) (bg (jy (JD.e (kQ (i:=1) PySem.F.slot_list_extend PySem.F.type_list_extend zb Bb Bc (aq (JE.d (eU (gm (i:=2) rfl (by decide) rfl (by decide) rfl rfl (by decide) (by decide) rfl rfl rfl) rfl (dR rfl cA (aq (JE.d (bx dZ (JE.d (ak 3)) aG)) aC)) (fun _ _ _ _=>cj) (fun _ _ _ _=>(JE.d (ju (aq (JE.d (ak 1)) (aq (JE.d (ak 0)) aC))))))) aC))))))
  (bg (d9 (ak 1)))))) hf
noncomputable abbrev eY:Stmt:=top 16
theorem cW:cR ["_law_feed_here","_law_table_here","_law_menu","_law_many","_law_wide","_law_nexts","_law_spot","_law_marks"] ["_law_feed_here","_law_table_here","_law_menu"] (aO eY):=⟨rfl,rfl,rfl,by decide +kernel,rfl,by decide +kernel,by decide +kernel⟩
theorem qO {P:Program}{w:World}{K:PySem.W.Frag}{mg:Str->Option Value}{base:Heap}{f:Addr}{fd:FuncData}{n:Nat}{fm:FM}(F:tK K "_law_machine" "_law_machine" eY f fd) (gT:mg "len" =none) (cA:mg "range" =none) (bX:mg "tuple" =none)
  {dJ:Addr}{gD:FuncData}{au:FM}(dM:dD P w K mg base j7 n dJ gD ["_law_feed_here","_law_many"] (spT K 2 au)) (dN:Binds K gD ["_law_feed_here","_law_many"] []) (dO:PySem.W.keepIn K (.ref dJ)=true) (dP:mg "_law_take" =some (.ref dJ))
  {i6:Addr}{kH:FuncData}{cE:FM}(qb:dD P w K mg base j7 n i6 kH ["_law_table_here"] (spT K 1 cE)) (qc:Binds K kH ["_law_table_here"] []) (qd:PySem.W.keepIn K (.ref i6)=true) (qg:mg "_law_happenings" =some (.ref i6))
  (hf:∀us r,fm us=some r->bY 8 (dH au cE) us=some r):dD P w K mg base j7 (n+1) f fd ["_law_feed_here","_law_table_here","_law_menu"] (spT K 3 fm):=
 yD (g:=dH au cE) F cW (fun cdv A outer s H E hr=>(aA (aW (i:=3) cW.nd rfl (by first | exact Or.inl rfl | exact Or.inr rfl) (bx dZ aG (JE.d (bO dM hr rfl dP dO dN (iJ (ak 0) (bK aG cD))))))
  (aA (aW (i:=4) cW.nd rfl (by first | exact Or.inl rfl | exact Or.inr rfl) (gP A6 rfl gT PySem.boot_len (aq (JE.d (bO qb hr rfl qg qd qc (bK (JE.d (ak 1)) cD))) aC)))
  (aA (aW (i:=5) cW.nd rfl (by first | exact Or.inl rfl | exact Or.inr rfl) (fT aC))
  (aA (iI PassesOwn.never rfl (dR rfl cA (aq (JE.d (ak 3)) aC)) (cJ (i:=6) cW.nd rfl (by first | exact Or.inl rfl | exact Or.inr rfl)) (bg (jy (JD.e (kQ (i:=5) PySem.F.slot_list_append PySem.F.type_list_append iO jB jC (aq (JE.d (bS bJ rfl bX PyProof.Rows.Boot.tuple (aq (JE.d (eU (ez (bB:=["_law_feed_here","_law_many"]) (cap:=[0,3]) rfl (by decide) rfl (by decide) rfl rfl (by decide) (by first | exact Or.inl rfl | exact Or.inr rfl) (by decide) rfl rfl rfl) rfl (dR rfl cA (aq (JE.d (ak 4)) aC)) (fun _ _ _ _=>cj) (fun _ _ _ _=>(JE.d (bO dM hr rfl dP dO dN (iJ (ak 1) (bK (JE.d (ak 2)) cD))))))) aC))) aC))))))
  (aA (kr (i:=7) cW.nd rfl (by first | exact Or.inl rfl | exact Or.inr rfl) (ez (bB:=["_law_feed_here","_law_menu"]) (cap:=[0,2]) rfl (by decide) rfl (by decide) rfl rfl (by decide) (by first | exact Or.inl rfl | exact Or.inr rfl) (by decide) rfl rfl rfl) rfl (dR rfl cA (aq (JE.d (ak 3)) aC)) (fun _ _ _ _=>cj) (fun _ _ _ _=>(aX (i:=2) (aY hr) (JE.d (bO dM hr rfl dP dO dN (iJ (ak 1) (bK (gY (i:=2) rfl gT) cD)))) (fun _ _=>rfl))))
  (aA (lz (jI (Iq hr.units) (JE.d (bO dM hr rfl dP dO dN (iJ (ak 0) (bK aG cD)))) aG) (bg (aW (i:=7) cW.nd rfl (by first | exact Or.inl rfl | exact Or.inr rfl) (bx vA (JE.d (fT (aq (aX (i:=2) (aY hr) aG (fun _ _=>rfl)) aC))) (JE.d (ak 3))))) jK)
  (bg (d9 (ju (aq (JE.d (bS bJ rfl bX PyProof.Rows.Boot.tuple (aq (JE.d (ak 5)) aC))) (aq (JE.d (bS bJ rfl bX PyProof.Rows.Boot.tuple (aq (JE.d (ak 7)) aC))) aC)))))))))))) hf
noncomputable abbrev dY:Stmt:=top 17
theorem cG:cR ["_law_firsts","_law_numbers","_law_found","_law_first"] ["_law_firsts"] (aO dY):=⟨rfl,rfl,rfl,by decide +kernel,rfl,by decide +kernel,by decide +kernel⟩
theorem qh {P:Program}{w:World}{K:PySem.W.Frag}{mg:Str->Option Value}{base:Heap}{f:Addr}{fd:FuncData}{n:Nat}{fm:FM}(F:tK K "_law_numbered" "_law_numbered" dY f fd) (gT:mg "len" =none)
  (hf:∀us r,fm us=some r->bY 4 (bM) us=some r):dD P w K mg base j7 (n+1) f fd ["_law_firsts"] (spT K 1 fm):=
 yD (g:=bM) F cG (fun cdv A outer s H E hr=>(GV (aA (aW (i:=1) cG.nd rfl (by first | exact Or.inl rfl | exact Or.inr rfl) vC)
  (aA (aW (i:=2) cG.nd rfl (by first | exact Or.inl rfl | exact Or.inr rfl) (fT aC))
  (aA (iI PassesOwn.never rfl (cY (JE.d (ak 0))) (cJ (i:=3) cG.nd rfl (by first | exact Or.inl rfl | exact Or.inr rfl)) (aA (jy (JD.e (Aj (i:=1) (aY hr) (JE.d (ak 3)) (gY (i:=1) rfl gT))))
  (bg (jy (JD.e (kQ (i:=2) PySem.F.slot_list_append PySem.F.type_list_append iO jB jC (aq (aX (i:=1) (aY hr) (JE.d (ak 3)) (fun _ _=>rfl)) aC)))))))
  (bg (d9 (ak 2))))))
  (aA (aW (i:=1) cG.nd rfl (by first | exact Or.inl rfl | exact Or.inr rfl) Ah)
  (aA (aW (i:=2) cG.nd rfl (by first | exact Or.inl rfl | exact Or.inr rfl) (fT aC))
  (aA (iI PassesOwn.never rfl (cY (JE.d (ak 0))) (cJ (i:=3) cG.nd rfl (by first | exact Or.inl rfl | exact Or.inr rfl)) (aA (jy (JD.e (Aj (i:=1) (aY hr) (JE.d (ak 3)) (gY (i:=1) rfl gT))))
  (bg (jy (JD.e (kQ (i:=2) PySem.F.slot_list_append PySem.F.type_list_append iO jB jC (aq (aX (i:=1) (aY hr) (JE.d (ak 3)) (fun _ _=>rfl)) aC)))))))
  (bg (d9 (ak 2)))))))) hf
noncomputable abbrev eZ:Stmt:=top 18
theorem fK:cR ["_law_nexts","_law_marks","_law_found","_law_turn","_law_firsts"] ["_law_nexts","_law_marks"] (aO eZ):=⟨rfl,rfl,rfl,by decide +kernel,rfl,by decide +kernel,by decide +kernel⟩
theorem qP {P:Program}{w:World}{K:PySem.W.Frag}{mg:Str->Option Value}{base:Heap}{f:Addr}{fd:FuncData}{n:Nat}{fm:FM}(F:tK K "_law_classes" "_law_classes" eZ f fd) (o7:mg "repr" =none) (gT:mg "len" =none) (cA:mg "range" =none) (bX:mg "tuple" =none)
  {jW:Addr}{mw:FuncData}{aF:FM}(mz:dD P w K mg base j7 n jW mw ["_law_firsts"] (spT K 1 aF)) (mC:Binds K mw ["_law_firsts"] []) (mD:PySem.W.keepIn K (.ref jW)=true) (mF:mg "_law_numbered" =some (.ref jW))
  (hf:∀us r,fm us=some r->bY 5 (dI aF) us=some r):dD P w K mg base j7 (n+1) f fd ["_law_nexts","_law_marks"] (spT K 2 fm):=
 yD (g:=dI aF) F fK (fun cdv A outer s H E hr=>(aA (aW (i:=2) fK.nd rfl (by first | exact Or.inl rfl | exact Or.inr rfl) (bO mz hr rfl mF mD mC (bK (JE.d (eU (nF (by decide) (by decide) rfl (by decide) rfl) rfl (cY (JE.d (ak 1))) (fun _ _ _ _=>cj) (fun _ _ _ _=>(JE.d (gP (jO hr.gd hr.units) rfl o7 PyProof.Rows.Boot.repr (aq (JE.d (ak 0)) aC)))))) cD)))
  (aA (iI PassesOwn.never rfl (dR rfl cA (aq (gY (i:=0) rfl gT) aC)) (cJ (i:=3) fK.nd rfl (by first | exact Or.inl rfl | exact Or.inr rfl)) (aA (kr (i:=4) fK.nd rfl (by first | exact Or.inl rfl | exact Or.inr rfl) (ez (bB:=["_law_found","_law_nexts"]) (cap:=[2,0]) rfl (by decide) rfl (by decide) rfl rfl (by decide) (by first | exact Or.inl rfl | exact Or.inr rfl) (by decide) rfl rfl rfl) rfl (dR rfl cA (aq (gY (i:=0) rfl gT) aC)) (fun _ _ _ _=>cj) (fun _ _ _ _=>(JE.d (ju (aq (aX (i:=1) (aY hr) (JE.d (ak 0)) (fun _ _=>rfl)) (aq (JE.d (bS bJ rfl bX PyProof.Rows.Boot.tuple (aq (JE.d (eU (gm (i:=1) rfl (by decide) rfl (by decide) rfl rfl (by decide) (by decide) rfl rfl rfl) rfl (cY (aX (i:=2) (aY hr) (JE.d (ak 0)) (fun _ _=>rfl))) (fun _ _ _ _=>cj) (fun _ _ _ _=>(aX (i:=1) (aY hr) (JE.d (ak 0)) (fun _ _=>rfl))))) aC))) aC))))))
  (bg (aW (i:=2) fK.nd rfl (by first | exact Or.inl rfl | exact Or.inr rfl) (bO mz hr rfl mF mD mC (bK (JE.d (ak 4)) cD))))))
  (bg (d9 (ak 2)))))) hf
noncomputable abbrev gK:Stmt:=top 19
theorem dw:cR ["_law_nexts","_law_marks","_law_groups","_law_order","_law_firsts","_law_turn","_law_other","_law_rows","_law_machine_here"] ["_law_nexts","_law_marks"] (aO gK):=⟨rfl,rfl,rfl,by decide +kernel,rfl,by decide +kernel,by decide +kernel⟩
theorem ue {P:Program}{w:World}{K:PySem.W.Frag}{mg:Str->Option Value}{base:Heap}{f:Addr}{fd:FuncData}{n:Nat}{fm:FM}(F:tK K "_law_least" "_law_least" gK f fd) (gT:mg "len" =none) (cA:mg "range" =none) (bX:mg "tuple" =none)
  {kh:Addr}{nq:FuncData}{aH:FM}(uf:dD P w K mg base j7 n kh nq ["_law_nexts","_law_marks"] (spT K 2 aH)) (ug:Binds K nq ["_law_nexts","_law_marks"] []) (uh:PySem.W.keepIn K (.ref kh)=true) (um:mg "_law_classes" =some (.ref kh))
  (hf:∀us r,fm us=some r->bY 9 (gH aH) us=some r):dD P w K mg base j7 (n+1) f fd ["_law_nexts","_law_marks"] (spT K 2 fm):=
 yD (g:=gH aH) F dw (fun cdv A outer s H E hr=>(aA (aW (i:=2) dw.nd rfl (by first | exact Or.inl rfl | exact Or.inr rfl) (bO uf hr rfl um uh ug (bK (JE.d (ak 0)) (bK (JE.d (ak 1)) cD))))
  (aA (aW (i:=3) dw.nd rfl (by first | exact Or.inl rfl | exact Or.inr rfl) (C2 (aX (i:=2) (aY hr) aG (fun _ _=>rfl)) aG))
  (aA (aW (i:=4) dw.nd rfl (by first | exact Or.inl rfl | exact Or.inr rfl) (fT (aq aG aC)))
  (aA (iI PassesOwn.never rfl (dR rfl cA (aq (gY (i:=0) rfl gT) aC)) (cJ (i:=5) dw.nd rfl (by first | exact Or.inl rfl | exact Or.inr rfl)) (bg (lz (jI yU (JE.d (ak 5)) (gY (i:=4) rfl gT)) (bg (iI PassesOwn.never rfl (cY (aX (i:=0) (aY hr) (aX (i:=4) (aY hr) (JE.d (ak 5)) (fun _ _=>rfl)) (fun _ _=>rfl))) (cJ (i:=6) dw.nd rfl (by first | exact Or.inl rfl | exact Or.inr rfl)) (bg (lz (mQ (i:=3) (aY hr) (aX (i:=2) (aY hr) (JE.d (ak 6)) (fun _ _=>rfl))) (aA (kR (i:=3) (aY hr) (aX (i:=2) (aY hr) (JE.d (ak 6)) (fun _ _=>rfl)) (gY (i:=4) rfl gT))
  (bg (jy (JD.e (kQ (i:=4) PySem.F.slot_list_append PySem.F.type_list_append iO jB jC (aq (JE.d (ak 6)) aC)))))) jK)))) jK)))
  (aA (kr (i:=7) dw.nd rfl (by first | exact Or.inl rfl | exact Or.inr rfl) (ez (bB:=["_law_groups","_law_nexts","_law_order"]) (cap:=[2,0,3]) rfl (by decide) rfl (by decide) rfl rfl (by decide) (by first | exact Or.inl rfl | exact Or.inr rfl) (by decide) rfl rfl rfl) rfl (cY (JE.d (ak 4))) (fun _ _ _ _=>cj) (fun _ _ _ _=>(JE.d (bS bJ rfl bX PyProof.Rows.Boot.tuple (aq (JE.d (eU (ez (bB:=["_law_groups","_law_order"]) (cap:=[1,3]) rfl (by decide) rfl (by decide) rfl rfl (by decide) (by first | exact Or.inl rfl | exact Or.inr rfl) (by decide) rfl rfl rfl) rfl (cY (aX (i:=2) (aY hr) (JE.d (ak 0)) (fun _ _=>rfl))) (fun _ _ _ _=>cj) (fun _ _ _ _=>(aX (i:=2) (aY hr) (aX (i:=1) (aY hr) (JE.d (ak 0)) (fun _ _=>rfl)) (fun _ _=>rfl))))) aC)))))
  (aA (aW (i:=8) dw.nd rfl (by first | exact Or.inl rfl | exact Or.inr rfl) (ju (aq (JE.d (bS bJ rfl bX PyProof.Rows.Boot.tuple (aq (JE.d (ak 7)) aC))) (aq (JE.d (bS bJ rfl bX PyProof.Rows.Boot.tuple (aq (JE.d (eU (gm (i:=1) rfl (by decide) rfl (by decide) rfl rfl (by decide) (by decide) rfl rfl rfl) rfl (cY (JE.d (ak 4))) (fun _ _ _ _=>cj) (fun _ _ _ _=>(aX (i:=1) (aY hr) (JE.d (ak 0)) (fun _ _=>rfl))))) aC))) aC))))
  (bg (d9 (ju (aq (JE.d (ak 8)) (aq (JE.d (eU (gm (i:=3) rfl (by decide) rfl (by decide) rfl rfl (by decide) (by decide) rfl rfl rfl) rfl (cY (JE.d (ak 2))) (fun _ _ _ _=>cj) (fun _ _ _ _=>(E8 (i:=1) (aY hr) (JE.d (ak 0)) yS)))) aC)))))))))))) hf
noncomputable abbrev dB:Stmt:=top 20
theorem bA:cR ["_law_feed_here","_law_judge","_law_nexts","_law_truths","_law_many","_law_turn","_law_names","_law_rows","_law_marks","_law_k","_law_some"] ["_law_feed_here","_law_judge"] (aO dB):=⟨rfl,rfl,rfl,by decide +kernel,rfl,by decide +kernel,by decide +kernel⟩
theorem o8 {P:Program}{w:World}{K:PySem.W.Frag}{mg:Str->Option Value}{base:Heap}{f:Addr}{fd:FuncData}{n:Nat}{fm:FM}(F:tK K "_law_otherwise" "_law_otherwise" dB f fd) (gT:mg "len" =none) (cA:mg "range" =none) (bX:mg "tuple" =none)
  {dJ:Addr}{gD:FuncData}{au:FM}(dM:dD P w K mg base j7 n dJ gD ["_law_feed_here","_law_many"] (spT K 2 au)) (dN:Binds K gD ["_law_feed_here","_law_many"] []) (dO:PySem.W.keepIn K (.ref dJ)=true) (dP:mg "_law_take" =some (.ref dJ))
  (hf:∀us r,fm us=some r->bY 11 (cF au) us=some r):dD P w K mg base j7 (n+1) f fd ["_law_feed_here","_law_judge"] (spT K 2 fm):=
 yD (g:=cF au) F bA (fun cdv A outer s H E hr=>(aA (Ik (JE.d (ak 1)) (vq rfl (jh (cJ (i:=2) bA.nd rfl (by first | exact Or.inl rfl | exact Or.inr rfl)) (jh (cJ (i:=3) bA.nd rfl (by first | exact Or.inl rfl | exact Or.inr rfl)) q8))))
  (aA (aW (i:=4) bA.nd rfl (by first | exact Or.inl rfl | exact Or.inr rfl) (JD.e (gY (i:=2) rfl gT)))
  (aA (aW (i:=5) bA.nd rfl (by first | exact Or.inl rfl | exact Or.inr rfl) (bO dM hr rfl dP dO dN (iJ (ak 0) (bK (JE.d (bx fX aG (JE.d (ak 4)))) cD))))
  (aA (aW (i:=6) bA.nd rfl (by first | exact Or.inl rfl | exact Or.inr rfl) (bx dZ (JE.d (fT (aq aG aC))) (JE.d (eU (ez (bB:=["_law_many","_law_turn"]) (cap:=[4,5]) rfl (by decide) rfl (by decide) rfl rfl (by decide) (by first | exact Or.inl rfl | exact Or.inr rfl) (by decide) rfl rfl rfl) rfl (dR rfl cA (aq (JE.d (bx mK (JE.d (bx fX aG (JE.d (ak 4)))) aG)) aC)) (fun _ _ _ _=>cj) (fun _ _ _ _=>(JE.d (bx dZ aG (JE.d (bx i7 (JE.d (bx dZ (JE.d (ak 0)) (JE.d (ak 2)))) (JE.d (bx mK (JE.d (bx fX aG (JE.d (ak 1)))) aG)))))))))))
  (aA (aW (i:=7) bA.nd rfl (by first | exact Or.inl rfl | exact Or.inr rfl) (bx vA (JE.d (fT (aq (JE.d (ju aC)) aC))) (JE.d (bx fX aG (JE.d (ak 4))))))
  (aA (aW (i:=8) bA.nd rfl (by first | exact Or.inl rfl | exact Or.inr rfl) (bx vA (JE.d (fT (aq qp aC))) (JE.d (bx fX aG (JE.d (ak 4))))))
  (aA (iI PassesOwn.never rfl (dR rfl cA (aq (JE.d (bx fX aG (JE.d (ak 4)))) aC)) (cJ (i:=9) bA.nd rfl (by first | exact Or.inl rfl | exact Or.inr rfl)) (aA (kr (i:=10) bA.nd rfl (by first | exact Or.inl rfl | exact Or.inr rfl) (ez (bB:=["_law_feed_here","_law_many","_law_names"]) (cap:=[0,4,6]) rfl (by decide) rfl (by decide) rfl rfl (by decide) (by first | exact Or.inl rfl | exact Or.inr rfl) (by decide) rfl rfl rfl) rfl (cY (aX (i:=2) (aY hr) (JE.d (bx i7 (JE.d (ak 9)) (JE.d (ak 4)))) (fun _ _=>rfl))) (fun _ _ _ _=>cj) (fun _ _ _ _=>(aX (i:=3) (aY hr) (JE.d (bx dZ (JE.d (ak 0)) (JE.d (bx fX (JE.d (ak 2)) (JE.d (bO dM hr rfl dP dO dN (iJ (ak 1) (bK aG cD)))))))) (fun _ _=>rfl))))
  (aA (kR (i:=7) (aY hr) (aX (i:=6) (aY hr) (JE.d (ak 9)) (fun _ _=>rfl)) (JE.d (bS bJ rfl bX PyProof.Rows.Boot.tuple (aq (JE.d (ak 10)) aC))))
  (bg (kR (i:=8) (aY hr) (aX (i:=6) (aY hr) (JE.d (ak 9)) (fun _ _=>rfl)) (aX (i:=3) (aY hr) (JE.d (bx i7 (JE.d (ak 9)) (JE.d (ak 4)))) (fun _ _=>rfl)))))))
  (bg (d9 (ju (aq (JE.d (bS bJ rfl bX PyProof.Rows.Boot.tuple (aq (JE.d (ak 7)) aC))) (aq (JE.d (bS bJ rfl bX PyProof.Rows.Boot.tuple (aq (JE.d (ak 8)) aC))) aC))))))))))))) hf
noncomputable abbrev o9:Stmt:=top 21
theorem lq:cR ["_law_script","_law_table_here","_law_k","_law_feed_here","_law_judge","_law_other","_law_due","_law_kept","_law_one"] ["_law_script"] (aO o9):=⟨rfl,rfl,rfl,by decide +kernel,rfl,by decide +kernel,by decide +kernel⟩
theorem JX {P:Program}{w:World}{K:PySem.W.Frag}{mg:Str->Option Value}{base:Heap}{f:Addr}{fd:FuncData}{n:Nat}{fm:FM}(F:tK K "law" "law" o9 f fd) (cA:mg "range" =none) (o7:mg "repr" =none)
  {mG:Addr}{qG:FuncData}{aR:FM}(ym:dD P w K mg base j7 n mG qG ["_law_feed_here"] (spT K 1 aR)) (yp:Binds K qG ["_law_feed_here"] []) (yq:PySem.W.keepIn K (.ref mG)=true) (yr:mg "_law_table" =some (.ref mG))
  {nQ:Addr}{sX:FuncData}{aU:FM}(sY:dD P w K mg base j7 n nQ sX ["_law_script","_law_k"] (spT K 2 aU)) (sZ:Binds K sX ["_law_script","_law_k"] []) (tu:PySem.W.keepIn K (.ref nQ)=true) (tw:mg "_law_feed" =some (.ref nQ))
  {ki:Addr}{nu:FuncData}{aI:FM}(uo:dD P w K mg base j7 n ki nu ["_law_feed_here","_law_table_here","_law_menu"] (spT K 3 aI)) (uq:Binds K nu ["_law_feed_here","_law_table_here","_law_menu"] []) (ur:PySem.W.keepIn K (.ref ki)=true) (uu:mg "_law_machine" =some (.ref ki))
  {jv:Addr}{lC:FuncData}{aB:FM}(qQ:dD P w K mg base j7 n jv lC ["_law_feed_here","_law_judge"] (spT K 2 aB)) (qR:Binds K lC ["_law_feed_here","_law_judge"] []) (qT:PySem.W.keepIn K (.ref jv)=true) (qU:mg "_law_otherwise" =some (.ref jv))
  {mH:Addr}{qH:FuncData}{aP:FM}(yt:dD P w K mg base j7 n mH qH ["_law_nexts","_law_marks"] (spT K 2 aP)) (yu:Binds K qH ["_law_nexts","_law_marks"] []) (yw:PySem.W.keepIn K (.ref mH)=true) (yx:mg "_law_least" =some (.ref mH))
  {lu:Addr}{pg:FuncData}{aM:FM}(v7:dD P w K mg base j7 n lu pg ["table","judge"] (spT K 2 aM)) (v8:Binds K pg ["table","judge"] []) (v9:PySem.W.keepIn K (.ref lu)=true) (wc:mg "least_judge" =some (.ref lu))
  (hf:∀us r,fm us=some r->bY 9 (xZ aR aU aI aB aP aM) us=some r):dD P w K mg base j7 (n+1) f fd ["_law_script"] (spT K 1 fm):=
 yD (g:=xZ aR aU aI aB aP aM) F lq (fun cdv A outer s H E hr=>(aA (aW (i:=1) lq.nd rfl (by first | exact Or.inl rfl | exact Or.inr rfl) (bO ym hr rfl yr yq yp (iJ (bO sY hr rfl tw tu sZ (iJ (ak 0) (bK aG cD))) cD)))
  (aA (iI PassesOwn.never rfl (dR rfl cA (aq aG aC)) (cJ (i:=2) lq.nd rfl (by first | exact Or.inl rfl | exact Or.inr rfl)) (aA (aW (i:=3) lq.nd rfl (by first | exact Or.inl rfl | exact Or.inr rfl) (bO sY hr rfl tw tu sZ (iJ (ak 0) (bK (JE.d (bx dZ aG (JE.d (ak 2)))) cD))))
  (aA (aW (i:=4) lq.nd rfl (by first | exact Or.inl rfl | exact Or.inr rfl) (bO uo hr rfl uu ur uq (iJ (ak 3) (bK (JE.d (ak 1)) (bK (JE.d (fT (aq qp (aq qp aC)))) cD)))))
  (aA (aW (i:=5) lq.nd rfl (by first | exact Or.inl rfl | exact Or.inr rfl) (bO qQ hr rfl qU qT qR (iJ (ak 3) (bK (JE.d (ak 4)) cD))))
  (aA (aW (i:=6) lq.nd rfl (by first | exact Or.inl rfl | exact Or.inr rfl) (GJ Ls (JE.d (bO yt hr rfl yx yw yu (bK (aX (i:=4) (aY hr) aG (fun _ _=>rfl)) (bK (aX (i:=4) (aY hr) aG (fun _ _=>rfl)) cD)))) aG (fun _ _=>rfl)))
  (aA (aW (i:=7) lq.nd rfl (by first | exact Or.inl rfl | exact Or.inr rfl) (gP (jO hr.gd hr.units) rfl o7 PyProof.Rows.Boot.repr (aq (JE.d (fT (aq (JE.d (ak 4)) (aq (JE.d (ak 5)) aC)))) aC)))
  (aA (iI PassesOwn.never rfl (cY (JE.d (fT (aq (JE.d (ak 4)) (aq (JE.d (ak 5)) (aq (JE.d (ak 6)) aC)))))) (cJ (i:=8) lq.nd rfl (by first | exact Or.inl rfl | exact Or.inr rfl)) (bg (lz (jI (CK hr.units) (JE.d (gP (jO hr.gd hr.units) rfl o7 PyProof.Rows.Boot.repr (aq (JE.d (bO v7 hr rfl wc v9 v8 (bK (JE.d (ak 1)) (bK (JE.d (ak 8)) cD)))) aC))) (JE.d (gP (jO hr.gd hr.units) rfl o7 PyProof.Rows.Boot.repr (aq (JE.d (ak 6)) aC)))) (bg (d9 (JD.e qp))) jK)))
  (bg (lz (jI (CK hr.units) (JE.d (gP (jO hr.gd hr.units) rfl o7 PyProof.Rows.Boot.repr (aq (JE.d (fT (aq (JE.d (ak 4)) (aq (JE.d (ak 5)) aC)))) aC))) (JE.d (ak 7))) (bg (d9 (JD.e qp))) jK)))))))))
  (bg (d9 (JD.e qp)))))) hf
end K42
end
namespace K42
open PySem L2 Sw Sq Sl Sk
set_option maxHeartbeats 0 in
theorem all_mk {l:PySem.W.OpenLaw}{w:World}{K:PySem.W.Frag}{h:Heap}{mg:Str->Option Value}{fa f1 f2 f3 f4 f5 f6 f7 f8 f9 Q5 f11 Q6 Q7 Q8 Q9 Rb:Addr}(X:K.In h) (G:h.Ns mainGlobals mg) (Lx:mg "law" =some (.ref fa))
  {Vh Vi Vj Vk Vl Vm Vn Vo Vp Vq Vr Vs Vt Vu Vv Vw Vx Vy Rc Rf Rg Rh Ri Rj Rk Rl Rm Rn Ro Rp Rq MR:Option Addr}{Vz sl2 VA VB VC VE VF VG VH Rr Rt Ru Rv Rw Rx Ry:Array (Option Value)} {VI VJ VL VM TQ VN VO VP VQ VR TR VS VT VU VW VX TU VY VZ V0 V1 V2 TV V3 V4 V5 V6 V7 TX V8 V9 Wa Wb Wc TY We Wf Wg Wh Wi TZ Wj Wk Wl Wm Wn T5 Wo Wq Wr Ws Wt T6 Wu Rz RA RB RC MS RE RG RH RI RJ MT RK RL RM RO RP MU RQ RS RU RV RW MV RX RY RZ R5 R6 MW R7 R8 R9 Sa Sd MX Se Sg MY MZ M0 JY M1:Value}
  (a1:PySem.W.nsIn K mainGlobals "reached" =some (some (.ref f1))) (l1:K.lookup f1=some ⟨VI,Vh,.func (PySem.W.fnOf "reached" "reached" (cI jF) (bZ jF) (aO jF) .none VJ VL VM Vi TQ VN),Vz⟩) (c1:PySem.W.codeIn K TQ "reached" =true) (k1:PySem.W.keepIn K (.ref f1)=true)
  (a2:PySem.W.nsIn K mainGlobals "numbered" =some (some (.ref f2))) (l2:K.lookup f2=some ⟨VO,Vj,.func (PySem.W.fnOf "numbered" "numbered" (cI iX) (bZ iX) (aO iX) .none VP VQ VR Vk TR VS),sl2⟩) (c2:PySem.W.codeIn K TR "numbered" =true) (k2:PySem.W.keepIn K (.ref f2)=true)
  (a3:PySem.W.nsIn K mainGlobals "told_apart" =some (some (.ref f3))) (l3:K.lookup f3=some ⟨VT,Vl,.func (PySem.W.fnOf "told_apart" "told_apart" (cI gI) (bZ gI) (aO gI) .none VU VW VX Vm TU VY),VA⟩) (c3:PySem.W.codeIn K TU "told_apart" =true) (k3:PySem.W.keepIn K (.ref f3)=true)
  (a4:PySem.W.nsIn K mainGlobals "least_machine" =some (some (.ref f4))) (l4:K.lookup f4=some ⟨VZ,Vn,.func (PySem.W.fnOf "least_machine" "least_machine" (cI dX) (bZ dX) (aO dX) .none V0 V1 V2 Vo TV V3),VB⟩) (c4:PySem.W.codeIn K TV "least_machine" =true) (k4:PySem.W.keepIn K (.ref f4)=true)
  (a5:PySem.W.nsIn K mainGlobals "least_judge" =some (some (.ref f5))) (l5:K.lookup f5=some ⟨V4,Vp,.func (PySem.W.fnOf "least_judge" "least_judge" (cI fQ) (bZ fQ) (aO fQ) .none V5 V6 V7 Vq TX V8),VC⟩) (c5:PySem.W.codeIn K TX "least_judge" =true) (k5:PySem.W.keepIn K (.ref f5)=true)
  (a6:PySem.W.nsIn K mainGlobals "_law_mix" =some (some (.ref f6))) (l6:K.lookup f6=some ⟨V9,Vr,.func (PySem.W.fnOf "_law_mix" "_law_mix" (cI iY) (bZ iY) (aO iY) .none Wa Wb Wc Vs TY We),VE⟩) (c6:PySem.W.codeIn K TY "_law_mix" =true) (k6:PySem.W.keepIn K (.ref f6)=true)
  (a7:PySem.W.nsIn K mainGlobals "_law_feed" =some (some (.ref f7))) (l7:K.lookup f7=some ⟨Wf,Vt,.func (PySem.W.fnOf "_law_feed" "_law_feed" (cI iw) (bZ iw) (aO iw) .none Wg Wh Wi Vu TZ Wj),VF⟩) (c7:PySem.W.codeIn K TZ "_law_feed" =true) (k7:PySem.W.keepIn K (.ref f7)=true)
  (a8:PySem.W.nsIn K mainGlobals "_law_take" =some (some (.ref f8))) (l8:K.lookup f8=some ⟨Wk,Vv,.func (PySem.W.fnOf "_law_take" "_law_take" (cI iy) (bZ iy) (aO iy) .none Wl Wm Wn Vw T5 Wo),VG⟩) (c8:PySem.W.codeIn K T5 "_law_take" =true) (k8:PySem.W.keepIn K (.ref f8)=true)
  (a9:PySem.W.nsIn K mainGlobals "_law_table" =some (some (.ref f9))) (l9:K.lookup f9=some ⟨Wq,Vx,.func (PySem.W.fnOf "_law_table" "_law_table" (cI gJ) (bZ gJ) (aO gJ) .none Wr Ws Wt Vy T6 Wu),VH⟩) (c9:PySem.W.codeIn K T6 "_law_table" =true) (k9:PySem.W.keepIn K (.ref f9)=true)
  (a10:PySem.W.nsIn K mainGlobals "_law_happenings" =some (some (.ref Q5))) (Sh:K.lookup Q5=some ⟨Rz,Rc,.func (PySem.W.fnOf "_law_happenings" "_law_happenings" (cI cU) (bZ cU) (aO cU) .none RA RB RC Rf MS RE),Rr⟩) (Si:PySem.W.codeIn K MS "_law_happenings" =true) (N8:PySem.W.keepIn K (.ref Q5)=true)
  (a11:PySem.W.nsIn K mainGlobals "_law_machine" =some (some (.ref f11))) (Sj:K.lookup f11=some ⟨RG,Rg,.func (PySem.W.fnOf "_law_machine" "_law_machine" (cI eY) (bZ eY) (aO eY) .none RH RI RJ Rh MT RK),Rt⟩) (Sm:PySem.W.codeIn K MT "_law_machine" =true) (N9:PySem.W.keepIn K (.ref f11)=true)
  (a12:PySem.W.nsIn K mainGlobals "_law_numbered" =some (some (.ref Q6))) (So:K.lookup Q6=some ⟨RL,Ri,.func (PySem.W.fnOf "_law_numbered" "_law_numbered" (cI dY) (bZ dY) (aO dY) .none RM RO RP Rj MU RQ),Ru⟩) (c12:PySem.W.codeIn K MU "_law_numbered" =true) (Ed:PySem.W.keepIn K (.ref Q6)=true)
  (a13:PySem.W.nsIn K mainGlobals "_law_classes" =some (some (.ref Q7))) (Ss:K.lookup Q7=some ⟨RS,Rk,.func (PySem.W.fnOf "_law_classes" "_law_classes" (cI eZ) (bZ eZ) (aO eZ) .none RU RV RW Rl MV RX),Rv⟩) (Su:PySem.W.codeIn K MV "_law_classes" =true) (Oa:PySem.W.keepIn K (.ref Q7)=true)
  (a14:PySem.W.nsIn K mainGlobals "_law_least" =some (some (.ref Q8))) (Sv:K.lookup Q8=some ⟨RY,Rm,.func (PySem.W.fnOf "_law_least" "_law_least" (cI gK) (bZ gK) (aO gK) .none RZ R5 R6 Rn MW R7),Rw⟩) (Sy:PySem.W.codeIn K MW "_law_least" =true) (Ob:PySem.W.keepIn K (.ref Q8)=true)
  (a15:PySem.W.nsIn K mainGlobals "_law_otherwise" =some (some (.ref Q9))) (Sz:K.lookup Q9=some ⟨R8,Ro,.func (PySem.W.fnOf "_law_otherwise" "_law_otherwise" (cI dB) (bZ dB) (aO dB) .none R9 Sa Sd Rp MX Se),Rx⟩) (SA:PySem.W.codeIn K MX "_law_otherwise" =true) (Oc:PySem.W.keepIn K (.ref Q9)=true)
  (a16:PySem.W.nsIn K mainGlobals "law" =some (some (.ref Rb))) (SD:K.lookup Rb=some ⟨Sg,Rq,.func (PySem.W.fnOf "law" "law" (cI o9) (bZ o9) (aO o9) .none MY MZ M0 MR JY M1),Ry⟩) (SE:PySem.W.codeIn K JY "law" =true) (SG:PySem.W.keepIn K (.ref Rb)=true)
  (D9:PySem.W.nsIn K mainGlobals "list" =some none) (zdict:PySem.W.nsIn K mainGlobals "dict" =some none) (JZ:PySem.W.nsIn K mainGlobals "len" =some none) (J0:PySem.W.nsIn K mainGlobals "max" =some none) (nR:PySem.W.nsIn K mainGlobals "enumerate" =some none) (zG:PySem.W.nsIn K mainGlobals "tuple" =some none) (zH:PySem.W.nsIn K mainGlobals "range" =some none) (J1:PySem.W.nsIn K mainGlobals "int" =some none) (J2:PySem.W.nsIn K mainGlobals "min" =some none) (Ea:PySem.W.nsIn K mainGlobals "repr" =some none):
  ∃fd:FuncData,(∀(s:Shared) (v:Value),BindsTo s fd ⟨[v],[]⟩ [("_law_script",v)])/\∀base:Heap,K.In base->base.Ns mainGlobals mg->dD l.prog w K mg base j7 5 fa fd ["_law_script"] (spT K 1 (zo 63)):=by
 have e:=Lx.symm.trans (PySem.W.mg_of X G a16)
 cases e
 have F1:=gM (st:=jF) l1 c1 k1
 have b1:=F1.binds (ps:=["nexts","begin"]) fun _ _ _ _ _ _ us hl=>match us,hl with | [_,_],_=>rfl
 have n1:=PySem.W.mg_of X G a1
 have F2:=gM (st:=iX) l2 c2 k2
 have b2:=F2.binds (ps:=["signs"]) fun _ _ _ _ _ _ us hl=>match us,hl with | [_],_=>rfl
 have n2:=PySem.W.mg_of X G a2
 have F3:=gM (st:=gI) l3 c3 k3
 have b3:=F3.binds (ps:=["nexts","words","most"]) fun _ _ _ _ _ _ us hl=>match us,hl with | [_,_,_],_=>rfl
 have n3:=PySem.W.mg_of X G a3
 have F4:=gM (st:=dX) l4 c4 k4
 have b4:=F4.binds (ps:=["nexts","words","most"]) fun _ _ _ _ _ _ us hl=>match us,hl with | [_,_,_],_=>rfl
 have n4:=PySem.W.mg_of X G a4
 have F5:=gM (st:=fQ) l5 c5 k5
 have b5:=F5.binds (ps:=["table","judge"]) fun _ _ _ _ _ _ us hl=>match us,hl with | [_,_],_=>rfl
 have n5:=PySem.W.mg_of X G a5
 have F6:=gM (st:=iY) l6 c6 k6
 have b6:=F6.binds (ps:=["_law_cell","_law_k"]) fun _ _ _ _ _ _ us hl=>match us,hl with | [_,_],_=>rfl
 have n6:=PySem.W.mg_of X G a6
 have F7:=gM (st:=iw) l7 c7 k7
 have b7:=F7.binds (ps:=["_law_script","_law_k"]) fun _ _ _ _ _ _ us hl=>match us,hl with | [_,_],_=>rfl
 have n7:=PySem.W.mg_of X G a7
 have F8:=gM (st:=iy) l8 c8 k8
 have b8:=F8.binds (ps:=["_law_feed_here","_law_many"]) fun _ _ _ _ _ _ us hl=>match us,hl with | [_,_],_=>rfl
 have n8:=PySem.W.mg_of X G a8
 have F9:=gM (st:=gJ) l9 c9 k9
 have b9:=F9.binds (ps:=["_law_feed_here"]) fun _ _ _ _ _ _ us hl=>match us,hl with | [_],_=>rfl
 have n9:=PySem.W.mg_of X G a9
 have T7:=gM (st:=cU) Sh Si N8
 have Ku:=T7.binds (ps:=["_law_table_here"]) fun _ _ _ _ _ _ us hl=>match us,hl with | [_],_=>rfl
 have Wv:=PySem.W.mg_of X G a10
 have T8:=gM (st:=eY) Sj Sm N9
 have Ww:=T8.binds (ps:=["_law_feed_here","_law_table_here","_law_menu"]) fun _ _ _ _ _ _ us hl=>match us,hl with | [_,_,_],_=>rfl
 have Wx:=PySem.W.mg_of X G a11
 have T9:=gM (st:=dY) So c12 Ed
 have Wy:=T9.binds (ps:=["_law_firsts"]) fun _ _ _ _ _ _ us hl=>match us,hl with | [_],_=>rfl
 have Wz:=PySem.W.mg_of X G a12
 have Ua:=gM (st:=eZ) Ss Su Oa
 have WA:=Ua.binds (ps:=["_law_nexts","_law_marks"]) fun _ _ _ _ _ _ us hl=>match us,hl with | [_,_],_=>rfl
 have WB:=PySem.W.mg_of X G a13
 have Ub:=gM (st:=gK) Sv Sy Ob
 have WC:=Ub.binds (ps:=["_law_nexts","_law_marks"]) fun _ _ _ _ _ _ us hl=>match us,hl with | [_,_],_=>rfl
 have WD:=PySem.W.mg_of X G a14
 have Uc:=gM (st:=dB) Sz SA Oc
 have WE:=Uc.binds (ps:=["_law_feed_here","_law_judge"]) fun _ _ _ _ _ _ us hl=>match us,hl with | [_,_],_=>rfl
 have WG:=PySem.W.mg_of X G a15
 have WH:=gM (st:=o9) SD SE SG
 have D3:=PySem.W.mg_none_of X G D9
 have D4:=PySem.W.mg_none_of X G zdict
 have gT:=PySem.W.mg_none_of X G JZ
 have zF:=PySem.W.mg_none_of X G J0
 have ia:=PySem.W.mg_none_of X G nR
 have bX:=PySem.W.mg_none_of X G zG
 have cA:=PySem.W.mg_none_of X G zH
 have JR:=PySem.W.mg_none_of X G J1
 have JV:=PySem.W.mg_none_of X G J2
 have o7:=PySem.W.mg_none_of X G Ea
 refine⟨PySem.W.fnOf "law" "law" (cI o9) (bZ o9) (aO o9) .none MY MZ M0 MR JY M1,fun s v=>.of_eq rfl,fun base _ _=>?_⟩
 have Eb:=zE (P:=l.prog) (w:=w) (K:=K) (mg:=mg) (base:=base) (n:=0) F1 D3 D4 gT (fm:=reachF) Bv
 have BG:=ya (P:=l.prog) (w:=w) (K:=K) (mg:=mg) (base:=base) (n:=0) F2 gT (fm:=sD) Fv
 have uV:=yj (P:=l.prog) (w:=w) (K:=K) (mg:=mg) (base:=base) (n:=0) F6 (fm:=xE) Fj
 have qi:=nP (P:=l.prog) (w:=w) (K:=K) (mg:=mg) (base:=base) (n:=0) T7 cA (fm:=lA) Dh
 have tF:=qh (P:=l.prog) (w:=w) (K:=K) (mg:=mg) (base:=base) (n:=0) T9 gT (fm:=j5) Dr
 have yy:=uc (P:=l.prog) (w:=w) (K:=K) (mg:=mg) (base:=base) (n:=1) F3 zF ia bX (BG.mono (by omega)) b2 k2 n2 (fm:=jx) DI
 have zI:=vZ (P:=l.prog) (w:=w) (K:=K) (mg:=mg) (base:=base) (n:=1) F7 gT JR (uV.mono (by omega)) b6 k6 n6 (fm:=qC) Dd
 have nT:=v5 (P:=l.prog) (w:=w) (K:=K) (mg:=mg) (base:=base) (n:=1) F8 (uV.mono (by omega)) b6 k6 n6 (fm:=cu) De
 have uv:=qP (P:=l.prog) (w:=w) (K:=K) (mg:=mg) (base:=base) (n:=1) Ua o7 gT cA bX (tF.mono (by omega)) Wy Ed Wz (fm:=zx) Je
 have tG:=p5 (P:=l.prog) (w:=w) (K:=K) (mg:=mg) (base:=base) (n:=2) F4 ia zF cA bX (Eb.mono (by omega)) b1 k1 n1 (yy.mono (by omega)) b3 k3 n3 (fm:=sL) BD
 have yz:=ud (P:=l.prog) (w:=w) (K:=K) (mg:=mg) (base:=base) (n:=2) F9 cA JV bX (nT.mono (by omega)) b8 k8 n8 (fm:=Bp) Df
 have uw:=qO (P:=l.prog) (w:=w) (K:=K) (mg:=mg) (base:=base) (n:=2) T8 gT cA bX (nT.mono (by omega)) b8 k8 n8 (qi.mono (by omega)) Ku N8 Wv (fm:=Ar) Di
 have yC:=ue (P:=l.prog) (w:=w) (K:=K) (mg:=mg) (base:=base) (n:=2) Ub gT cA bX (uv.mono (by omega)) WA Oa WB (fm:=rD) zC
 have qV:=o8 (P:=l.prog) (w:=w) (K:=K) (mg:=mg) (base:=base) (n:=2) Uc gT cA bX (nT.mono (by omega)) b8 k8 n8 (fm:=Ge) Gf
 have we:=sR (P:=l.prog) (w:=w) (K:=K) (mg:=mg) (base:=base) (n:=3) F5 (tG.mono (by omega)) b4 k4 n4 (fm:=NX) JL
 exact JX (P:=l.prog) (w:=w) (K:=K) (mg:=mg) (base:=base) (n:=4) WH cA o7 (yz.mono (by omega)) b9 k9 n9 (zI.mono (by omega)) b7 k7 n7 (uw.mono (by omega)) Ww N9 Wx (qV.mono (by omega)) WE Oc WG (yC.mono (by omega)) WC Ob WD (we.mono (by omega)) b5 k5 n5 BF
theorem walk {l:PySem.W.OpenLaw}{q:Program}{loose:List Str}{XP:(Str->Option Value)->Heap->Prop}{YP:World->Heap->Prop}{d:DefRec}{K:Params->PySem.W.Frag}(hn:l.most=some 63) (hdf:d.params.defaults=[])
  (hY:∀(w:World) (h:Heap),YP w h->(K w.params).In h)
  (F:∀(w:World) (mg:Str->Option Value) (fa:Addr) (h:Heap),(K w.params).In h->h.Ns mainGlobals mg->mg d.name=some (.ref fa)->
   ∃fd:FuncData,(∀(s:Shared) (u:Value),BindsTo s fd ⟨[u],[]⟩ [("_law_script",u)])/\∀base:Heap,(K w.params).In base->base.Ns mainGlobals mg->dD l.prog w (K w.params) mg base j7 5 fa fd ["_law_script"] (spT (K w.params) 1 (zo 63))):
  PySem.W.WalkO q loose XP YP l.row.toRowW d [] (fun f vs=>PySem.call f vs):=
 L2.EI (n:=63) (k:=5) (x:="_law_script") (CX:=fun _=>j7) (sp:=fun w=>spT (K w.params) 1 (zo 63)) hn (by decide) hdf ⟨rfl,by decide,by decide,rfl⟩ hY F (fun w H a ns hl hO hS=>IU hl hO hS) fun _ _ _ _ _ z=>z
end K42
open PySem PySem.W PyProof.Rows
noncomputable def PySem.W.Fast.tw4504041920486929145:Nat->Stmt:=K42.top
theorem PySem.W.Fast.te4504041920486929145:K42.top=PySem.W.Fast.tw4504041920486929145:=rfl
def K42.sc:Scope:=PySem.Challenge.pw_surewatch_k42_least_judges.main.scope
noncomputable def PySem.W.Fast.tw696901714288787909:Scope:=K42.sc
theorem PySem.W.Fast.te696901714288787909:K42.sc=PySem.W.Fast.tw696901714288787909:=rfl
def K42.pw:Program:={main:={body:=[K42.top 0,K42.top 1,K42.top 2,K42.top 3,K42.top 4,K42.top 5,K42.top 6,K42.top 7,K42.top 8,K42.top 9,K42.top 10,K42.top 11,K42.top 12,K42.top 13,K42.top 14,K42.top 15,K42.top 16,K42.top 17,K42.top 18,K42.top 19,K42.top 20,K42.top 21],scope:=K42.sc,futureAnnotations:=false,file:="/claim/cut.py",more:=[]},modules:=[],parses:=[],absent:=[],harvested:=[],given:={argv:=[],stdin:=[],environ:=some [([76,67,95,65,76,76],[67,46,85,84,70,45,56])]}}
def K42.rw:OpenLaw:={prog:=K42.pw,name:=(PySem.Str.ofString "law"),about:=[(PySem.Str.ofString "least_judge")],foot:=11,most:=some 63,bound:=none,writes:=false}
noncomputable def PySem.W.Fast.tw14220575356898866443:=0
noncomputable def PySem.W.Fast.tw13399544443284043432:=0
noncomputable def PySem.W.Fast.tw15222577949781453912:=0
noncomputable def PySem.W.Fast.tw15116630784022741215:=0
noncomputable def PySem.W.Fast.tw3255025620919435878:=0
noncomputable def PySem.W.Fast.tw3737175633972629671:=0
noncomputable def PySem.W.Fast.tw6917715868971367486:=0
noncomputable def PySem.W.Fast.tw14576937209170814325:=0
noncomputable def PySem.W.Fast.tw557231370633655131:=0
noncomputable def PySem.W.Fast.tw12964837993919361219:=0
noncomputable def PySem.W.Fast.tw15697299923242527178:=0
noncomputable def PySem.W.Fast.tw1939344387240014478:=0
noncomputable def PySem.W.Fast.tw11615716727873258436:=0
noncomputable def PySem.W.Fast.tw16845261978881036242:=0
noncomputable def PySem.W.Fast.tw7102969423075716780:=0
noncomputable def PySem.W.Fast.tw18151171412898731014:=0
noncomputable def PySem.W.Fast.tw6857979550136613941:=0
noncomputable def PySem.W.Fast.tw10106011919800260336:=0
noncomputable def PySem.W.Fast.tw11144812568539538:=0
noncomputable def PySem.W.Fast.tw12527905162070450904:=0
noncomputable def PySem.W.Fast.tw8561119528001485575:=0
noncomputable def PySem.W.Fast.tw6289080312525602089:=0
noncomputable def PySem.W.Fast.tw1509118577899394186:=0
noncomputable def PySem.W.Fast.tw1838488505442766056:=0
noncomputable def PySem.W.Fast.tw174565196086180787:=0
noncomputable def PySem.W.Fast.tw11170306953591257496:=0
noncomputable def PySem.W.Fast.tw424974977681357133:=0
noncomputable def PySem.W.Fast.tw10042313898399645152:=0
noncomputable def PySem.W.Fast.tw3750678362310465393:=0
noncomputable def PySem.W.Fast.tw15416074552919179403:=0
noncomputable def PySem.W.Fast.tw3146441497450148323:=0
noncomputable def PySem.W.Fast.tw9301639099722882328:=0
set_option maxRecDepth 100000 in
set_option maxHeartbeats 0 in
theorem K42.holds:K42.rw.Holds:=by
 w_on;o_law;k_head;(case hw=>w_witness2)
 k_fill
 refine K42.walk (l:=K42.rw) rfl rfl (fun w h Y=>PySem.W.kIn_of Y) ?F
 case F=>
  intro w mg fa h KX G hmg
  refine' K42.all_mk KX G hmg ?a1 ?l1 ?c1 ?k1 ?a2 ?l2 ?c2 ?k2 ?a3 ?l3 ?c3 ?k3 ?a4 ?l4 ?c4 ?k4 ?a5 ?l5 ?c5 ?k5 ?a6 ?l6 ?c6 ?k6 ?a7 ?l7 ?c7 ?k7 ?a8 ?l8 ?c8 ?k8 ?a9 ?l9 ?c9 ?k9 ?a10 ?Sh ?Si ?N8 ?a11 ?Sj ?Sm ?N9 ?a12 ?So ?c12 ?Ed ?a13 ?Ss ?Su ?Oa ?a14 ?Sv ?Sy ?Ob ?a15 ?Sz ?SA ?Oc ?a16 ?SD ?SE ?SG ?D9 ?zdict ?JZ ?J0 ?nR ?zG ?zH ?J1 ?J2 ?Ea
  (case a1=>k_is);(case l1=>k_is);(case c1=>k_is);(case k1=>k_is)
  (case a2=>k_is);(case l2=>k_is);(case c2=>k_is);(case k2=>k_is)
  (case a3=>k_is);(case l3=>k_is);(case c3=>k_is);(case k3=>k_is)
  (case a4=>k_is);(case l4=>k_is);(case c4=>k_is);(case k4=>k_is)
  (case a5=>k_is);(case l5=>k_is);(case c5=>k_is);(case k5=>k_is)
  (case a6=>k_is);(case l6=>k_is);(case c6=>k_is);(case k6=>k_is)
  (case a7=>k_is);(case l7=>k_is);(case c7=>k_is);(case k7=>k_is)
  (case a8=>k_is);(case l8=>k_is);(case c8=>k_is);(case k8=>k_is)
  (case a9=>k_is);(case l9=>k_is);(case c9=>k_is);(case k9=>k_is)
  (case a10=>k_is);(case Sh=>k_is);(case Si=>k_is);(case N8=>k_is)
  (case a11=>k_is);(case Sj=>k_is);(case Sm=>k_is);(case N9=>k_is)
  (case a12=>k_is);(case So=>k_is);(case c12=>k_is);(case Ed=>k_is)
  (case a13=>k_is);(case Ss=>k_is);(case Su=>k_is);(case Oa=>k_is)
  (case a14=>k_is);(case Sv=>k_is);(case Sy=>k_is);(case Ob=>k_is)
  (case a15=>k_is);(case Sz=>k_is);(case SA=>k_is);(case Oc=>k_is)
  (case a16=>k_is);(case SD=>k_is);(case SE=>k_is);(case SG=>k_is)
  (case D9=>k_is);(case zdict=>k_is);(case JZ=>k_is);(case J0=>k_is);(case nR=>k_is);(case zG=>k_is);(case zH=>k_is);(case J1=>k_is);(case J2=>k_is);(case Ea=>k_is)
theorem PySem.Challenge.cw_surewatch_k42_least_judges_holds : PySem.Challenge.rw_surewatch_k42_least_judges.Holds :=
 K42.holds
