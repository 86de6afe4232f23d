import PyProof.Rows.All
import Wide.All
import OpenK.AllK
import Wide.FinOn
import PyProof.EqAt
import PyProof.EqKinds
import PyProof.TupleCall
import Lean
import PySem.Challenge.RW_surewatch_k55_put_together
set_option Elab.async false
set_option linter.all false
set_option maxRecDepth 100000
section
section
namespace L2
open PySem PySem.Spec PyProof.Rows
inductive D where
 | dh | bl (b:Bool) | int (i:Int) | str (z:Str) | tup (ds:List D) | lst (ds:List D)
mutual
noncomputable def D.same:D->D->Bool
 | .dh,.dh=>true
 | .bl a,.bl b=>a == b
 | .int a,.int b=>a == b
 | .str a,.str b=>decide (a=b)
 | .tup a,.tup b=>D.pJ a b
 | .lst a,.lst b=>D.pJ a b
 | _,_=>false
noncomputable def D.pJ:List D->List D->Bool
 | [],[]=>true
 | a :: as,b :: bs=>D.same a b && D.pJ as bs
 | _,_=>false
end
mutual
theorem D.same_refl:∀a:D,D.same a a=true
 | .dh=>rfl
 | .bl _=>by simp[D.same]
 | .int _=>by simp[D.same]
 | .str _=>by simp[D.same]
 | .tup a=>by unfold D.same;exact D.oU a
 | .lst a=>by unfold D.same;exact D.oU a
theorem D.oU:∀a:List D,D.pJ a a=true
 | []=>rfl
 | a :: as=>by unfold D.pJ;rw[D.same_refl a,D.oU as];rfl
end
mutual
theorem D.same_eq:∀{a b:D},D.same a b=true->a=b
 | .dh,b,h=>by cases b <;> simp[D.same] at h ⊢
 | .bl _,b,h=>by cases b <;> simp[D.same] at h ⊢;exact h
 | .int _,b,h=>by cases b <;> simp[D.same] at h ⊢;exact h
 | .str _,b,h=>by cases b <;> simp[D.same] at h ⊢;exact h
 | .tup a,b,h=>by
  cases b with
  | tup b=>unfold D.same at h;rw[D.sG h]
  | _=>simp[D.same] at h
 | .lst a,b,h=>by
  cases b with
  | lst b=>unfold D.same at h;rw[D.sG h]
  | _=>simp[D.same] at h
theorem D.sG:∀{a b:List D},D.pJ a b=true->a=b
  | [],b,h=>by cases b <;> simp[D.pJ] at h ⊢
  | a :: as, b, h => by
    cases b with
    | nil=>simp[D.pJ] at h
    | cons b bs=>
      unfold D.pJ at h
      rw[Bool.and_eq_true] at h
      rw[D.same_eq h.1,D.sG h.2]
end
noncomputable instance:DecidableEq D:=fun a b=>if h:D.same a b=true then isTrue (D.same_eq h) else isFalse fun e=>h (e▸D.same_refl a)
noncomputable def bI (b:Bool):Int:=if b then 1 else 0
mutual
noncomputable def nf:D->D
 | .bl b=>.int (bI b)
 | .tup ds=>.tup (Gy ds)
 | d=>d
noncomputable def Gy:List D->List D
 | []=>[]
 | d :: ds=>nf d :: Gy ds
end
noncomputable def fV:Nat->D->Bool
 | _,.bl _=>true
 | _,.int _=>true
 | _,.str _=>true
 | n+1,.tup ds=>ds.all (fV n)
 | _,_=>false
mutual
theorem A3:∀(d:D) (n:Nat),fV n d=true->fV n (nf d)=true
 | .bl _,n,_=>by cases n <;> rfl
 | .int _,n,_=>by cases n <;> rfl
 | .str _,n,_=>by cases n <;> rfl
 | .dh,n,h=>by cases n <;> exact h
 | .lst _,n,h=>by cases n <;> exact h
 | .tup ds,0,h=>by exact h
 | .tup ds,n+1,h=>xE ds n h
theorem xE:∀(ds:List D) (n:Nat),ds.all (fV n)=true->(Gy ds).all (fV n)=true
 | [],n,_=>rfl
 | d :: ds,n,h=>by
  rw[List.all_cons,Bool.and_eq_true] at h
  show((nf d :: Gy ds).all (fV n))=true
  rw[List.all_cons,A3 d n h.1,xE ds n h.2]
  rfl
end
mutual
inductive uo (h:Heap):Value->D->Prop
 | bool (b:Bool):uo h (.bool b) (.int (bI b))
 | int (i:Int) (t:Tok):uo h (.int i t) (.int i)
 | str (x:Str) (t:Tok):uo h (.str x t) (.str x)
 | tup {a:Addr}{its:List Value}{ds:List D}(p:h.IsTuple a its.toArray) (r:kq h its ds):uo h (.ref a) (.tup ds)
inductive kq (h:Heap):List Value->List D->Prop
 | nil:kq h [] []
 | cons {u:Value}{d:D}{us:List Value}{ds:List D}(r:uo h u d) (rs:kq h us ds):kq h (u :: us) (d :: ds)
end
mutual
noncomputable def Dp (w:World):D->Int
 | .int i=>hashInt i
 | .str x=>hashStr w x
 | .tup ds=>reduceHash (Builtin.Tuple.tupleHashOf (oV w ds))
 | _=>0
noncomputable def oV (w:World):List D->List Int
 | []=>[]
 | d :: ds=>Dp w d :: oV w ds
end
mutual
noncomputable def vN:D->Nat
 | .tup ds=>r9 ds+1
 | _=>1
noncomputable def r9:List D->Nat
 | []=>0
 | d :: ds=>vN d+r9 ds
end
theorem kq.length {h:Heap}:∀{us:List Value}{ds:List D},kq h us ds->us.length=ds.length
 | _,_,.nil=>rfl
 | _,_,.cons _ rs=>congrArg Nat.succ (kq.length rs)
mutual
theorem uo.inj {h:Heap}:∀{v:Value}{d e:D},uo h v d->uo h v e->d=e
 | _,_,_,.bool b,r=>by cases r;rfl
 | _,_,_,.int i t,r=>by cases r;rfl
 | _,_,_,.str x t,r=>by cases r;rfl
 | _,_,_,@uo.tup _ a its ds p r,q=>by
  cases q with
  | @tup _ its' ds' p' r'=>
   obtain⟨o,h1,_,n,h2⟩:=p
   obtain⟨o',WS,_,n',h2'⟩:=p'
   rw[h1] at WS
   cases WS
   rw[h2] at h2'
   injection h2' with e1 _
   have e:its=its':=by simpa using congrArg Array.toList e1
   subst e
   rw[kq.inj r r']
theorem kq.inj {h:Heap}:∀{vs:List Value}{ds es:List D},kq h vs ds->kq h vs es->ds=es
 | _,_,_,.nil,r=>by cases r;rfl
 | _,_,_,.cons r1 s1,r=>by
  cases r with
  | cons r2 s2=>rw[uo.inj r1 r2,kq.inj s1 s2]
end
mutual
theorem uo.keeps {h h':Heap}{d:Addr}{o:Obj}{es:Array DictEntry}{ep:Nat}(ho:h.get? d=some o) (hd:o.data= .dict es ep) (hs:Heap.SameBut d h h'):∀{v:Value}{k:D},uo h v k->uo h' v k
 | _,_,.bool b=>.bool b
 | _,_,.int i t=>.int i t
 | _,_,.str x t=>.str x t
 | _,_,@uo.tup _ a its ds p r=>by
  obtain⟨o',h1,h2,n,h3⟩:=p
  have hne:a≠d:=by
   intro z
   subst z
   rw[ho] at h1
   cases h1
   rw[hd] at h3
   cases h3
  exact .tup ⟨o',(hs.2 a hne).trans h1,h2,n,h3⟩ (kq.keeps ho hd hs r)
theorem kq.keeps {h h':Heap}{d:Addr}{o:Obj}{es:Array DictEntry}{ep:Nat}(ho:h.get? d=some o) (hd:o.data= .dict es ep) (hs:Heap.SameBut d h h'):∀{v:List Value}{k:List D},kq h v k->kq h' v k
 | _,_,.nil=>.nil
 | _,_,.cons r1 s1=>.cons (uo.keeps ho hd hs r1) (kq.keeps ho hd hs s1)
end
section
variable {prog:Program}{w:World}{E:Value->Shared->Prop}
theorem qU {A:Around}{s:Shared}{b:Bool}{Q:Int->Shared->Prop}(h:Q (hashInt (bI b)) {s with toks:=s.toks+1}):wpAny (model prog w) A (pyHash (.bool b)) Q E s:=by
 refine PySem.W.pyHash_slot (T:="bool") rfl F.slot_bool_hash F.entry_int_hash (F.args_int_hash_1 _) (beq_builtin_none _) (.inl rfl) ?_
 cases b
 ·exact(show wpAny _ _ (do ret (<-mkInt 0)) _ _ s from wpAny_bind (wpAny_mkInt (wpAny_pure ⟨_,_,rfl,h⟩)))
 ·exact(show wpAny _ _ (do ret (<-mkInt 1)) _ _ s from wpAny_bind (wpAny_mkInt (wpAny_pure ⟨_,_,rfl,h⟩)))
mutual
theorem xF : ∀ (d : D) {n : Nat} {v : Value} {A : Around} {s : Shared} {Q : Int -> Shared -> Prop}, uo s.heap v d -> fV n d = true -> A.units + n < cLine -> Q (Dp w d) { s with toks := s.toks + vN d } -> wpAny (model prog w) A (pyHash v) Q E s
  | .int i,n,v,A,s,Q,x,_,_,h=>by
    cases x with
    | int=>exact wpAny_pyHash_int h
    | bool b=>exact qU h
  | .str y,n,v,A,s,Q,x,_,_,h=>by cases x;exact wpAny_pyHash_str h
  | .dh,n,v,A,s,Q,x,_,_,h=>by cases x
  | .bl _,n,v,A,s,Q,x,_,_,h=>by cases x
  | .lst _,n,v,A,s,Q,x,_,_,h=>by cases x
  | .tup ds,n,v,A,s,Q,x,hk,hu,h=>by
    cases n with
    | zero=>simp[fV] at hk
    | succ n=>
      cases x with
      | @tup a its _ p r=>
        obtain⟨o,hg,hc,m,hd⟩:=p
        refine PySem.W.pyHash_slot (T:="tuple") ⟨_,hg,hc⟩ F.slot_tuple_hash F.entry_tuple_hash (F.args_tuple_hash_1 _) (beq_builtin_none _) (.inr (by omega)) ?_
        show wpAny _ _ (Builtin.Tuple.tupleItemsOf (.ref a) >>= _) _ _ s
        refine wpAny_bind (wpAny_tupleItemsOf hg hd ?_)
        refine wpAny_bind ?_
        rw[<-Array.forIn_toList]
        refine uO ds (n:=n) (A:=A.in1) (b:=#[]) r hk (by rw[Around.in1_units];omega) fun b hb=>?_
        show wpAny _ _ (retInt (Builtin.Tuple.tupleHashOf b.toList)) _ _ _
        rw[hb]
        refine wpAny_bind (wpAny_mkInt (wpAny_pure ⟨_,_,rfl,?_⟩))
        have e:(#[]:Array Int).toList++oV w ds=oV w ds:=by simp
        rw[e]
        exact h
theorem uO:∀(ds:List D){n:Nat}{vs:List Value}{A:Around}{s:Shared}{b:Array Int}{Q:Array Int->Shared->Prop},kq s.heap vs ds->ds.all (fV n)=true->A.units+n < cLine->
    (∀b',b'.toList=b.toList++oV w ds->Q b' {s with toks:=s.toks+r9 ds})->
    wpAny (model prog w) A (forIn vs b fun x r=>do let h <-pyHash x;pure PUnit.unit;pure (ForInStep.yield (r.push h))) Q E s
  | [],n,_,A,s,b,Q,x,_,_,h=>by cases x;exact wpAny_pure (h b (by simp[oV]))
  | d :: ds, n, _, A, s, b, Q, x, hk, hu, h => by
    cases x with
    | cons x1 x2=>
      rw[List.all_cons,Bool.and_eq_true] at hk
      rw[List.forIn_cons]
      refine wpAny_bind (wpAny_bind (xF d (n:=n) x1 hk.1 hu ?_))
      refine wpAny_bind (wpAny_pure (wpAny_pure ?_))
      refine uO ds (n:=n) x2 hk.2 hu fun b' hb=>?_
      have q:=h b' (by simp[hb,oV])
      show Q b' {s with toks:=s.toks+vN d+r9 ds}
      rw[Nat.add_assoc]
      exact q
end
end
theorem vO (n:Nat) (f:Nat->Bool):(List.range (n+1)).all f=(f 0 && (List.range n).all fun j=>f (j+1)):=by
 rw[List.range_succ_eq_map,List.all_cons,List.all_map];rfl
theorem xG:∀ds es:List D,((List.range (min ds.length es.length)).all (fun j=>decide (ds[j]? =es[j]?)) && ds.length == es.length)=decide (ds=es)
  | [],[]=>by simp
  | [],e :: es=>by simp
  | d :: ds,[]=>by simp
  | d :: ds, e :: es => by
    have ih:=xG ds es
    have e1:min (d :: ds).length (e :: es).length=min ds.length es.length+1:=by simp only[List.length_cons];omega
    rw[e1,vO]
    have e2:(fun j=>decide ((d :: ds)[j+1]? =(e :: es)[j+1]?))=fun j=>decide (ds[j]? =es[j]?):=by funext j;simp
    have e3:((d :: ds).length == (e :: es).length)=(ds.length == es.length):=by simp
    have e4:decide ((d :: ds)[0]? =(e :: es)[0]?)=decide (d=e):=by simp
    have e5:decide (d :: ds=e :: es)=(decide (d=e) && decide (ds=es)):=by
      by_cases a:d=e
      . subst a;by_cases b:ds=es <;> simp[b]
      . simp[a]
    rw[e2,e3,e4,Bool.and_assoc,ih,e5]
theorem Dq {α:Type}(l:List α) (j:Nat) (h:j < l.toArray.size):l[j]? =some l.toArray[j]:=by
 have z:j < l.length:=by simpa using h
 simp[z]
mutual
theorem WT : ∀ (d : D) {e : D} {n : Nat} {A : Around} {s : Shared} {u v : Value}, uo s.heap u d -> uo s.heap v e -> fV n d = true -> A.units + n < cLine -> SeqAt.EqAt A s u v (decide (d = e))
  | .int i,e,n,A,s,u,v,r1,r2,_,hu=>by
    have di:∀i j:Int,decide (D.int i=D.int j)=(i == j):=fun i j=>by by_cases z:i=j <;> simp[z]
    cases r1 with
    | int _ t=>
      cases r2 with
      | int j t'=>rw[di];exact SeqAt.EqAt.int_int i t j t'
      | bool b=>rw[di];exact SeqAt.EqAt.int_bool i t b
      | str x t'=>exact SeqAt.EqAt.int_str i t x t'
      | tup p r=>exact SeqAt.EqAt.int_tuple i t p (by omega)
    | bool a=>
      cases r2 with
      | int j t'=>rw[di];exact SeqAt.EqAt.bool_int a j t'
      | bool b=>
        have:(bI a == bI b)=(a == b):=by cases a <;> cases b <;> rfl
        rw[di,this];exact SeqAt.EqAt.bool_bool a b
      | str x t'=>exact SeqAt.EqAt.bool_str a x t'
      | tup p r=>exact SeqAt.EqAt.bool_tuple a p (by omega)
  | .str i, e, n, A, s, u, v, r1, r2, _, hu => by
    cases r1 with
    | str _ t=>
    cases r2 with
    | int j t'=>exact SeqAt.EqAt.str_int i t j t'
    | bool b=>exact SeqAt.EqAt.str_bool i t b
    | str x t' => have : decide (D.str i = D.str x) = (i == x) := by by_cases z : i = x <;> simp [z]
                  rw[this];exact SeqAt.EqAt.str_str i t x t'
    | tup p r=>exact SeqAt.EqAt.str_tuple i t p (by omega)
  | .dh,e,n,A,s,u,v,r1,r2,hk,hu=>by cases r1
  | .bl _,e,n,A,s,u,v,r1,r2,hk,hu=>by cases r1
  | .lst _,e,n,A,s,u,v,r1,r2,hk,hu=>by cases r1
  | .tup ds,e,n,A,s,u,v,r1,r2,hk,hu=>by
    cases n with
    | zero=>simp[fV] at hk
    | succ n=>
    cases r1 with
    | @tup ca fW _ pa ra=>
    cases r2 with
    | int j t'=>exact SeqAt.EqAt.tuple_int j t' pa (by omega)
    | bool b=>exact SeqAt.EqAt.tuple_bool b pa (by omega)
    | str x t'=>exact SeqAt.EqAt.tuple_str x t' pa (by omega)
    | @tup cb bM es pb rb=>
      have items:∀j (h1:j < fW.toArray.size) (h2:j < bM.toArray.size),SeqAt.EqAt A.in1 s fW.toArray[j] bM.toArray[j] (decide (ds[j]? =es[j]?)):=fun j h1 h2=>
        MX ds (n:=n) (A:=A.in1) ra rb hk (by rw[Around.in1_units];omega) (Dq fW j h1) (Dq bM j h2)
      by_cases hc:ca=cb
      . subst hc
        have z:=uo.inj (.tup pa ra) (.tup pb rb)
        rw[z,decide_eq_true rfl]
        exact SeqAt.EqAt.same _
      . have q:=SeqAt.RcAt.tuples (e:=fun j=>decide (ds[j]? =es[j]?)) pa pb (by omega) items
        rw[List.size_toArray,List.size_toArray,ra.length,rb.length,xG] at q
        have z:decide (D.tup ds=D.tup es)=decide (ds=es):=by by_cases a:ds=es <;> simp[a]
        rw[z]
        exact SeqAt.EqAt.of_refs hc q
theorem MX : ∀ (ds : List D) {es : List D} {n : Nat} {A : Around} {s : Shared} {us vs : List Value} {j : Nat} {u v : Value}, kq s.heap us ds -> kq s.heap vs es -> ds.all (fV n) = true -> A.units + n < cLine -> us[j]? = some u -> vs[j]? = some v ->
    SeqAt.EqAt A s u v (decide (ds[j]? =es[j]?))
  | [],es,n,A,s,us,vs,j,u,v,r1,r2,hk,hu,h1,h2=>by cases r1;simp at h1
  | d :: ds, es, n, A, s, us, vs, j, u, v, r1, r2, hk, hu, h1, h2 => by
    rw[List.all_cons,Bool.and_eq_true] at hk
    cases r1 with
    | cons a as=>
    cases r2 with
    | nil=>simp at h2
    | @cons v' e' vs' es' b bs=>
      cases j with
      | zero=>
        simp only[List.getElem?_cons_zero,Option.some.injEq] at h1 h2
        subst h1
        subst h2
        have z:decide ((d :: ds)[0]? =(e' :: es')[0]?)=decide (d=e'):=by simp
        rw[z]
        exact WT d a b hk.1 hu
      | succ j=>
        have z:decide ((d :: ds)[j+1]? =(e' :: es')[j+1]?)=decide (ds[j]? =es'[j]?):=by simp
        rw[z]
        exact MX ds as bs hk.2 hu (by simpa using h1) (by simpa using h2)
end
section
variable {prog:Program}{w:World}{A:Around}{E:Value->Shared->Prop}{s:Shared}
mutual
theorem Dr : ∀ (d : D) {n : Nat} {v : Value} {Q : Bool -> Shared -> Prop}, uo s.heap v d -> fV n d = true -> Q true s -> wpAny (model prog w) A (eqIsQuiet n v) Q E s
  | .int i,n,v,Q,x,_,h=>by cases x <;> (rw[eqIsQuiet_byValue n rfl];exact wpAny_pure h)
  | .str y,n,v,Q,x,_,h=>by cases x;rw[eqIsQuiet_byValue n rfl];exact wpAny_pure h
  | .dh,n,v,Q,x,_,h=>by cases x
  | .bl _,n,v,Q,x,_,h=>by cases x
  | .lst _,n,v,Q,x,_,h=>by cases x
  | .tup ds,n,v,Q,x,hk,h=>by
    cases n with
    | zero=>simp[fV] at hk
    | succ n=>
      cases x with
      | @tup a its _ p r=>
        obtain⟨o,hg,hc,m,hd⟩:=p
        have hT:s.TypeIs (.ref a) "tuple":=⟨o,hg,hc⟩
        unfold eqIsQuiet
        refine wpAny_bind (wpAny_specialOf hT F.slot_tuple_eq.lookup ?_)
        show wpAny _ _ (isInstance (.ref a) (.type "tuple") >>= _) _ _ s
        refine wpAny_bind (wpAny_isInstance hT isSubtype_tuple_tuple ?_)
        simp only[Bool.not_true,Bool.false_eq_true,if_false]
        refine wpAny_bind (wpAny_seqItems hg hd ?_)
        refine wpAny_bind ?_
        show wpAny _ _ (forIn its.toArray _ _) _ _ s
        rw[<-Array.forIn_toList]
        exact uP ds r hk (wpAny_pure h)
theorem uP:∀(ds:List D){n:Nat}{vs:List Value}{Q:Option Bool×Unit->Shared->Prop},kq s.heap vs ds->ds.all (fV n)=true->Q (none,()) s->
    wpAny (model prog w) A (forIn vs ((none,()):Option Bool×Unit) fun y __s=>do
      let __do_lift <-eqIsQuiet n y
      if(!__do_lift)=true then pure (ForInStep.done (some false,())) else pure (ForInStep.yield (none,()))) Q E s
  | [],n,_,Q,x,_,h=>by cases x;exact wpAny_pure h
  | d :: ds, n, _, Q, x, hk, h => by
    cases x with
    | cons x1 x2=>
      rw[List.all_cons,Bool.and_eq_true] at hk
      rw[List.forIn_cons]
      refine wpAny_bind (wpAny_bind (Dr d x1 hk.1 ?_))
      simp only[Bool.not_true,Bool.false_eq_true,if_false]
      refine wpAny_pure ?_
      exact uP ds x2 hk.2 h
end
end
noncomputable def jS (prog:Program) (w:World):HeapKind prog w D where
 is:=fun h k a=>uo h (.ref a) k/\fV 8 k=true
 hash:=Dp w
 draws:=vN
 room:=fun A=>A.units+8 < cLine
 inj:=fun hx hy=>hx.1.inj hy.1
 keeps:=fun x ho hd hs=>⟨x.1.keeps ho hd hs,x.2⟩
 pyHash:=fun hu hk h=>xF _ hk.1 hk.2 hu h
 eqBool:=fun hu hx hy h=>WT _ hx.1 hy.1 hx.2 hu _ _ _ _ h
 quiet:=fun hk h=>Dr _ hk.1 hk.2 h
theorem i8 {prog:Program}{w:World}{A:Around}(hu:A.units+20 < cLine):(jS prog w).room A.in1:=by
 show A.in1.units+8 < cLine
 rw[Around.in1_units]
 omega
end L2
end
namespace L2
open PySem PySem.Spec PyProof.Rows
noncomputable abbrev Key:=Sum Int Str
noncomputable def sH:Key->Value->Bool
 | .inl k,.bool b=>decide (k=bI b)
 | .inl k,v=>Value.isInt k v
 | .inr x,v=>Value.isStrOf x v
noncomputable def Q4 (w:World):Key->Int
 | .inl k=>hashInt k
 | .inr x=>hashStr w x
theorem cI:∀{k:Key}{v:Value},sH k v=true->(∃i t,k=Sum.inl i/\v=Value.int i t)\/(∃b,k=Sum.inl (bI b)/\v=Value.bool b)\/(∃x t,k=Sum.inr x/\v=Value.str x t)
 | .inl i,v,h=>by
  cases v with
  | bool b=>exact .inr (.inl ⟨b,by rw[of_decide_eq_true (show decide (i=bI b)=true from h)],rfl⟩)
  | int j t=>obtain⟨t,e⟩:=Value.isInt_shape (k:=i) (v:=Value.int j t) h;exact .inl ⟨i,t,rfl,e⟩
  | _=>exact absurd h (by simp[sH,Value.isInt])
 | .inr x,v,h=>by
  obtain⟨t,e⟩:=Value.isStrOf_shape (x:=x) (v:=v) h
  exact .inr (.inr ⟨x,t,rfl,e⟩)
theorem Ci (i:Int) (t:Tok):sH (.inl i) (.int i t)=true:=by simp[sH,Value.isInt]
theorem Cj (x:Str) (t:Tok):sH (.inr x) (.str x t)=true:=by simp[sH,Value.isStrOf]
theorem vP (a b:Int):decide ((Sum.inl a:Key)=Sum.inl b)=(a == b):=by
 by_cases e:a=b
 ·subst e;simp
 ·have h:¬(Sum.inl a:Key)=Sum.inl b:=fun q=>e (Sum.inl.inj q)
  rw[decide_eq_false h]
  exact(beq_eq_false_iff_ne.mpr e).symm
theorem J9 (a b:Str):decide ((Sum.inr a:Key)=Sum.inr b)=decide (a=b):=by
 by_cases e:a=b
 ·subst e;simp
 ·have h:¬(Sum.inr a:Key)=Sum.inr b:=fun q=>e (Sum.inr.inj q)
  rw[decide_eq_false h,decide_eq_false e]
theorem Ds (a:Int) (b:Str):decide ((Sum.inl a:Key)=Sum.inr b)=false:=decide_eq_false (fun q=>nomatch q)
theorem Dt (a:Str) (b:Int):decide ((Sum.inr a:Key)=Sum.inl b)=false:=decide_eq_false (fun q=>nomatch q)
noncomputable def ia (prog:Program) (w:World):PySem.KeyKind prog w Key where
  is:=sH
  hash:=Q4 w
  inj := fun v a b ha hb => by
    rcases cI ha with⟨i,t,rfl,rfl⟩ | ⟨c,rfl,rfl⟩ | ⟨x,t,rfl,rfl⟩
    . rcases cI hb with⟨j,u,rfl,e⟩ | ⟨c',rfl,e⟩ | ⟨y,u,rfl,e⟩
      . injection e with e1 _;rw[e1]
      . exact nomatch e
      . exact nomatch e
    . rcases cI hb with⟨j,u,rfl,e⟩ | ⟨c',rfl,e⟩ | ⟨y,u,rfl,e⟩
      . exact nomatch e
      . injection e with e1;rw[e1]
      . exact nomatch e
    . rcases cI hb with⟨j,u,rfl,e⟩ | ⟨c',rfl,e⟩ | ⟨y,u,rfl,e⟩
      . exact nomatch e
      . exact nomatch e
      . injection e with e1 _;rw[e1]
  byValue:=fun k v h=>by
    rcases cI h with⟨i,t,rfl,rfl⟩ | ⟨c,rfl,rfl⟩ | ⟨x,t,rfl,rfl⟩ <;> rfl
  pyHash:=fun hv h=>by
    rcases cI hv with⟨i,t,rfl,rfl⟩ | ⟨c,rfl,rfl⟩ | ⟨x,t,rfl,rfl⟩
    . exact wpAny_pyHash_int h
    . exact qU h
    . exact wpAny_pyHash_str h
  eqBool:=fun hu hv h=>by
    rcases cI hu with⟨i,t,rfl,rfl⟩ | ⟨c,rfl,rfl⟩ | ⟨x,t,rfl,rfl⟩
    . rcases cI hv with⟨j,u,rfl,rfl⟩ | ⟨c',rfl,rfl⟩ | ⟨y,u,rfl,rfl⟩
      . rw[vP] at h;exact wpAny_eqBool_int h
      . rw[vP] at h;exact SeqAt.EqAt.int_bool i t c' _ _ _ _ h
      . rw[Ds] at h;exact SeqAt.EqAt.int_str i t y u _ _ _ _ h
    . rcases cI hv with⟨j,u,rfl,rfl⟩ | ⟨c',rfl,rfl⟩ | ⟨y,u,rfl,rfl⟩
      . rw[vP] at h;exact SeqAt.EqAt.bool_int c j u _ _ _ _ h
      . have e:(bI c == bI c')=(c == c'):=by cases c <;> cases c' <;> rfl
        rw[vP,e] at h;exact SeqAt.EqAt.bool_bool c c' _ _ _ _ h
      . rw[Ds] at h;exact SeqAt.EqAt.bool_str c y u _ _ _ _ h
    . rcases cI hv with⟨j,u,rfl,rfl⟩ | ⟨c',rfl,rfl⟩ | ⟨y,u,rfl,rfl⟩
      . rw[Dt] at h;exact SeqAt.EqAt.str_int x t j u _ _ _ _ h
      . rw[Dt] at h;exact SeqAt.EqAt.str_bool x t c' _ _ _ _ h
      . rw[J9] at h;exact wpAny_eqBool_str h
  «strs»:=fun k x t v h=>by
    rcases cI h with⟨i,u,rfl,e⟩ | ⟨c,rfl,e⟩ | ⟨y,u,rfl,e⟩
    . exact nomatch e
    . exact nomatch e
    . injection e with e1 _
      subst e1
      cases v <;> rfl
theorem xH (prog:Program) (w:World) (i:Int) (t:Tok):(ia prog w).is (.inl i) (.int i t)=true:=Ci i t
theorem xJ (prog:Program) (w:World) (x:Str) (t:Tok):(ia prog w).is (.inr x) (.str x t)=true:=Cj x t
inductive V where
 | dh | bl (b:Bool) | int (i:Int) | str (x:Str) | Q5 (b:Array UInt8) | flt (b:UInt64) | ref (a:Addr) | ty (n:String)
 deriving DecidableEq
noncomputable def RelV:V->Value->Prop
 | .dh,u=>u=Value.none
 | .bl b,u=>u=Value.bool b
 | .int i,u=>∃t,u=Value.int i t
 | .str x,u=>∃t,u=Value.str x t
 | .Q5 b,u=>∃t,u=Value.bytes b t
 | .flt b,u=>∃t,u=Value.float b t
 | .ref a,u=>u=Value.ref a
 | .ty n,u=>u=Value.type n
noncomputable abbrev Vals:List V->List Value->Prop:=Paired RelV
theorem Vals.length {xs:List V}{us:List Value}(r:Vals xs us):xs.length=us.length:=Paired.length r
theorem Vals.get:∀{xs:List V}{us:List Value}{i:Nat}{x:V},Vals xs us->xs[i]? =some x->∃u,us[i]? =some u/\RelV x u
 | _,_,_,_,.nil,e=>by simp at e
 | _,_,0,_,.cons r _,e=>by simp at e;subst e;exact⟨_,rfl,r⟩
 | _,_,i+1,x,.cons _ t,e=>by
  obtain⟨u,h1,h2⟩:=Vals.get (i:=i) (x:=x) t (by simpa using e)
  exact⟨u,by simpa using h1,h2⟩
theorem Vals.set {x:V}{u:Value}(r:RelV x u):∀{xs:List V}{us:List Value}(i:Nat),Vals xs us->Vals (xs.set i x) (us.set i u)
 | _,_,_,.nil=>.nil
 | _,_,0,.cons _ t=>.cons r t
 | _,_,i+1,.cons q t=>.cons q (Vals.set r i t)
theorem Vals.append:∀{xs ys:List V}{us ws:List Value},Vals xs us->Vals ys ws->Vals (xs++ys) (us++ws)
 | _,_,_,_,.nil,s=>s
 | _,_,_,_,.cons r t,s=>.cons r (Vals.append t s)
theorem Vals.take:∀{xs:List V}{us:List Value}(n:Nat),Vals xs us->Vals (xs.take n) (us.take n)
 | _,_,0,_=>.nil
 | _,_,_+1,.nil=>.nil
 | _,_,n+1,.cons r t=>.cons r (Vals.take n t)
theorem Vals.drop:∀{xs:List V}{us:List Value}(n:Nat),Vals xs us->Vals (xs.drop n) (us.drop n)
 | _,_,0,r=>r
 | _,_,_+1,.nil=>.nil
 | _,_,n+1,.cons _ t=>Vals.drop n t
noncomputable def rQ:Option V->Option Value->Prop
 | some v,some u=>RelV v u
 | none,none=>True
 | _,_=>False
noncomputable def KV {κ:Type}:List (κ×V)->List (κ×Value)->Prop:=Paired fun(p:κ×V) (q:κ×Value)=>p.1=q.1/\RelV p.2 q.2
noncomputable def kV:Key->V
 | .inl i=>.int i
 | .inr x=>.str x
inductive HO where
 | lst (xs:List V)
 | tup (xs:List V)
 | dK (kvs:List (Key×V)) | dT (kvs:List (D×V))
 | set (S:Int->Bool) (n:Nat)
 | ins (C dx:Addr) (fs:List (Str×V))
 | own (x:Addr)
 | xd (fs:List (Str×V))
 | met (f x:Addr)
 | mD (lo hi:Int)
 | jA (o:Obj) (u:HO)
 | Ka (ps:Array Value)
 | ext (φ:Heap->Prop)
noncomputable abbrev Hp:=Addr->Option HO
mutual
inductive Rep (H:Hp):V->D->Prop
 | dh:Rep H .dh .dh
 | bl (b:Bool):Rep H (.bl b) (.bl b)
 | int (i:Int):Rep H (.int i) (.int i)
 | str (z:Str):Rep H (.str z) (.str z)
 | tup {a:Addr}{vs:List V}{ds:List D}(e:H a=some (.tup vs)) (r:bB H vs ds):Rep H (.ref a) (.tup ds)
 | lst {a:Addr}{vs:List V}{ds:List D}(e:H a=some (.lst vs)\/∃o,H a=some (.jA o (.lst vs))) (r:bB H vs ds):Rep H (.ref a) (.lst ds)
inductive bB (H:Hp):List V->List D->Prop
 | nil:bB H [] []
 | cons {v:V}{d:D}{vs:List V}{ds:List D}(r:Rep H v d) (rs:bB H vs ds):bB H (v :: vs) (d :: ds)
end
mutual
theorem Rep.tups {H H':Hp}(ht:∀b xs,H b=some (.tup xs)->H' b=some (.tup xs)):∀(d:D){n:Nat}{v:V},Rep H v d->fV n d=true->Rep H' v d
 | .dh,n,_,_,k=>by simp[fV] at k
 | .bl b,n,_,r,k=>by cases r;exact .bl b
 | .lst _,n,_,_,k=>by simp[fV] at k
 | .int i,n,_,r,k=>by cases r;exact .int i
 | .str i,n,_,r,k=>by cases r;exact .str i
 | .tup ds,n,_,r,k=>by
  cases n with
  | zero=>simp[fV] at k
  | succ n=>
   cases r with
   | @tup a vs _ e rs=>exact .tup (ht _ _ e) (bB.tups ht ds rs k)
theorem bB.tups {H H':Hp}(ht:∀b xs,H b=some (.tup xs)->H' b=some (.tup xs)):∀(ds:List D){n:Nat}{vs:List V},bB H vs ds->ds.all (fV n)=true->bB H' vs ds
 | [],n,_,r,k=>by cases r;exact .nil
 | d :: ds,n,_,r,k=>by
  rw[List.all_cons,Bool.and_eq_true] at k
  cases r with
  | cons r1 r2=>exact .cons (Rep.tups ht d r1 k.1) (bB.tups ht ds r2 k.2)
end
noncomputable def Kd (H:Hp) (b:Addr) (k:D):Prop:=∃d,Rep H (.ref b) d/\fV 8 d=true/\nf d=k
theorem Kd.tups {H H':Hp}{b:Addr}{k:D}(x:Kd H b k) (ht:∀b xs,H b=some (.tup xs)->H' b=some (.tup xs)):Kd H' b k:=by
 obtain⟨d,r,hk,e⟩:=x
 exact⟨d,Rep.tups ht d r hk,hk,e⟩
noncomputable def upd (H:Hp) (a:Addr) (o:HO):Hp:=fun b=>if b=a then some o else H b
theorem aV {H:Hp}{a:Addr}{o:HO}:upd H a o a=some o:=by unfold upd;rw[if_pos rfl]
theorem aE {H:Hp}{a b:Addr}{o:HO}(h:b≠a):upd H a o b=H b:=by unfold upd;rw[if_neg h]
theorem Jg {H:Hp}{a b:Addr}{o u:HO}(h:H a=some o) (h':H b=some u) (d:o≠u):a≠b:=by
 intro e;subst e;rw[h] at h';exact d (Option.some.inj h')
theorem bu {H:Hp}{a b:Addr}{o:HO}(h:H a=some o) (h':H b=none):a≠b:=by
 intro e;subst e;rw[h] at h';cases h'
section
variable (P:Program) (w:World)
noncomputable def fG (H:Hp) (h:Heap) (a:Addr):HO->Prop
 | .lst xs=>xs.length<=sizeLine/\∃(its:List Value) (n:Nat),Vals xs its/\h.get? a=some {cls:=.type "list",data:=.seq its.toArray n}
 | .tup xs=>xs.length<=sizeLine/\∃its:List Value,Vals xs its/\IsTup h a its.toArray
 | .dK kvs=>kvs.length<=sizeLine/\(a == sysModules)=false/\∃vs,KV kvs vs/\h.DictOf (ia P w) a vs
 | .dT kvs=>kvs.length<=sizeLine/\(a == sysModules)=false/\∃xs:List (D×Addr×Value),
   Paired (fun(p:D×V) (q:D×Addr×Value)=>p.1=q.1/\Kd H q.2.1 p.1/\RelV p.2 q.2.2) kvs xs/\
   ∃o es ep,h.get? a=some o/\o.ExactDict/\o.data= .dict es ep/\es.toList=xs.map (entryOfKey (jS P w))/\(xs.map (·.1)).Nodup
 | .set S n=>h.SetOf (intKind P w) a S n
 | .ins C dx fs=>H dx=some (.own a)/\fs.length<=1000/\dx≠a/\h.get? a=some (PySem.W.instObj C dx)/\
   ∃mA,h.Ns1 dx mA/\(∀f,rQ (fs.lookup f) (mA f))/\PySem.Within mA (fs.map (·.1))
 | .own _=>∃o,h.get? a=some o
 | .xd fs=>∃mA,h.Ns1 a mA/\∀f,rQ (fs.lookup f) (mA f)
 | .mD lo hi=>∃t u v,h.get? a=some {cls:=.type "range",data:=.fields #[.int lo t,.int hi u,.int 1 v]}
 | .jA o u=>h.get? a=some o/\fG H h a u
 | .Ka ps=>h.get? a=some {cls:=.none,data:=.fields ps}
 | .met f x=>h.get? a=some (PySem.W.methodObj (.ref f) (.ref x))
 | .ext φ=>φ h/\(∃o,h.get? a=some o)/\∀h1 h2:Heap,φ h1->(∀o,h1.get? a=some o->h2.get? a=some o)->φ h2
noncomputable def mF (H:Hp) (h:Heap):Prop:=∀a o,H a=some o->fG P w H h a o
end
section
variable {P:Program}{w:World}{H H':Hp}{h h':Heap}{a:Addr}{o:HO}
theorem fG.lt (x:fG P w H h a o):a < h.objs.size:=by
 cases o with
 | lst xs=>obtain⟨_,_,_,_,e⟩:=x;exact Heap.lt_size e
 | tup xs=>obtain⟨_,_,_,p⟩:=x;exact p.lt
 | dK kvs=>obtain⟨_,_,_,_,o,_,_,e,_⟩:=x;exact Heap.lt_size e
 | dT kvs=>obtain⟨_,_,_,_,o,_,_,e,_⟩:=x;exact Heap.lt_size e
 | set S n=>obtain⟨o,_,_,_,e,_⟩:=x;exact Heap.lt_size e
 | ins C dx fs=>obtain⟨_,_,_,e,_⟩:=x;exact Heap.lt_size e
 | own y=>obtain⟨_,e⟩:=x;exact Heap.lt_size e
 | xd fs=>obtain⟨_,⟨_,_,_,e,_⟩,_⟩:=x;exact Heap.lt_size e
 | mD lo hi=>obtain⟨_,_,_,e⟩:=x;exact Heap.lt_size e
 | jA ob u=>obtain⟨e,_⟩:=x;exact Heap.lt_size e
 | Ka ps=>exact Heap.lt_size (show h.get? a=some _ from x)
 | met f y=>exact Heap.lt_size (show h.get? a=some _ from x)
 | ext φ=>obtain⟨_,⟨_,e⟩,_⟩:=x;exact Heap.lt_size e
theorem Paired.Ck {α β:Type}{F G:α->β->Prop}:∀{l₁:List α}{l₂:List β},Paired F l₁ l₂->(∀a b,F a b->G a b)->Paired G l₁ l₂
 | _,_,.nil,_=>.nil
 | _,_,.cons r t,f=>.cons (f _ _ r) (Paired.Ck t f)
theorem fG.stay (x:fG P w H h a o) (k:∀b u,(b=a\/H b=some (.own a))->h.get? b=some u->h'.get? b=some u)
  (ho:∀b,H b=some (.own a)->H' b=some (.own a)) (ht:∀b xs,H b=some (.tup xs)->H' b=some (.tup xs)):fG P w H' h' a o:=by
 induction o with
 | lst xs=>obtain⟨z,its,n,r,e⟩:=x;exact⟨z,its,n,r,k _ _ (.inl rfl) e⟩
 | tup xs=>obtain⟨z,its,r,ob,e,c⟩:=x;exact⟨z,its,r,ob,k _ _ (.inl rfl) e,c⟩
 | dK kvs=>obtain⟨z,y,vs,r,ob,es,ep,e,c⟩:=x;exact⟨z,y,vs,r,ob,es,ep,k _ _ (.inl rfl) e,c⟩
 | dT kvs=>
  obtain⟨z,y,xs,r,ob,es,ep,e,c⟩:=x
  exact⟨z,y,xs,Paired.Ck r fun p q z=>⟨z.1,z.2.1.tups ht,z.2.2⟩,ob,es,ep,k _ _ (.inl rfl) e,c⟩
 | set S n=>obtain⟨ob,es,ep,t,e,c⟩:=x;exact⟨ob,es,ep,t,k _ _ (.inl rfl) e,c⟩
 | ins C dx fs=>
  obtain⟨d,z,ne,e,mA,⟨od,es,ep,e2,c⟩,r⟩:=x
  exact⟨ho _ d,z,ne,k _ _ (.inl rfl) e,mA,⟨od,es,ep,k _ _ (.inr d) e2,c⟩,r⟩
 | own y=>obtain⟨ob,e⟩:=x;exact⟨ob,k _ _ (.inl rfl) e⟩
 | xd fs=>obtain⟨mA,⟨od,es,ep,e,c⟩,r⟩:=x;exact⟨mA,⟨od,es,ep,k _ _ (.inl rfl) e,c⟩,r⟩
 | mD lo hi=>obtain⟨t,u,v,e⟩:=x;exact⟨t,u,v,k _ _ (.inl rfl) e⟩
 | jA ob u ih=>obtain⟨e,q⟩:=x;exact⟨k _ _ (.inl rfl) e,ih q⟩
 | Ka ps=>
  have e:h.get? a=some {cls:=.none,data:=.fields ps}:=x
  show h'.get? a=some {cls:=.none,data:=.fields ps}
  exact k a _ (.inl rfl) e
 | met f y=>
  have e:h.get? a=some (PySem.W.methodObj (.ref f) (.ref y)):=x
  show h'.get? a=some (PySem.W.methodObj (.ref f) (.ref y))
  exact k a _ (.inl rfl) e
 | ext φ=>obtain⟨p,⟨o,e⟩,st⟩:=x;exact⟨st _ _ p fun o q=>k _ _ (.inl rfl) q,⟨o,k _ _ (.inl rfl) e⟩,st⟩
theorem mF.lt (x:mF P w H h) (e:H a=some o):a < h.objs.size:=(x a o e).lt
theorem mF.fresh (x:mF P w H h) (e:h.objs.size<=a):H a=none:=by
 cases q:H a with
 | none=>rfl
 | some u=>exact absurd (Nat.lt_of_lt_of_le (x.lt q) e) (Nat.lt_irrefl _)
theorem mF.kept (x:mF P w H h) (k:∀b u,h.get? b=some u->h'.get? b=some u):mF P w H h':=fun a o e=>
 (x a o e).stay (fun b u _ q=>k b u q) (fun _ q=>q) fun _ _ q=>q
theorem mF.laid (x:mF P w H h) (k:∀b u,h.get? b=some u->h'.get? b=some u) (hp:h.objs.size<=a) (new:fG P w (upd H a o) h' a o):mF P w (upd H a o) h':=fun b u e=>by
 have hn:=x.fresh hp
 by_cases hb:b=a
 ·subst hb;rw[aV] at e;cases e;exact new
 ·rw[aE hb] at e
  exact(x b u e).stay (fun c v _ q=>k c v q) (fun c q=>by rw[aE (bu q hn)];exact q) fun c xs q=>by rw[aE (bu q hn)];exact q
end
noncomputable def Rd (H:Hp) (a:Addr) (u:HO):Prop:=H a=some u\/∃o,H a=some (.jA o u)
theorem Rd.of {H:Hp}{a:Addr}{u:HO}(h:H a=some u):Rd H a u:=.inl h
theorem Rd.ok {P:Program}{w:World}{H:Hp}{h:Heap}{a:Addr}{u:HO}(r:Rd H a u) (x:mF P w H h):fG P w H h a u:=by
 rcases r with r | ⟨o,r⟩
 ·exact x a u r
 ·obtain⟨_,q⟩:=x a _ r
  exact q
noncomputable def MY:Option HO->Prop
 | some (.lst _)=>True
 | some (.dK _)=>True
 | some (.dT _)=>True
 | some (.set _ _)=>True
 | some (.ins _ _ _)=>True
 | some (.ext _)=>True
 | _=>False
section
variable {P:Program}{w:World}{H:Hp}{h h':Heap}{x e:Addr}{o':HO}
theorem mF.write (ok : mF P w H h) (mu : MY (H x)) (he : e = x \/ H e = some (.own x)) (k : ∀ b u, b ≠ e -> h.get? b = some u -> h'.get? b = some u) (MA : ∃ u, h'.get? e = some u)
    (new:fG P w (upd H x o') h' x o'):mF P w (upd H x o') h':=fun b u q=>by
  have MZ:∀c y,H c=some (.own y)->c≠x:=fun c y r z=>by subst z;rw[r] at mu;exact mu
  have Q6:∀c xs,H c=some (.tup xs)->c≠x:=fun c xs r z=>by subst z;rw[r] at mu;exact mu
  by_cases hb:b=x
  . subst hb;rw[aV] at q;cases q;exact new
  . rw[aE hb] at q
    by_cases Kc:b=e
    . have q':H b=some (.own x):=by
        rcases he with z | z
        . exact absurd (Kc.trans z) hb
        . rw[Kc];exact z
      rw[q] at q';cases q'
      obtain⟨v,hv⟩:=MA
      exact⟨v,by rw[Kc];exact hv⟩
    . refine(ok b u q).stay (fun c v hc r=>k c v ?_ r) (fun c r=>by rw[aE (MZ c b r)];exact r) fun c xs r=>by rw[aE (Q6 c xs r)];exact r
      rcases hc with rfl | hc
      . exact Kc
      . rintro rfl
        rcases he with z | z
        . exact MZ c b hc z
        . rw[hc] at z;cases z;exact hb rfl
end
structure Un (fs ex:List Addr) (H H':Hp) (h h':Heap):Prop where
 keep:∀b o,h.get? b=some o->H b=none->b∉fs->b∉ex->h'.get? b=some o
 slot:∀b o,h.get? b=some o->H b=none->b∈fs->b∉ex->∃sl,h'.get? b=some {o with slots:=sl}
 free:∀b o,h.get? b=some o->H b=none->b∉ex->H' b=none
 there:∀b o,h.get? b=some o->b∉ex->∃o',h'.get? b=some o'
 tups:∀b xs,H b=some (.tup xs)->H' b=some (.tup xs)
 sI:∀b o u,H b=some (.jA o u)->H' b=some (.jA o u)
 uq:∀b ps,H b=some (.Ka ps)->∃more,H' b=some (.Ka (ps++more))
section
variable {fs fs' ex ex':List Addr}{H H1 H2:Hp}{h h1 h2 h':Heap}{a x e:Addr}{o:HO}
theorem Un.any (u:Un fs ex H H1 h h1){b:Addr}{ob:Obj}(q:h.get? b=some ob) (n:H b=none) (hx:b∉ex):∃sl,h1.get? b=some {ob with slots:=sl}:=by
 by_cases hb:b∈fs
 ·exact u.slot b ob q n hb hx
 ·exact⟨ob.slots,u.keep b ob q n hb hx⟩
theorem Un.kept (k:∀b u,h.get? b=some u->h'.get? b=some u):Un fs ex H H h h':=
 ⟨fun b ob q _ _ _=>k b ob q,fun b ob q _ _ _=>⟨ob.slots,k b ob q⟩,fun _ _ _ n _=>n,fun b ob q _=>⟨ob,k b ob q⟩,fun _ _ q=>q,fun _ _ _ q=>q,fun _ ps q=>⟨#[],by rw[q];simp⟩⟩
theorem Un.refl:Un fs ex H H h h:=Un.kept fun _ _ q=>q
theorem Un.laid (k:∀b u,h.get? b=some u->h'.get? b=some u) (hp:h.objs.size<=a) (hn:H a=none):Un fs ex H (upd H a o) h h' where
 keep:=fun b u q _ _ _=>k b u q
 slot:=fun b u q _ _ _=>⟨u.slots,k b u q⟩
 free:=fun b u q n _=>by rw[aE (Nat.ne_of_lt (Nat.lt_of_lt_of_le (Heap.lt_size q) hp))];exact n
 there:=fun b u q _=>⟨u,k b u q⟩
 tups:=fun b xs q=>by rw[aE (bu q hn)];exact q
 sI:=fun b u xs q=>by rw[aE (bu q hn)];exact q
 uq:=fun b ps q=>⟨#[],by rw[aE (bu q hn),q];simp⟩
theorem Un.write (mu:MY (H x)) (he:e=x\/H e=some (.own x)) (k:∀b u,b≠e->h.get? b=some u->h'.get? b=some u) (MA:∃u,h'.get? e=some u):Un fs ex H (upd H x o) h h':=by
 have hx:∀b,H b=none->b≠x:=fun b n z=>by subst z;rw[n] at mu;exact mu
 have hb:∀b,H b=none->b≠e:=fun b n z=>by
  subst z
  rcases he with r | r
  ·exact hx b n r
  ·rw[n] at r;cases r
 have hm:∀b u,H b=some u->¬MY (some u)->b≠x:=fun b u q nm z=>by subst z;rw[q] at mu;exact nm mu
 refine⟨fun b u q n _ _=>k b u (hb b n) q,fun b u q n _ _=>⟨u.slots,k b u (hb b n) q⟩,fun b u q n _=>by rw[aE (hx b n)];exact n,fun b u q _=>?_,
  fun b xs q=>by rw[aE (hm b _ q fun z=>z)];exact q,fun b u xs q=>by rw[aE (hm b _ q fun z=>z)];exact q,fun b ps q=>⟨#[],by rw[aE (hm b _ q fun z=>z),q];simp⟩⟩
 by_cases Kc:b=e
 ·subst Kc;exact MA
 ·exact⟨u,k b u Kc q⟩
end
noncomputable def PR (h:Heap) (H:Hp):List Addr:=(List.range h.objs.size).filter fun a=>(H a).isSome
noncomputable def vQ (h:Heap) (H:Hp):Heap:=PySem.W.hideAll h (PR h H)
theorem Cm (h:Heap) (H:Hp):(vQ h H).objs.size=h.objs.size:=PySem.W.hideAll_size _ _
theorem Du {h:Heap}{H:Hp}{b:Addr}{o:Obj}(e:h.get? b=some o) (n:H b=none):(vQ h H).get? b=some o:=
 PySem.W.hideAll_get _ e fun hm=>by
  have q:(H b).isSome=true:=(List.mem_filter.mp hm).2
  rw[n] at q;simp at q
theorem Gz {h:Heap}{H:Hp}{b:Addr}{o:Obj}(e:(vQ h H).get? b=some o):h.get? b=some o/\H b=none:=by
 have e':h.get? b=some o:=PySem.W.of_hideAll (PR h H) e
 refine⟨e',?_⟩
 cases q:H b with
 | none=>rfl
 | some x=>
  have hm:b∈PR h H:=List.mem_filter.mpr ⟨List.mem_range.mpr (Heap.lt_size e'),by simp[q]⟩
  have z:(vQ h H).get? b=none:=PySem.W.hideAll_none (PR h H) hm
  rw[z] at e;cases e
noncomputable def GC (g h:Heap) (L:Addr):List (Addr×Obj):=(List.range h.objs.size).filterMap fun a=>if a=L\/(g.get? a).isSome=true then none else(h.get? a).map fun o=>(a,o)
noncomputable def rest (g h:Heap) (L d:Addr):List (Addr×Obj):=(GC g h L).filter fun p=>decide (p.1≠d)
structure Mod (K:PySem.W.Frag) (mg:Str->Option Value) (base:Heap):Prop where
 Q7:K.In base
 glob:base.Ns mainGlobals mg
 blt:∃mb,base.Ns builtinsNs mb/\∀x:Str,x≠"__name__"->mb x=bootBuiltins x
 nolimit:base.NoLimit
structure Cx where
 prog:Program
 w:World
 K:PySem.W.Frag
 mg:Str->Option Value
 base:Heap
 A:Around
 N:List Str
 s₀:Shared
 H₀:Hp
 env:Env
 outer:List Env
 stack:List Env
 ex:List Addr
 fn:Str->Bool
 calm:Bool
 pn:List (Addr×Obj)
 xe:Value->Shared->Prop
noncomputable def frs (l:List Env):List Addr:=l.filterMap (·.frame)
noncomputable abbrev Cx.fs (X:Cx):List Addr:=frs X.outer
noncomputable def Dl (sc:Scope) (x:Str):Prop:=sc.names.lookup x=some .local\/sc.names.lookup x=some .cell\/sc.names.lookup x=some .free
noncomputable def Loc (sc:Scope) (x:Str):Prop:=sc.names.lookup x=some .local\/sc.names.lookup x=some .cell
noncomputable def Look (env:Env) (h:Heap) (m:Str->Option Value) (x:Str) (u:Value):Prop:=
 (env.kindOf x=some .local/\m x=some u)\/((env.kindOf x=some .cell\/env.kindOf x=some .free)/\∃c,env.cells.lookup x=some c/\h.IsCell c (some u))
structure Cx.Ok (X:Cx):Prop where
 mod:Mod X.K X.mg X.base
 kind:X.env.scope.kind= .function
 glob:X.env.globals=mainGlobals
 blt:X.env.builtins=builtinsNs
 above:X.s₀.heap.objs.size<=X.env.locals
 inj:∀x y c,X.env.cells.lookup x=some c->X.env.cells.lookup y=some c->x=y
 has:∀x,(X.env.kindOf x=some .cell\/X.env.kindOf x=some .free)->∃c,X.env.cells.lookup x=some c
 M0:∀x c,X.fn x=true->X.env.cells.lookup x=some c->X.s₀.heap.objs.size<=c
 hd:X.calm=true->X.A.handled=none
 frames:X.A.frames=some X.stack
 stk:X.stack=X.outer\/(X.stack=X.env :: X.outer/\X.env.frame=some X.env.locals)
 PU:∀b∈X.ex,b≠X.env.locals/\∀x c,X.env.cells.lookup x=some c->c≠b
 bs:∀b o,X.base.get? b=some o->X.s₀.heap.get? b=some o/\X.H₀ b=none
 Gp:X.base.objs.size<=X.s₀.heap.objs.size
 Co:∀b o,X.base.get? b=some o->b∉X.ex
 Cp:∀b∈X.ex,b∉X.fs
 sJ:X.s₀.heap.FunFrames X.base X.outer
 MB:∀b∈X.fs,X.H₀ b=none
structure Inv (X:Cx) (pins:List (Addr×Obj)) (σ:List (Option V)) (H:Hp) (s:Shared):Prop where
 ok:X.Ok
 os:s.os=X.s₀.os
 bare:AllBare s.gens
 base:Un X.fs X.ex X.H₀ H X.s₀.heap s.heap
 loc:∃m,s.heap.Ns X.env.locals m/\∀(i:Nat) (x:Str) (v:V),X.N[i]? =some x->σ[i]? =some (some v)->Dl X.env.scope x->∃u,RelV v u/\Look X.env s.heap m x u
 cell:∀x c,X.env.cells.lookup x=some c->∃v,s.heap.IsCell c v
 free:H X.env.locals=none
 mJ:∀x c,X.env.cells.lookup x=some c->H c=none
 pin:∀p∈X.pn++pins,s.heap.get? p.1=some p.2/\H p.1=none/\p.1≠X.env.locals/\p.1∉X.fs/\∀v,p.2.data≠.cell v
 hok:mF X.prog X.w H s.heap
 len:σ.length=X.N.length
section
variable {X:Cx}{pins:List (Addr×Obj)}{σ:List (Option V)}{H H':Hp}{s:Shared}{h':Heap}
theorem Cx.Ok.ig (ok:X.Ok){b:Addr}{o:Obj}(e:X.base.get? b=some o):b∉X.fs:=fun hb=>by
 have:=(ok.sJ.mem hb).1
 rw[e] at this;cases this
theorem Inv.bs (I:Inv X pins σ H s):∀b o,X.base.get? b=some o->s.heap.get? b=some o/\H b=none:=fun b o e=>
 ⟨I.base.keep b o (I.ok.bs b o e).1 (I.ok.bs b o e).2 (I.ok.ig e) (I.ok.Co b o e),I.base.free b o (I.ok.bs b o e).1 (I.ok.bs b o e).2 (I.ok.Co b o e)⟩
theorem Inv.bk (I:Inv X pins σ H s):∀b o,X.base.get? b=some o->s.heap.get? b=some o:=fun b o e=>(I.bs b o e).1
theorem Inv.mod (I:Inv X pins σ H s):Mod X.K X.mg X.base:=I.ok.mod
theorem Inv.Dv (I:Inv X pins σ H s):X.K.In s.heap:=I.ok.mod.Q7.keeps I.bk
theorem Inv.lt (I:Inv X pins σ H s):X.env.locals < s.heap.objs.size:=let⟨_,hn,_⟩:=I.loc;hn.lt
theorem Inv.sz (I:Inv X pins σ H s):X.s₀.heap.objs.size<=s.heap.objs.size:=Nat.le_trans I.ok.above (Nat.le_of_lt I.lt)
theorem Inv.Ke (I:Inv X pins σ H s){a:Addr}(h:s.heap.objs.size<=a):a∉X.fs:=fun hb=>by
 obtain⟨_,o,ho,_⟩:=I.ok.sJ.mem hb
 exact absurd (Nat.lt_of_lt_of_le (Heap.lt_size ho) (Nat.le_trans I.sz h)) (Nat.lt_irrefl _)
theorem Inv.Kf (I:Inv X pins σ H s):∀x c,X.env.cells.lookup x=some c->c≠X.env.locals:=fun x c e z=>by
 obtain⟨v,o,ho,hd⟩:=I.cell x c e
 obtain⟨m,⟨o',es,ep,ho',hd',_⟩,_⟩:=I.loc
 rw[z,ho'] at ho;cases ho;rw[hd'] at hd;cases hd
theorem Inv.sJ (I:Inv X pins σ H s):s.heap.FunFrames X.base X.outer:=by
 have all:∀(l:List Env),(∀b∈frs l,b∈X.fs)->X.s₀.heap.FunFrames X.base l->s.heap.FunFrames X.base l:=by
  intro l
  induction l with
  | nil=>intro _ _;trivial
  | cons env r ih=>
   intro hs hl
   obtain⟨hk,⟨L,o,hf,hn,ho,hd⟩,hr⟩:=hl
   have hL:L∈X.fs:=hs L (by unfold frs;rw[List.filterMap_cons,hf];exact List.mem_cons_self)
   obtain⟨sl,e⟩:=I.base.slot L o ho (I.ok.MB L hL) hL fun z=>I.ok.Cp L z hL
   exact⟨hk,⟨L,_,hf,hn,e,hd⟩,ih (fun b hb=>hs b (by unfold frs;rw[List.filterMap_cons,hf];exact List.mem_cons_of_mem _ hb)) hr⟩
 exact all X.outer (fun _ hb=>hb) I.ok.sJ
theorem Inv.stack (I:Inv X pins σ H s):s.heap.FunFrames X.base X.stack:=by
 rcases I.ok.stk with e | ⟨e,hf⟩
 ·rw[e];exact I.sJ
 ·rw[e]
  obtain⟨m,hn,_⟩:=I.loc
  refine .cons (by rw[I.ok.kind];decide) hf hn ?_ I.sJ
  exact Heap.get?_none_of_le (Nat.le_trans I.ok.Gp I.ok.above)
theorem Inv.qk (I:Inv X pins σ H s):∀b∈frs X.stack,b∈X.env.locals :: X.fs:=fun b hb=>by
 rcases I.ok.stk with e | ⟨e,hf⟩
 ·rw[e] at hb;exact List.mem_cons_of_mem _ hb
 ·rw[e] at hb
  unfold frs at hb
  rw[List.filterMap_cons,hf] at hb
  exact hb
theorem Inv.vR (I:Inv X pins σ H s):∀b∈frs X.stack,H b=none:=fun b hb=>by
 rcases List.mem_cons.mp (I.qk b hb) with e | hb
 ·rw[e];exact I.free
 ·obtain⟨_,o,ho,_⟩:=I.ok.sJ.mem hb
  exact I.base.free b o ho (I.ok.MB b hb) fun z=>I.ok.Cp b z hb
theorem Inv.step {g':Array GenState}{t':Nat}{d':Drawn}{ch:List Addr}(I:Inv X pins σ H s)
  (hch:∀b∈ch,(b∈X.ex\/X.s₀.heap.objs.size<=b)/\b≠X.env.locals/\(∀x c,X.env.cells.lookup x=some c->c≠b)/\∀p∈X.pn++pins,p.1≠b)
  (keep:∀b o,b≠X.env.locals->b∉X.fs->b∉ch->s.heap.get? b=some o->H b=none->h'.get? b=some o)
  (slot:∀b o,b≠X.env.locals->b∈X.fs->b∉ch->s.heap.get? b=some o->H b=none->∃sl,h'.get? b=some {o with slots:=sl}) (free:∀b o,b∉ch->s.heap.get? b=some o->H b=none->H' b=none)
  (there:∀b o,b∉ch->s.heap.get? b=some o->∃o',h'.get? b=some o')
  (tups:∀b xs,H b=some (.tup xs)->H' b=some (.tup xs)) (sI:∀b o u,H b=some (.jA o u)->H' b=some (.jA o u)) (uq:∀b ps,H b=some (.Ka ps)->∃more,H' b=some (.Ka (ps++more)))
  (ns:∀m,s.heap.Ns X.env.locals m->h'.Ns X.env.locals m) (hok:mF X.prog X.w H' h') (hg:AllBare g'):
  Inv X pins σ H' {s with heap:=h',gens:=g',drawn:=d',toks:=t'}:=by
 have WU:∀b o,X.s₀.heap.get? b=some o->b≠X.env.locals:=fun b o e=>Nat.ne_of_lt (Nat.lt_of_lt_of_le (Heap.lt_size e) I.ok.above)
 have PV:∀b o,X.s₀.heap.get? b=some o->b∉X.ex->b∉ch:=fun b o e hx hb=>by
  rcases(hch b hb).1 with z | z
  ·exact hx z
  ·exact absurd (Nat.lt_of_lt_of_le (Heap.lt_size e) z) (Nat.lt_irrefl _)
 have cellK:∀x c,X.env.cells.lookup x=some c->∀v,s.heap.IsCell c v->h'.IsCell c v:=fun x c e v ⟨o,ho,hd⟩=>by
  have M1:c∉ch:=fun z=>(hch c z).2.2.1 x c e rfl
  by_cases hc:c∈X.fs
  ·obtain⟨sl,q⟩:=slot c o (I.Kf x c e) hc M1 ho (I.mJ x c e)
   exact⟨_,q,hd⟩
  ·exact⟨o,keep c o (I.Kf x c e) hc M1 ho (I.mJ x c e),hd⟩
 refine⟨I.ok,I.os,hg,⟨fun b o e n hb hx=>?_,fun b o e n hb hx=>?_,fun b o e n hx=>?_,fun b o e hx=>?_,fun b xs e=>tups b xs (I.base.tups b xs e),fun b o xs e=>sI b o xs (I.base.sI b o xs e),fun b ps e=>?_⟩,?_,fun x c e=>?_,?_,fun x c e=>?_,fun p hp=>?_,hok,I.len⟩
 ·exact keep b o (WU b o e) hb (PV b o e hx) (I.base.keep b o e n hb hx) (I.base.free b o e n hx)
 ·obtain⟨sl,e1⟩:=I.base.slot b o e n hb hx
  obtain⟨Yj,e2⟩:=slot b _ (WU b o e) hb (PV b o e hx) e1 (I.base.free b o e n hx)
  exact⟨Yj,e2⟩
 ·obtain⟨o',e1⟩:=I.base.there b o e hx
  exact free b o' (PV b o e hx) e1 (I.base.free b o e n hx)
 ·obtain⟨o',e1⟩:=I.base.there b o e hx
  exact there b o' (PV b o e hx) e1
 ·obtain⟨m1,e1⟩:=I.base.uq b ps e
  obtain⟨m2,e2⟩:=uq b _ e1
  exact⟨m1++m2,by rw[e2,Array.append_assoc]⟩
 ·obtain⟨m,hn,hl⟩:=I.loc
  refine⟨m,ns m hn,fun i x v e1 e2 e3=>?_⟩
  obtain⟨u,r,l⟩:=hl i x v e1 e2 e3
  refine⟨u,r,?_⟩
  rcases l with l | ⟨k,c,e,z⟩
  ·exact .inl l
  ·exact .inr ⟨k,c,e,cellK x c e _ z⟩
 ·obtain⟨v,z⟩:=I.cell x c e
  exact⟨v,cellK x c e v z⟩
 ·obtain⟨m,⟨o,_,_,ho,_⟩,_⟩:=I.loc
  exact free _ o (fun z=>(hch _ z).2.1 rfl) ho I.free
 ·obtain⟨v,o,ho,hd⟩:=I.cell x c e
  exact free c o (fun z=>(hch c z).2.2.1 x c e rfl) ho (I.mJ x c e)
 ·obtain⟨e,n,ne,nf,d⟩:=I.pin p hp
  have M1:p.1∉ch:=fun z=>(hch p.1 z).2.2.2 p hp rfl
  exact⟨keep p.1 p.2 ne nf M1 e n,free p.1 p.2 M1 e n,ne,nf,d⟩
theorem Inv.un {t':Nat}(I:Inv X pins σ H s) (u:Un X.fs [] H H' s.heap h') (hok:mF X.prog X.w H' h'):Inv X pins σ H' {s with heap:=h',toks:=t'}:=by
 obtain⟨m,⟨o,es,ep,ho,r⟩,_⟩:=id I.loc
 obtain⟨sl,hL⟩:=u.any ho I.free (by simp)
 exact I.step (g':=s.gens) (d':=s.drawn) (ch:=[]) (fun _ z=>nomatch z) (fun b o _ hb _ e n=>u.keep b o e n hb (by simp)) (fun b o _ hb _ e n=>u.slot b o e n hb (by simp)) (fun b o _ e n=>u.free b o e n (by simp)) (fun b o _ e=>u.there b o e (by simp)) u.tups u.sI u.uq (fun m' hm=>by
  obtain⟨o',es',Q8,ho',r'⟩:=hm
  rw[ho] at ho';cases ho'
  exact⟨_,es',Q8,hL,r'⟩) hok I.bare
theorem Inv.call {g':Array GenState}{t':Nat}{d':Drawn}{ch:List Addr}(I:Inv X pins σ H s) (u:Un (frs X.stack) ch H H' s.heap h') (hok:mF X.prog X.w H' h') (hg:AllBare g')
  (hch:∀b∈ch,(b∈X.ex\/X.s₀.heap.objs.size<=b)/\b≠X.env.locals/\(∀x c,X.env.cells.lookup x=some c->c≠b)/\∀p∈X.pn++pins,p.1≠b):
  Inv X pins σ H' {s with heap:=h',gens:=g',drawn:=d',toks:=t'}:=by
 obtain⟨m,⟨o,es,ep,ho,r⟩,_⟩:=id I.loc
 obtain⟨sl,hL⟩:=u.any ho I.free fun z=>(hch _ z).2.1 rfl
 exact I.step (ch:=ch) hch (fun b o hL hb hc e n=>u.keep b o e n (fun z=>(List.mem_cons.mp (I.qk b z)).elim hL hb) hc) (fun b o _ _ hc e n=>u.any e n hc) (fun b o hc e n=>u.free b o e n hc) (fun b o hc e=>u.there b o e hc) u.tups u.sI u.uq (fun m' hm=>by
  obtain⟨o',es',Q8,ho',r'⟩:=hm
  rw[ho] at ho';cases ho'
  exact⟨_,es',Q8,hL,r'⟩) hok hg
theorem Inv.turned {t':Nat}{it:Addr}(I:Inv X pins σ H s) (k:∀b o,b≠it->s.heap.get? b=some o->h'.get? b=some o) (hn:H it=none) (hL:it≠X.env.locals)
  (h1:it∈X.ex\/X.s₀.heap.objs.size<=it) (h2:∀x c,X.env.cells.lookup x=some c->c≠it) (h3:∀p∈X.pn++pins,p.1≠it):Inv X pins σ H {s with heap:=h',toks:=t'}:=by
 have M3:∀b u,H b=some u->b≠it:=fun b u e z=>by rw[z,hn] at e;cases e
 refine I.step (g':=s.gens) (d':=s.drawn) (ch:=[it]) (fun b hb=>?_) (fun b o _ _ hc e _=>k b o (fun z=>hc (by simp[z])) e) (fun b o _ _ hc e _=>⟨o.slots,k b o (fun z=>hc (by simp[z])) e⟩) (fun _ _ _ _ n=>n)
  (fun b o hc e=>⟨o,k b o (fun z=>hc (by simp[z])) e⟩) (fun _ _ e=>e) (fun _ _ _ e=>e) (fun b ps e=>⟨#[],by rw[e];simp⟩) (fun m hm=>?_) (fun b u e=>?_) I.bare
 ·have e:b=it:=by simpa using hb
  subst e
  exact⟨h1,hL,h2,h3⟩
 ·obtain⟨o,es,ep,ho,r⟩:=hm
  exact⟨o,es,ep,k _ o (Ne.symm hL) ho,r⟩
 ·refine(I.hok b u e).stay (fun c v hc q=>k c v ?_ q) (fun _ q=>q) fun _ _ q=>q
  rcases hc with z | z
  ·rw[z];exact M3 b u e
  ·exact M3 c _ z
theorem Inv.tok (I:Inv X pins σ H s) (t:Nat):Inv X pins σ H {s with toks:=t}:=I.un (h':=s.heap) (t':=t) Un.refl I.hok
theorem Inv.kept {t':Nat}(I:Inv X pins σ H s) (k:∀b u,s.heap.get? b=some u->h'.get? b=some u):Inv X pins σ H {s with heap:=h',toks:=t'}:=I.un (Un.kept k) (I.hok.kept k)
theorem Inv.laid {a:Addr}{o:HO}{t':Nat}(I:Inv X pins σ H s) (k:∀b u,s.heap.get? b=some u->h'.get? b=some u) (hp:s.heap.objs.size<=a) (new:fG X.prog X.w (upd H a o) h' a o):
  Inv X pins σ (upd H a o) {s with heap:=h',toks:=t'}:=I.un (Un.laid k hp (I.hok.fresh hp)) (I.hok.laid k hp new)
theorem Inv.write {x e:Addr}{o:HO}{t':Nat}(I:Inv X pins σ H s) (mu:MY (H x)) (he:e=x\/H e=some (.own x)) (k:∀b u,b≠e->s.heap.get? b=some u->h'.get? b=some u) (MA:∃u,h'.get? e=some u)
  (new:fG X.prog X.w (upd H x o) h' x o):Inv X pins σ (upd H x o) {s with heap:=h',toks:=t'}:=I.un (Un.write mu he k MA) (I.hok.write mu he k MA new)
theorem Inv.A4 {Jh:List (Addr×Obj)}(I:Inv X pins σ H s) (h:∀p∈Jh,s.heap.get? p.1=some p.2/\H p.1=none/\p.1≠X.env.locals/\p.1∉X.fs/\∀v,p.2.data≠.cell v):Inv X Jh σ H s:=
 ⟨I.ok,I.os,I.bare,I.base,I.loc,I.cell,I.free,I.mJ,fun p hp=>(List.mem_append.mp hp).elim (fun z=>I.pin p (List.mem_append_left _ z)) (h p),I.hok,I.len⟩
theorem xK {N:List Str}(hN:N.Nodup){i j:Nat}{x:Str}(a:N[i]? =some x) (b:N[j]? =some x):i=j:=by
 obtain⟨h1,e1⟩:=List.getElem?_eq_some_iff.mp a
 obtain⟨h2,e2⟩:=List.getElem?_eq_some_iff.mp b
 exact(List.getElem_inj hN).mp (e1.trans e2.symm)
theorem uQ {M : Model} {A : Around} {E : Value -> Shared -> Prop} {i : Nat} {x : Str} {v : V} {u : Value} {Q : Unit -> Shared -> Prop} (I : Inv X pins σ H s) (hN : X.N.Nodup) (hi : X.N[i]? = some x) (hx : Loc X.env.scope x) (r : RelV v u)
    (h:∀s',Inv X pins (σ.set i (some v)) H s'->(∃a,Heap.SameBut a s.heap s'.heap/\(a=X.env.locals\/X.env.cells.lookup x=some a))->Q () s') (hf:X.fn x=true\/X.env.scope.names.lookup x=some .local:=by first | exact .inl rfl | exact .inr rfl | assumption):wpAny M A (storeName X.env x u) Q E s:=by
  obtain⟨m,hn,hl⟩:=id I.loc
  have hcls:(X.env.scope.kind == .class || (X.env.scope.kind == .module && X.env.locals != X.env.globals))=false:=by rw[I.ok.kind];rfl
  have M4:i < σ.length:=by rw[I.len];exact(List.getElem?_eq_some_iff.mp hi).1
  have Kf:=I.Kf
  have tracked:∀{a:Addr}{h':Heap},(∃o,s.heap.get? a=some o/\H a=none)->Heap.SameBut a s.heap h'->mF X.prog X.w H h':=fun {a h'} ha hs b ob e=>by
    obtain⟨_,_,hfree⟩:=ha
    refine(I.hok b ob e).stay (fun c w' hc q=>(hs.2 c ?_).trans q) (fun _ q=>q) fun _ _ q=>q
    rintro rfl
    rcases hc with rfl | hc
    . rw[hfree] at e;cases e
    . rw[hfree] at hc;cases hc
  rcases hx with hk | hk
  . refine wpAny_storeName_local hk hn (fun h' hn' hs=>?_) hcls
    obtain⟨oL,_,_,Yk,_⟩:=id hn
    refine h _ ⟨I.ok,I.os,I.bare,⟨fun b o e n hb hx=>?_,fun b o e n hb hx=>?_,I.base.free,fun b o e hx=>?_,I.base.tups,I.base.sI,I.base.uq⟩,⟨_,hn',fun j y v' e1 e2 e3=>?_⟩,fun y c e=>?_,I.free,I.mJ,fun p hp=>?_,tracked ⟨oL,Yk,I.free⟩ hs,by simpa using I.len⟩ ⟨_,hs,.inl rfl⟩
    . exact(hs.2 b (Nat.ne_of_lt (Nat.lt_of_lt_of_le (Heap.lt_size e) I.ok.above))).trans (I.base.keep b o e n hb hx)
    . obtain⟨sl,e1⟩:=I.base.slot b o e n hb hx
      exact⟨sl,(hs.2 b (Nat.ne_of_lt (Nat.lt_of_lt_of_le (Heap.lt_size e) I.ok.above))).trans e1⟩
    . obtain⟨o',e1⟩:=I.base.there b o e hx
      exact⟨o',(hs.2 b (Nat.ne_of_lt (Nat.lt_of_lt_of_le (Heap.lt_size e) I.ok.above))).trans e1⟩
    . by_cases hj:j=i
      . subst hj
        rw[hi] at e1;cases e1
        rw[List.getElem?_set_self M4] at e2
        cases e2
        exact⟨u,r,.inl ⟨hk,by simp⟩⟩
      . rw[List.getElem?_set_ne (Ne.symm hj)] at e2
        obtain⟨u',r',q⟩:=hl j y v' e1 e2 e3
        refine⟨u',r',?_⟩
        rcases q with⟨k,e⟩ | ⟨k,c,e,z⟩
        . refine .inl ⟨k,?_⟩
          have:y≠x:=fun e=>hj (xK hN e1 (e▸hi))
          simp[this,e]
        . exact .inr ⟨k,c,e,z.sameBut hs (Kf y c e)⟩
    . obtain⟨w',z⟩:=I.cell y c e
      exact⟨w',z.sameBut hs (Kf y c e)⟩
    . obtain⟨e,n,ne,nf,d⟩:=I.pin p hp
      exact⟨(hs.2 p.1 ne).trans e,n,ne,nf,d⟩
  . have hfn:X.fn x=true:=by
      rcases hf with z | z
      . exact z
      . rw[z] at hk;cases hk
    obtain⟨c,hc⟩:=I.ok.has x (.inl hk)
    obtain⟨w',z⟩:=I.cell x c hc
    refine wpAny_storeName_cell I.ok.kind hk hc z (fun h' hc' hs=>?_)
    obtain⟨oc,hoc,Q9⟩:=id z
    refine h {s with heap:=h'} ⟨I.ok,I.os,I.bare,⟨fun b o e n hb hx=>?_,fun b o e n hb hx=>?_,I.base.free,fun b o e hx=>?_,I.base.tups,I.base.sI,I.base.uq⟩,⟨m,hn.sameBut hs (Ne.symm (Kf x c hc)),fun j y v' e1 e2 e3=>?_⟩,fun y c' e=>?_,I.free,I.mJ,fun p hp=>?_,tracked ⟨oc,hoc,I.mJ x c hc⟩ hs,by simpa using I.len⟩ ⟨c,hs,.inr hc⟩
    . exact(hs.2 b (Nat.ne_of_lt (Nat.lt_of_lt_of_le (Heap.lt_size e) (I.ok.M0 x c hfn hc)))).trans (I.base.keep b o e n hb hx)
    . obtain⟨sl,e1⟩:=I.base.slot b o e n hb hx
      exact⟨sl,(hs.2 b (Nat.ne_of_lt (Nat.lt_of_lt_of_le (Heap.lt_size e) (I.ok.M0 x c hfn hc)))).trans e1⟩
    . obtain⟨o',e1⟩:=I.base.there b o e hx
      exact⟨o',(hs.2 b (Nat.ne_of_lt (Nat.lt_of_lt_of_le (Heap.lt_size e) (I.ok.M0 x c hfn hc)))).trans e1⟩
    . by_cases hj:j=i
      . subst hj
        rw[hi] at e1;cases e1
        rw[List.getElem?_set_self M4] at e2
        cases e2
        exact⟨u,r,.inr ⟨.inl hk,c,hc,hc'⟩⟩
      . rw[List.getElem?_set_ne (Ne.symm hj)] at e2
        obtain⟨u',r',q⟩:=hl j y v' e1 e2 e3
        refine⟨u',r',?_⟩
        rcases q with q | ⟨k,c',e,z'⟩
        . exact .inl q
        . refine .inr ⟨k,c',e,z'.sameBut hs ?_⟩
          rintro rfl
          exact hj (xK hN e1 (I.ok.inj _ _ _ e hc▸hi))
    . by_cases hcc:c'=c
      . subst hcc;exact⟨_,hc'⟩
      . obtain⟨w2,z2⟩:=I.cell y c' e
        exact⟨w2,z2.sameBut hs hcc⟩
    . obtain⟨e,n,ne,nf,d⟩:=I.pin p hp
      refine⟨(hs.2 p.1 ?_).trans e,n,ne,nf,d⟩
      intro q
      rw[q,hoc] at e
      have q':oc=p.2:=Option.some.inj e
      exact d w' (by rw[<-q'];exact Q9)
theorem sL {M:Model}{A:Around}{E:Value->Shared->Prop}{i:Nat}{x:Str}{v:V}{u:Value}{Q:Unit->Shared->Prop}(I:Inv X pins σ H s) (hN:X.N.Nodup) (hi:X.N[i]? =some x) (hx:Loc X.env.scope x) (r:RelV v u)
  (h:∀s',Inv X pins (σ.set i (some v)) H s'->Q () s') (hf:X.fn x=true\/X.env.scope.names.lookup x=some .local:=by first | exact .inl rfl | exact .inr rfl | assumption):wpAny M A (storeName X.env x u) Q E s:=
 uQ I hN hi hx r (fun s' I' _=>h s' I') hf
theorem Inv.Ji {s':Shared}{ch:List Addr}(I:Inv X pins σ H s) (ho:s'.os=s.os) (u:Un (frs X.stack) ch H H' s.heap s'.heap) (hok:mF X.prog X.w H' s'.heap) (hg:AllBare s'.gens)
  (hch:∀b∈ch,(b∈X.ex\/X.s₀.heap.objs.size<=b)/\b≠X.env.locals/\(∀x c,X.env.cells.lookup x=some c->c≠b)/\∀p∈X.pn++pins,p.1≠b):Inv X pins σ H' s':=by
 obtain⟨h',g',d',t',o'⟩:=s'
 have e:o'=s.os:=ho
 subst e
 exact I.call (g':=g') (t':=t') (d':=d') u hok hg hch
end
noncomputable abbrev XK:=Value->Option Addr->Hp->Prop
noncomputable abbrev St:=List (Option V)
noncomputable abbrev VK:=V->Hp->Prop
noncomputable abbrev TE:=St->Hp->VK->Prop
noncomputable abbrev TT:=St->Hp->(Bool->Hp->Prop)->Prop
noncomputable abbrev TA:=St->Hp->(List V->Hp->Prop)->Prop
structure Ends where
 nx:St->Hp->Prop
 rt:VK
 bk:St->Hp->Prop:=fun _ _=>False
 ct:St->Hp->Prop:=fun _ _=>False
noncomputable abbrev TS:=Ends->St->Hp->Prop
noncomputable def EP (X:Cx) (pins:List (Addr×Obj)) (σ:St) (Q:VK) (u:Value) (s':Shared):Prop:=∃v H',Inv X pins σ H' s'/\RelV v u/\Q v H'
noncomputable def TP (X:Cx) (pins:List (Addr×Obj)) (σ:St) (Q:Bool->Hp->Prop) (b:Bool) (s':Shared):Prop:=∃H',Inv X pins σ H' s'/\Q b H'
noncomputable def AP (X:Cx) (pins:List (Addr×Obj)) (σ:St) (Q:List V->Hp->Prop) (us:List Value) (s':Shared):Prop:=∃vs H',Inv X pins σ H' s'/\Vals vs us/\Q vs H'
noncomputable def SP (X:Cx) (pins:List (Addr×Obj)) (D:Ends) (f:Flow) (s':Shared):Prop:=
 match f with
 | .next=>∃σ' H',Inv X pins σ' H' s'/\D.nx σ' H'
 | .brk=>∃σ' H',Inv X pins σ' H' s'/\D.bk σ' H'
 | .cont=>∃σ' H',Inv X pins σ' H' s'/\D.ct σ' H'
 | .ret u=>∃v σ' H',Inv X pins σ' H' s'/\RelV v u/\D.rt v H'
noncomputable def PE (X:Cx) (e:Expr) (t:TE):Prop:=
 ∀(pins:List (Addr×Obj)) (s:Shared) (σ:St) (H:Hp) (Q:VK),Inv X pins σ H s->t σ H Q->wpAny (model X.prog X.w) X.A (eval e X.env) (EP X pins σ Q) X.xe s
noncomputable def PT (X:Cx) (e:Expr) (t:TT):Prop:=
 ∀(pins:List (Addr×Obj)) (s:Shared) (σ:St) (H:Hp) (Q:Bool->Hp->Prop),Inv X pins σ H s->t σ H Q->wpAny (model X.prog X.w) X.A (isTrue e X.env (eval e X.env)) (TP X pins σ Q) X.xe s
noncomputable def PW (X:Cx) (e:Expr) (t:TT):Prop:=
 ∀(whole:Sem Value) (pins:List (Addr×Obj)) (s:Shared) (σ:St) (H:Hp) (Q:Bool->Hp->Prop),Inv X pins σ H s->t σ H Q->wpAny (model X.prog X.w) X.A (isTrue e X.env whole) (TP X pins σ Q) X.xe s
theorem PW.pt {X:Cx}{e:Expr}{t:TT}(h:PW X e t):PT X e t:=h _
noncomputable def PA (X:Cx) (es:List Expr) (t:TA):Prop:=
 ∀(pos:Pos) (pins:List (Addr×Obj)) (s:Shared) (σ:St) (H:Hp) (Q:List V->Hp->Prop),Inv X pins σ H s->t σ H Q->wpAny (model X.prog X.w) X.A (spliced (backTo pos (starEach es X.env))) (AP X pins σ Q) X.xe s
noncomputable def PS (X:Cx) (st:Stmt) (t:TS):Prop:=
 ∀(pins:List (Addr×Obj)) (s:Shared) (σ:St) (H:Hp) (D:Ends),Inv X pins σ H s->t D σ H->wpAny (model X.prog X.w) X.A (exec st X.env) (SP X pins D) X.xe s
noncomputable def xM (X:Cx) (st:List Stmt) (t:TS):Prop:=
 ∀(pins:List (Addr×Obj)) (s:Shared) (σ:St) (H:Hp) (D:Ends),Inv X pins σ H s->t D σ H->wpAny (model X.prog X.w) X.A (execs st X.env) (SP X pins D) X.xe s
theorem fK {α:Type}{t:Sem α}{Q Q':α->Shared->Prop}{M:Model}{A:Around}{E:Value->Shared->Prop}{s:Shared}(h:wpAny M A t Q E s) (hQ:∀a s,Q a s->Q' a s):wpAny M A t Q' E s:=wpAny_mono h hQ fun _ _ x=>x
section
variable {X:Cx}
theorem bin {a b:Expr}{ta tb:TE}(ha:PE X a ta) (hb:PE X b tb){pins:List (Addr×Obj)}{s:Shared}{σ:St}{H:Hp}{R:V->V->Hp->Prop}(I:Inv X pins σ H s) (h:ta σ H fun x H1=>tb σ H1 fun y H2=>R x y H2)
  {α:Type}{Q:α->Shared->Prop}{f:Value->Value->Sem α}
  (hf:∀v u s2 x y H2,Inv X pins σ H2 s2->RelV x v->RelV y u->R x y H2->wpAny (model X.prog X.w) X.A (f v u) Q X.xe s2):
  wpAny (model X.prog X.w) X.A (eval a X.env) (fun v s₁=>wpAny (model X.prog X.w) X.A (eval b X.env) (fun u s₂=>wpAny (model X.prog X.w) X.A (f v u) Q X.xe s₂) X.xe s₁) X.xe s:=by
 refine fK (ha pins s σ H _ I h) fun v s1 ⟨x,H1,I1,r1,q1⟩=>?_
 refine fK (hb pins s1 σ H1 _ I1 q1) fun u s2 ⟨y,H2,I2,r2,q2⟩=>?_
 exact hf v u s2 x y H2 I2 r1 r2 q2
noncomputable def GF (i:Nat):TE:=fun σ H Q=>∃v,σ[i]? =some (some v)/\Q v H
noncomputable def tC (v:V):TE:=fun _ H Q=>Q v H
theorem iQ {i:Nat}{x:Str}{pos:Pos}(hN:X.N[i]? =some x) (hv:Dl X.env.scope x) (hd:(x == ("__debug__":Str))=false:=by decide) (hcd:(x == ("__classdict__":Str))=false:=by decide):PE X (.Name x pos) (GF i):=by
 intro pins s σ H Q I h
 obtain⟨v,e,h⟩:=h
 obtain⟨m,hn,hl⟩:=I.loc
 obtain⟨u,r,l⟩:=hl i x v hN e hv
 have fin:EP X pins σ Q u s:=⟨v,H,I,r,h⟩
 rcases l with⟨hk,hm⟩ | ⟨hk,c,hc,hcell⟩
 ·exact wpAny_Name (wpAny_loadName_local I.ok.kind hk hn hm fin) hd
 ·rcases hk with hk | hk
  ·exact wpAny_Name (wpAny_loadName_cell I.ok.kind hk hc hcell fin) hd
  ·exact wpAny_Name (wpAny_loadName_free I.ok.kind hk hc hcell fin hcd) hd
theorem Kg {i j pos}:PE X (.Constant (.int i) j pos) (tC (.int i)):=fun _ _ _ H _ I h=>wpAny_Constant_int ⟨.int i,H,I.tok _,⟨_,rfl⟩,h⟩
theorem M5 {b j pos}:PE X (.Constant (.bool b) j pos) (tC (.bl b)):=fun _ _ _ H _ I h=>Constant_bool ⟨.bl b,H,I,rfl,h⟩
theorem Kh {j pos}:PE X (.Constant .none j pos) (tC .dh):=fun _ _ _ H _ I h=>Constant_none ⟨.dh,H,I,rfl,h⟩
theorem Kl {x j pos}:PE X (.Constant (.str x) j pos) (tC (.str x)):=fun _ _ _ H _ I h=>Calls.Constant_str ⟨.str x,H,I.tok _,⟨_,rfl⟩,h⟩
noncomputable def Gl (X:Cx) (x:Str):Prop:=X.env.kindOf x=some .globalImplicit
theorem A5 {E:Value->Shared->Prop}{pins:List (Addr×Obj)}{s:Shared}{σ:St}{H:Hp}{x:Str}{u:Value}{pos:Pos}{Q:Value->Shared->Prop}(I:Inv X pins σ H s) (hg:Gl X x) (hm:X.mg x=some u) (h:Q u s)
  (hd:(x == ("__debug__":Str))=false:=by decide):wpAny (model X.prog X.w) X.A (eval (.Name x pos) X.env) Q E s:=
 Calls.Name_function_global I.ok.kind hg (Calls.loadGlobal_global (by rw[I.ok.glob];exact I.mod.glob.keeps I.bk) hm h) hd
theorem mK {E:Value->Shared->Prop}{pins:List (Addr×Obj)}{s:Shared}{σ:St}{H:Hp}{x:Str}{u:Value}{pos:Pos}{Q:Value->Shared->Prop}(I:Inv X pins σ H s) (hg:Gl X x) (hm:X.mg x=none) (hv:bootBuiltins x=some u) (h:Q u s)
  (hn:x≠"__name__":=by decide) (hd:(x == ("__debug__":Str))=false:=by decide):wpAny (model X.prog X.w) X.A (eval (.Name x pos) X.env) Q E s:=by
 obtain⟨mb,h1,h2⟩:=I.mod.blt
 exact Calls.Name_function_global I.ok.kind hg (Calls.loadGlobal_builtin (by rw[I.ok.glob];exact I.mod.glob.keeps I.bk) hm (by rw[I.ok.blt];exact h1.keeps I.bk) ((h2 x hn).trans hv) h) hd
theorem GG {x:Str}{v:V}{u:Value}{pos:Pos}(hg:Gl X x) (hm:X.mg x=some u) (r:RelV v u) (hd:(x == ("__debug__":Str))=false:=by decide):PE X (.Name x pos) (tC v):=
 fun _ _ _ H _ I h=>A5 I hg hm ⟨v,H,I,r,h⟩ hd
variable {a b:Expr}{ta tb:TE}{pos:Pos}
noncomputable def PC (X:Cx) (op:CmpOp) (a b:Expr) (t:TE):Prop:=
 ∀(pins:List (Addr×Obj)) (s:Shared) (σ:St) (H:Hp) (Q:VK),Inv X pins σ H s->t σ H Q->
  wpAny (model X.prog X.w) X.A (eval a X.env) (fun v s₁=>wpAny (model X.prog X.w) X.A (eval b X.env) (fun u s₂=>wpAny (model X.prog X.w) X.A (compareOp op v u) (EP X pins σ Q) X.xe s₂) X.xe s₁) X.xe s
theorem Dw (b:Expr){op:CmpOp}(h:op≠.In) (h2:op≠.NotIn):behindInMarks op b=false:=by
 have e1:(op == CmpOp.In)=false:=by cases op <;> first | rfl | exact absurd rfl h
 have e2:(op == CmpOp.NotIn)=false:=by cases op <;> first | rfl | exact absurd rfl h2
 cases b <;> simp[behindInMarks,e1,e2]
noncomputable def tB (t:TE):TT:=fun σ H Q=>t σ H fun x H1=>∃c,x= .bl c/\Q c H1
theorem Km {op:CmpOp}{t:TE}(h:PC X op a b t) (h1:behindInMarks op b=false:=by first | exact Dw _ (by decide) (by decide) | rfl):PT X (.Compare a [op] [b] pos) (tB t):=by
 intro pins s σ H Q I hw
 refine wpAny_isTrue_Compare1 (fK (h pins s σ H _ I hw) fun v s1 h1=>fK h1 fun u s2 h2=>fK h2 fun c s3 ⟨x,H1,I1,r1,q1⟩=>?_) h1
 obtain⟨d,rfl,q⟩:=q1
 cases r1
 exact wpAny_truthy_bool ⟨H1,I1,q⟩
variable {tA WV:TT}{rest:List Expr}
noncomputable def Rb (t u:TT):TT:=fun σ H Q=>t σ H fun c H1=>if c=true then u σ H1 Q else Q false H1
theorem pw_and1 (ha:PT X a tA):PW X (.BoolOp .And [a] pos) tA:=by
 intro wh pins s σ H Q I h
 refine isTrue_and (fK (ha pins s σ H Q I h) fun c s1 e=>?_)
 cases c with
 | true=>exact isTrue_and_nil e
 | false=>exact e
theorem pw_and (ha:PT X a tA) (hb:PW X (.BoolOp .And (b :: rest) pos) WV):PW X (.BoolOp .And (a :: b :: rest) pos) (Rb tA WV):=by
 intro wh pins s σ H Q I h
 refine isTrue_and (fK (ha pins s σ H _ I h) fun c s1 ⟨H1,I1,q1⟩=>?_)
 cases c with
 | true=>exact hb wh pins s1 σ H1 Q I1 q1
 | false=>exact⟨H1,I1,q1⟩
noncomputable def M6 (ta tb:TE):TE:=fun σ H Q=>ta σ H fun x H1=>∃c,x= .bl c/\if c=true then tb σ H1 Q else Q (.bl false) H1
noncomputable def Rf (ta tb:TE):TE:=fun σ H Q=>ta σ H fun x H1=>∃c,x= .bl c/\if c=true then Q (.bl true) H1 else tb σ H1 Q
noncomputable def M7 (ta:TE):TE:=fun σ H Q=>ta σ H fun x H1=>∃c,x= .bl c/\Q (.bl (!c)) H1
theorem Kn {op}{t:TE}(h:PE X a t):PE X (.BoolOp op [a] pos) t:=fun pins s σ H Q I hw=>BoolOp_one (h pins s σ H Q I hw)
theorem Ko (ha:PE X a ta) (hb:PE X (.BoolOp .And (b :: rest) pos) tb):PE X (.BoolOp .And (a :: b :: rest) pos) (M6 ta tb):=by
 intro pins s σ H Q I h
 refine BoolOp_and (fK (ha pins s σ H _ I h) fun v s1 ⟨x,H1,I1,r1,q1⟩=>?_)
 obtain⟨c,rfl,q1⟩:=q1
 cases r1
 refine wpAny_truthy_bool ?_
 cases c with
 | true=>exact hb pins s1 σ H1 Q I1 q1
 | false=>exact⟨.bl false,H1,I1,rfl,q1⟩
theorem M8 (ha:PE X a ta) (hb:PE X (.BoolOp .Or (b :: rest) pos) tb):PE X (.BoolOp .Or (a :: b :: rest) pos) (Rf ta tb):=by
 intro pins s σ H Q I h
 refine BoolOp_or (fK (ha pins s σ H _ I h) fun v s1 ⟨x,H1,I1,r1,q1⟩=>?_)
 obtain⟨c,rfl,q1⟩:=q1
 cases r1
 refine wpAny_truthy_bool ?_
 cases c with
 | false=>exact hb pins s1 σ H1 Q I1 q1
 | true=>exact⟨.bl true,H1,I1,rfl,q1⟩
theorem Kp (ha:PE X a ta):PE X (.UnaryOp .Not a pos) (M7 ta):=by
 intro pins s σ H Q I h
 refine UnaryOp_ (fK (ha pins s σ H _ I h) fun v s1 ⟨x,H1,I1,r1,q1⟩=>?_)
 obtain⟨c,rfl,q1⟩:=q1
 cases r1
 exact not_of (wpAny_truthy_bool ⟨.bl (!c),H1,I1,rfl,q1⟩)
end
noncomputable def oW (K:PySem.W.Frag) (H:Hp) (a:Addr) (xs:List V):Prop:=
 Rd H a (.lst xs)\/
  ∃(o:Obj) (its:Array Value) (n:Nat),K.lookup a=some o/\o.cls= .type "list"/\o.dict=none/\o.data= .seq its n/\its.size<=sizeLine/\Vals xs its.toList
noncomputable def vU (K:PySem.W.Frag) (H:Hp) (a:Addr) (xs:List V):Prop:=
 Rd H a (.tup xs)\/
  ∃(o:Obj) (its:Array Value) (n:Nat),K.lookup a=some o/\o.cls= .type "tuple"/\o.data= .seq its n/\its.size<=sizeLine/\Vals xs its.toList
noncomputable def Rg:Value->Option V
 | .none=>some .dh
 | .bool b=>some (.bl b)
 | .int i _=>some (.int i)
 | .str x _=>some (.str x)
 | .bytes b _=>some (.Q5 b)
 | .float b _=>some (.flt b)
 | .ref a=>some (.ref a)
 | .type n=>some (.ty n)
 | _=>none
theorem RelV.abs {x:V}{u:Value}(r:RelV x u):Rg u=some x:=by
 cases x with
 | dh=>cases r;rfl
 | bl _=>cases r;rfl
 | int _=>obtain⟨t,rfl⟩:=r;rfl
 | str _=>obtain⟨t,rfl⟩:=r;rfl
 | Q5 _=>obtain⟨t,rfl⟩:=r;rfl
 | flt _=>obtain⟨t,rfl⟩:=r;rfl
 | ref _=>cases r;rfl
 | ty _=>cases r;rfl
theorem RelV.inj {x y:V}{u:Value}(r:RelV x u) (q:RelV y u):x=y:=Option.some.inj (r.abs.symm.trans q.abs)
theorem Vals.inj:∀{xs ys:List V}{us:List Value},Vals xs us->Vals ys us->xs=ys
 | _,_,_,.nil,.nil=>rfl
 | _,_,_,.cons r t,.cons r' t'=>by rw[r.inj r',Vals.inj t t']
section
variable {X:Cx}{pins:List (Addr×Obj)}{σ:St}{H:Hp}{s:Shared}{a:Addr}{xs ys:List V}
theorem oW.of {K:PySem.W.Frag}(h:H a=some (.lst xs)):oW K H a xs:=.inl (.inl h)
theorem Inv.list (I:Inv X pins σ H s) (h:oW X.K H a xs):∃its:List Value,Vals xs its/\PlainL s.heap a its.toArray/\xs.length<=sizeLine:=by
 rcases h with h | ⟨o,its,n,hk,hc,hd,hs,hz,r⟩
 ·obtain⟨z,its,n,r,e⟩:=h.ok I.hok
  exact⟨its,r,⟨_,n,e,rfl,rfl,rfl⟩,z⟩
 ·refine⟨its.toList,r,⟨o,n,I.Dv a o hk,hc,hd,by simpa using hs⟩,?_⟩
  have e:=r.length
  simp only[Array.length_toList] at e
  omega
theorem Inv.tuple (I:Inv X pins σ H s) (h:vU X.K H a xs):∃its:List Value,Vals xs its/\IsTup s.heap a its.toArray/\xs.length<=sizeLine:=by
 rcases h with h | ⟨o,its,n,hk,hc,hs,hz,r⟩
 ·obtain⟨z,its,r,p⟩:=h.ok I.hok
  exact⟨its,r,p,z⟩
 ·refine⟨its.toList,r,⟨o,I.Dv a o hk,hc,n,by simpa using hs⟩,?_⟩
  have e:=r.length
  simp only[Array.length_toList] at e
  omega
theorem Inv.xN (I:Inv X pins σ H s) (h:oW X.K H a xs) (h':oW X.K H a ys):xs=ys:=by
 obtain⟨its,r,⟨o,n,e,_,_,d⟩,_⟩:=I.list h
 obtain⟨its',r',⟨o',n',e',_,_,d'⟩,_⟩:=I.list h'
 rw[e] at e';cases e'
 rw[d] at d'
 injection d' with d1 _
 have:its=its':=by simpa using congrArg Array.toList d1
 subst this
 exact r.inj r'
theorem Inv.uR (I:Inv X pins σ H s) (h:vU X.K H a xs) (h':vU X.K H a ys):xs=ys:=by
 obtain⟨its,r,⟨o,e,_,n,d⟩,_⟩:=I.tuple h
 obtain⟨its',r',⟨o',e',_,n',d'⟩,_⟩:=I.tuple h'
 rw[e] at e';cases e'
 rw[d] at d'
 injection d' with d1 _
 have:its=its':=by simpa using congrArg Array.toList d1
 subst this
 exact r.inj r'
end
noncomputable abbrev Cx.ur (X:Cx) (E:Value->Shared->Prop):Cx:={X with xe:=E}
noncomputable abbrev Cx.M9 (X:Cx):Cx:=X.ur fun _ _=>False
theorem Cx.Ok.ur {X:Cx}(ok:X.Ok) (E:Value->Shared->Prop):(X.ur E).Ok:=
 ⟨ok.mod,ok.kind,ok.glob,ok.blt,ok.above,ok.inj,ok.has,ok.M0,ok.hd,ok.frames,ok.stk,ok.PU,ok.bs,ok.Gp,ok.Co,ok.Cp,ok.sJ,ok.MB⟩
theorem Cx.Ok.mL {X:Cx}{E:Value->Shared->Prop}(ok:(X.ur E).Ok):X.Ok:=
 ⟨ok.mod,ok.kind,ok.glob,ok.blt,ok.above,ok.inj,ok.has,ok.M0,ok.hd,ok.frames,ok.stk,ok.PU,ok.bs,ok.Gp,ok.Co,ok.Cp,ok.sJ,ok.MB⟩
section
variable {X:Cx}{pins:List (Addr×Obj)}{σ:St}{H:Hp}{s:Shared}{E:Value->Shared->Prop}
theorem Inv.ur (I:Inv X pins σ H s) (E:Value->Shared->Prop):Inv (X.ur E) pins σ H s:=⟨I.ok.ur E,I.os,I.bare,I.base,I.loc,I.cell,I.free,I.mJ,I.pin,I.hok,I.len⟩
theorem Inv.mL (I:Inv (X.ur E) pins σ H s):Inv X pins σ H s:=⟨I.ok.mL,I.os,I.bare,I.base,I.loc,I.cell,I.free,I.mJ,I.pin,I.hok,I.len⟩
theorem SP.mL {D:Ends}{f:Flow}{s':Shared}(h:SP (X.ur E) pins D f s'):SP X pins D f s':=by
 cases f with
 | next=>obtain⟨σ',H',I,q⟩:=h;exact⟨σ',H',I.mL,q⟩
 | brk=>obtain⟨σ',H',I,q⟩:=h;exact⟨σ',H',I.mL,q⟩
 | cont=>obtain⟨σ',H',I,q⟩:=h;exact⟨σ',H',I.mL,q⟩
 | ret u=>obtain⟨v,σ',H',I,r,q⟩:=h;exact⟨v,σ',H',I.mL,r,q⟩
theorem xM.M9 {st:List Stmt}{t:TS}(h:xM X.M9 st t):xM X st t:=fun pins s σ H D I hw=>
 wpAny_mono (h pins s σ H D (I.ur _) hw) (fun _ _ q=>q.mL) fun _ _ z=>False.elim z
end
section
variable {X:Cx}{st:Stmt}{rest:List Stmt}{t u:TS}{e:Expr}{te:TE}{pos:Pos}
noncomputable def Na:TS:=fun D σ H=>D.nx σ H
noncomputable def Rh (t u:TS):TS:=fun D σ H=>t {D with nx:=u D} σ H
theorem GH:xM X [] Na:=fun _ _ σ H _ I h=>wpAny_execs_nil ⟨σ,H,I,h⟩
theorem sM (h1:PS X st t) (h2:xM X rest u):xM X (st :: rest) (Rh t u):=by
 intro pins s σ H D I h
 refine wpAny_execs_cons (fK (h1 pins s σ H {D with nx:=u D} I h) fun f s1 q=>?_)
 cases f with
 | next=>
  obtain⟨σ',H',I',q⟩:=q
  exact h2 pins s1 σ' H' D I' q
 | ret v=>exact q
 | brk=>exact q
 | cont=>exact q
theorem A6 (h1:PS X st t):xM X [st] t:=by
 intro pins s σ H D I h
 refine wpAny_execs_cons (fK (h1 pins s σ H D I h) fun f s1 q=>?_)
 cases f with
 | next=>exact wpAny_execs_nil q
 | ret v=>exact q
 | brk=>exact q
 | cont=>exact q
theorem Inv.quiet {pins:List (Addr×Obj)}{σ:St}{H:Hp}{s:Shared}(I:Inv X pins σ H s):interactive X.env=false:=by simp[interactive,I.ok.kind]
noncomputable def Nb (te:TE):TS:=fun D σ H=>te σ H fun _ H1=>D.nx σ H1
theorem A7 (he:PE X e te) (hs:swapsWith e none pos.line X.env=pure false:=by rfl):PS X (.Expr e pos) (Nb te):=by
 intro pins s σ H D I h
 exact wpAny_Expr_any (fK (he pins s σ H _ I h) fun v s1 ⟨x,H1,I1,r1,q1⟩=>⟨σ,H1,I1,q1⟩) I.quiet hs
noncomputable def Ri (te:TE):TS:=fun D σ H=>te σ H D.rt
theorem Kq (he:PE X e te):PS X (.Return (some e) pos) (Ri te):=by
 intro pins s σ H D I h
 exact wpAny_Return_some (fK (he pins s σ H _ I h) fun v s1 ⟨x,H1,I1,r1,q1⟩=>⟨x,σ,H1,I1,r1,q1⟩)
noncomputable def Rj (c:TT) (t u:TS):TS:=fun D σ H=>c σ H fun b H1=>if b=true then t D σ H1 else u D σ H1
theorem Nc {c:Expr}{a b:List Stmt}{tc:TT}(hc:PT X c tc) (ha:xM X a t) (hb:xM X b u):PS X (.If c a b pos) (Rj tc t u):=by
 intro pins s σ H D I h
 refine wpAny_If (fK (hc pins s σ H _ I h) fun d s1 ⟨H1,I1,q1⟩=>?_)
 cases d with
 | true=>exact ha pins s1 σ H1 D I1 q1
 | false=>exact hb pins s1 σ H1 D I1 q1
end
noncomputable abbrev TG:=V->St->Hp->(St->Hp->Prop)->Prop
noncomputable abbrev GJ:=List V->St->Hp->(St->Hp->Prop)->Prop
noncomputable def PG (X:Cx) (target:Expr) (t:TG):Prop:=
 ∀(pins:List (Addr×Obj)) (s:Shared) (σ:St) (H:Hp) (v:V) (u:Value) (Q:St->Hp->Prop),Inv X pins σ H s->RelV v u->t v σ H Q->
  wpAny (model X.prog X.w) X.A (assign target X.env u) (fun _ s'=>∃σ' H',Inv X pins σ' H' s'/\Q σ' H') X.xe s
noncomputable def Jj (X:Cx) (ts:List Expr) (t:GJ):Prop:=
 ∀(pins:List (Addr×Obj)) (s:Shared) (σ:St) (H:Hp) (vs:List V) (us:List Value) (Q:St->Hp->Prop),Inv X pins σ H s->Vals vs us->t vs σ H Q->
  wpAny (model X.prog X.w) X.A (assignInOrder ((assignEach ts X.env).map (·.2)) us) (fun _ s'=>∃σ' H',Inv X pins σ' H' s'/\Q σ' H') X.xe s
noncomputable abbrev Kr:=V->V->V->Hp->(Hp->Prop)->Prop
noncomputable def Nd (X:Cx) (t:Kr):Prop:=
 ∀(pins:List (Addr×Obj)) (s:Shared) (σ:St) (H:Hp) (o i v:V) (ov iv u:Value) (Q:Hp->Prop),Inv X pins σ H s->RelV o ov->RelV i iv->RelV v u->t o i v H Q->
  wpAny (model X.prog X.w) X.A (setItem ov iv u) (fun _ s'=>∃H',Inv X pins σ H' s'/\Q H') X.xe s
noncomputable abbrev PX:=V->V->Hp->VK->Prop
noncomputable def Rk (X:Cx) (op:Operator) (t:PX):Prop:=
 ∀(pins:List (Addr×Obj)) (s:Shared) (σ:St) (H:Hp) (x y:V) (v u:Value) (Q:VK),Inv X pins σ H s->RelV x v->RelV y u->t x y H Q->
  wpAny (model X.prog X.w) X.A (inplaceOp op v u) (EP X pins σ Q) X.xe s
section
variable {X:Cx}{pos:Pos}
noncomputable def qV (i:Nat):TG:=fun v σ H Q=>Q (σ.set i (some v)) H
theorem sf {i:Nat}{x:Str}(hN:X.N.Nodup) (hi:X.N[i]? =some x) (hx:Loc X.env.scope x) (hf:X.fn x=true\/X.env.scope.names.lookup x=some .local:=by first | exact .inl rfl | exact .inr rfl | assumption):PG X (.Name x pos) (qV i):=by
 intro pins s σ H v u Q I r h
 exact wpAny_assign_Name (sL I hN hi hx r (fun s' I'=>⟨_,H,I',h⟩) hf)
noncomputable def Nf:GJ:=fun vs σ H Q=>vs=[]/\Q σ H
noncomputable def Dy (t:TG) (u:GJ):GJ:=fun vs σ H Q=>∃v r,vs=v :: r/\t v σ H fun σ' H'=>u r σ' H' Q
theorem A8:Jj X [] Nf:=by
 intro pins s σ H vs us Q I r h
 obtain⟨e,h⟩:=h
 subst e
 cases r
 exact assignInOrder_nil ⟨σ,H,I,h⟩
theorem sN {e:Expr}{es:List Expr}{t:TG}{u:GJ}(h1:PG X e t) (h2:Jj X es u)
  (hs:(assignEach (e :: es) X.env).map (·.2)=assign e X.env :: (assignEach es X.env).map (·.2):=by rfl):Jj X (e :: es) (Dy t u):=by
 intro pins s σ H vs us Q I r h
 obtain⟨v,vr,e1,h⟩:=h
 subst e1
 cases r with
 | cons r rr=>
  rw[hs]
  refine assignInOrder_cons (fK (h1 pins s σ H _ _ _ I r h) fun _ s1 ⟨σ1,H1,I1,q1⟩=>?_)
  exact h2 pins s1 σ1 H1 _ _ Q I1 rr q1
noncomputable def Ng (K:PySem.W.Frag) (n:Nat) (t:GJ):TG:=fun v σ H Q=>∃a xs,v= .ref a/\vU K H a xs/\xs.length=n/\t xs σ H Q
theorem Dz {es:List Expr}{k:Nat}{t:GJ}{n:Nat}(hc:X.calm=true) (h:Jj X es t)
  (hn:(assignEach es X.env).length=n:=by rfl) (hst:(assignEach es X.env).findIdx? (·.1)=none:=by rfl):PG X (.Tuple es k pos) (Ng X.K n t):=by
 intro pins s σ H v u Q I r hw
 obtain⟨a,xs,e1,hq,hl,hw⟩:=hw
 subst e1
 cases r
 obtain⟨its,rv,ht,hz⟩:=I.tuple hq
 refine assign_Tuple_tuple (I.ok.hd hc) ht (by simp[hn,<-hl,rv.length]) hst fun h' hx=>?_
 have I1:Inv X pins σ H {s with heap:=h'}:=I.kept (t':=s.toks) fun b o e=>hx b o (Nat.ne_of_lt (Heap.lt_size e)) e
 exact h pins _ σ H xs _ Q I1 (by simpa using rv) hw
noncomputable def Rl (to ti:TE) (t:Kr):TG:=fun v σ H Q=>to σ H fun o H1=>ti σ H1 fun i H2=>t o i v H2 fun H3=>Q σ H3
theorem Ks {o i:Expr}{to ti:TE}{t:Kr}(ho:PE X o to) (hi:PE X i ti) (hs:Nd X t)
  (ha:∀v,assign (.Subscript o i pos) X.env v=(do
   let ov <-holding [v] (eval o X.env)
   let iv <-holding [v,ov] (eval i X.env)
   standAt pos
   holding [v,ov,iv] (setItem ov iv v)
   release [v,ov,iv] []):=by intro _;rfl):PG X (.Subscript o i pos) (Rl to ti t):=by
 intro pins s σ H v u Q I r h
 rw[ha]
 refine wpAny_bind (wpAny_holding (fK (ho pins s σ H _ I h) fun ov s1 ⟨x,H1,I1,r1,q1⟩=>?_))
 refine wpAny_bind (wpAny_holding (fK (hi pins s1 σ H1 _ I1 q1) fun iv s2 ⟨y,H2,I2,r2,q2⟩=>?_))
 refine wpAny_bind (wpAny_standAt (wpAny_bind (wpAny_holding (fK (hs pins s2 σ H2 x y v ov iv u _ I2 r1 r2 r q2) fun _ s3 ⟨H3,I3,q3⟩=>?_))))
 exact wpAny_release ⟨σ,H3,I3,q3⟩
noncomputable def GK (te:TE) (g:TG):TS:=fun D σ H=>te σ H fun x H1=>g x σ H1 D.nx
theorem DA {tg e:Expr}{te:TE}{g:TG}(he:PE X e te) (hg:PG X tg g) (hs:swapsWithSole [tg] e pos.line X.env=pure false:=by rfl) (hw:swappedStores [tg] e X.env=pure none:=by rfl)
  (h1:(assignEach [tg] X.env).map (·.2)=[assign tg X.env]:=by rfl):PS X (.Assign [tg] e pos) (GK te g):=by
 intro pins s σ H D I h
 refine wpAny_Assign_stores (fK (he pins s σ H _ I h) fun v s1 ⟨x,H1,I1,r1,q1⟩=>?_) hs hw
 rw[h1]
 exact fK (hg pins s1 σ H1 x v _ I1 r1 q1) fun _ s2 q=>q
theorem Ku {i:Nat}{x:Str}{e:Expr}{te:TE}{pos':Pos}(hN:X.N.Nodup) (hi:X.N[i]? =some x) (hx:Loc X.env.scope x) (he:PE X e te) (hs:swapsWith e (some (.Name x pos')) pos.line X.env=pure false:=by rfl) (hf:X.fn x=true\/X.env.scope.names.lookup x=some .local:=by first | exact .inl rfl | exact .inr rfl | assumption):
  PS X (.Assign [.Name x pos'] e pos) (GK te (qV i)):=by
 intro pins s σ H D I h
 refine wpAny_Assign_Name (fK (he pins s σ H _ I h) fun v s1 ⟨y,H1,I1,r1,q1⟩=>?_) hs
 exact sL I1 hN hi hx r1 (fun s2 I2=>⟨_,H1,I2,q1⟩) hf
noncomputable def Rm (i:Nat) (te:TE) (ti:PX):TS:=fun D σ H=>∃x,σ[i]? =some (some x)/\te σ H fun y H1=>ti x y H1 fun z H2=>D.nx (σ.set i (some z)) H2
theorem Kv {i : Nat} {x : Str} {e : Expr} {te : TE} {op : Operator} {ti : PX} {pos' : Pos} (hN : X.N.Nodup) (hi : X.N[i]? = some x) (hx : Loc X.env.scope x) (he : PE X e te) (ho : Rk X op ti) (hf : X.fn x = true \/ X.env.scope.names.lookup x = some .local := by first | exact .inl rfl | exact .inr rfl | assumption) :
    PS X (.AugAssign (.Name x pos') op e pos) (Rm i te ti):=by
  intro pins s σ H D I h
  obtain⟨v,e1,h⟩:=h
  obtain⟨m,hn,hl⟩:=I.loc
  have vis:Dl X.env.scope x:=by rcases hx with k | k;exact .inl k;exact .inr (.inl k)
  obtain⟨u,r,l⟩:=hl i x v hi e1 vis
  refine wpAny_AugAssign_Name ?_
  have go:wpAny (model X.prog X.w) X.A (eval e X.env) (fun w s₂=>wpAny (model X.prog X.w) X.A (inplaceOp op u w) (fun r s₃=>wpAny (model X.prog X.w) X.A (storeName X.env x r) (fun _=>SP X pins D .next) X.xe s₃) X.xe s₂) X.xe s:=by
    refine fK (he pins s σ H _ I h) fun w s1 ⟨y,H1,I1,r1,q1⟩=>?_
    refine fK (ho pins s1 σ H1 v y u w _ I1 r r1 q1) fun z s2 ⟨zv,H2,I2,r2,q2⟩=>?_
    exact sL I2 hN hi hx r2 (fun s3 I3=>⟨_,H2,I3,q2⟩) hf
  rcases l with⟨hk,hm⟩ | ⟨hk,c,hc,hcell⟩
  . exact wpAny_loadName_local I.ok.kind hk hn hm go
  . rcases hk with hk | hk
    . exact wpAny_loadName_cell I.ok.kind hk hc hcell go
    . rcases hx with k | k
      . have:X.env.scope.names.lookup x=some .free:=hk
        rw[k] at this;cases this
      . have:X.env.scope.names.lookup x=some .free:=hk
        rw[k] at this;cases this
noncomputable def WW (f:Int->Int->Int):PX:=fun x y H Q=>∃i j,x= .int i/\y= .int j/\Q (.int (f i j)) H
theorem Kw:Rk X .Add (WW fun i j=>i+j):=by
 intro pins s σ H x y v u Q I r1 r2 h
 obtain⟨i,j,e1,e2,q⟩:=h
 subst e1;subst e2
 obtain⟨t,rfl⟩:=r1
 obtain⟨t',rfl⟩:=r2
 exact iadd_int ⟨.int _,H,I.tok _,⟨_,rfl⟩,q⟩
end
section
variable {X:Cx}{pos:Pos}
noncomputable def Ky (c:TT) (tb:TS):TS:=fun D σ H=>∃W:Nat->St->Hp->Prop,(∃m,W m σ H)/\∀m σ H,W m σ H->
 c σ H fun b H1=>if b=true then ∃N:St->Hp->Prop,(∀σ' H',N σ' H'->∃m',m' < m/\W m' σ' H')/\tb {D with nx:=N,ct:=N,bk:=D.nx} σ H1 else D.nx σ H1
theorem DB {c:Expr}{body:List Stmt}{tc:TT}{tb:TS}(hp:PassesOwn (model X.prog X.w) X.A X.env X.xe) (hc:PT X c tc) (hb:xM X body tb):PS X (.While c body [] pos) (Ky tc tb):=by
 intro pins s σ H D I h
 obtain⟨W,⟨m0,w0⟩,turn⟩:=h
 refine wpAny_While (codeAny_whileLoop (fun n s'=>∃σ' H',Inv X pins σ' H' s'/\W n σ' H') ?_ m0 ⟨σ,H,I,w0⟩)
 rintro n s1 ⟨σ1,H1,I1,w1⟩
 refine wpAny_passesOwn hp (fK (hc pins s1 σ1 H1 _ I1 (turn n σ1 H1 w1)) fun b s2 ⟨H2,I2,q2⟩=>?_)
 cases b with
 | true=>
  obtain⟨N,hN,q2⟩:=q2
  rw[if_pos rfl]
  refine wpAny_passesOwn hp (fK (hb pins s2 σ1 H2 _ I2 q2) fun f s3 q3=>?_)
  cases f with
  | next=>
   obtain⟨σ3,H3,I3,n3⟩:=q3
   obtain⟨m',hm,w3⟩:=hN σ3 H3 n3
   exact⟨m',hm,σ3,H3,I3,w3⟩
  | cont=>
   obtain⟨σ3,H3,I3,n3⟩:=q3
   obtain⟨m',hm,w3⟩:=hN σ3 H3 n3
   exact⟨m',hm,σ3,H3,I3,w3⟩
  | brk=>exact q3
  | ret v=>exact q3
 | false=>
  rw[if_neg Bool.false_ne_true]
  exact wpAny_execs_nil ⟨σ1,H2,I2,q2⟩
end
structure It where
 go:Nat->Hp->Prop
 MC:Nat->Hp->V->Hp->Prop
 stop:Nat->Hp->Prop
noncomputable def mz (X:Cx) (pins:List (Addr×Obj)) (H:Hp) (b:Addr):Prop:=
 H b=none/\b≠X.env.locals/\b∉X.fs/\(b∈X.ex\/X.s₀.heap.objs.size<=b)/\(∀x c,X.env.cells.lookup x=some c->c≠b)/\∀p∈X.pn++pins,p.1≠b
theorem Inv.xO {X:Cx}{pins:List (Addr×Obj)}{σ:St}{H H':Hp}{s:Shared}{b:Addr}(I:Inv X pins σ H s) (hb:s.heap.objs.size<=b) (hn:H' b=none):mz X pins H' b:=by
 refine⟨hn,Nat.ne_of_gt (Nat.lt_of_lt_of_le I.lt hb),I.Ke hb,.inr (Nat.le_trans I.sz hb),fun x c e z=>?_,fun p hp z=>?_⟩
 ·obtain⟨v,q⟩:=I.cell x c e
  exact absurd (Nat.lt_of_lt_of_le q.lt (by rw[z];exact hb)) (Nat.lt_irrefl _)
 ·exact absurd (Nat.lt_of_lt_of_le (Heap.lt_size (I.pin p hp).1) (by rw[z];exact hb)) (Nat.lt_irrefl _)
structure Turn (P:Program) (w:World) (K:PySem.W.Frag) (tg:Expr) (J:It) (fp:List Addr) (it:Addr) (tn:Nat->Heap->Prop):Prop where
 mem:it∈fp
 obj:∀i h,tn i h->∀b∈fp,∃o,h.get? b=some o/\∀v,o.data≠.cell v
 keep:∀i h h',tn i h->(∀b∈fp,∀o,h.get? b=some o->h'.get? b=some o)->tn i h'
 item:∀(X:Cx),X.prog=P->X.w=w->X.K=K->X.calm=true->∀(i:Nat) (pins:List (Addr×Obj)) (s:Shared) (σ:St) (H:Hp) (E:Value->Shared->Prop),Inv X pins σ H s->(∀b∈fp,mz X pins H b)->tn i s.heap->J.go i H->
  wpAny (model P w) X.A (pyNext (.ref it)) (fun r s1=>∃u,r=some u/\
   wpAny (model P w) X.A (letOwnedTupleGo tg (.ref it) u) (fun _ s2=>∃x H',Inv X pins σ H' s2/\RelV x u/\J.MC i H x H'/\tn (i+1) s2.heap/\∀b∈fp,H' b=none) E s1) E s
 done:∀(X:Cx),X.prog=P->X.w=w->X.K=K->X.calm=true->∀(i:Nat) (pins:List (Addr×Obj)) (s:Shared) (σ:St) (H:Hp) (E:Value->Shared->Prop),Inv X pins σ H s->(∀b∈fp,mz X pins H b)->tn i s.heap->J.stop i H->
  wpAny (model P w) X.A (pyNext (.ref it)) (fun r s1=>r=none/\Inv X pins σ H s1) E s
 self:∀(A:Around) (i:Nat) (s:Shared) (Q:Value->Shared->Prop) (E:Value->Shared->Prop),tn i s.heap->Q (.ref it) s->wpAny (model P w) A (pyIter (.ref it)) Q E s
noncomputable abbrev TI:=St->Hp->(It->Hp->Prop)->Prop
noncomputable def Rn (X:Cx) (pins:List (Addr×Obj)) (σ:St) (tg:Expr) (R:It->Hp->Prop) (itv:Value) (s2:Shared):Prop:=
 ∃(it:Addr) (fp:List Addr) (tn:Nat->Heap->Prop) (J:It) (H':Hp),itv= .ref it/\Inv X pins σ H' s2/\Turn X.prog X.w X.K tg J fp it tn/\tn 0 s2.heap/\(∀b∈fp,mz X pins H' b)/\R J H'
noncomputable def PI (X:Cx) (tg iter:Expr) (wi:TI):Prop:=
 ∀(pins:List (Addr×Obj)) (s:Shared) (σ:St) (H:Hp) (R:It->Hp->Prop),Inv X pins σ H s->wi σ H R->
  wpAny (model X.prog X.w) X.A (eval iter X.env) (fun v s1=>wpAny (model X.prog X.w) X.A (pyIter v) (Rn X pins σ tg R) X.xe s1) X.xe s
theorem DC {M : Model} {A : Around} {E : Value -> Shared -> Prop} {s : Shared} {tg : Expr} {it : Addr} {u : Value} {o : Obj} {n : String} {vs : Array Value} {Q : Unit -> Shared -> Prop} (ho : s.heap.get? it = some o) (hc : o.cls = .type n) (hd : o.data = .fields vs)
    (hn:["enumerate","zip","dict_itemiterator","dict_reverseitemiterator","odict_iterator","itertools.zip_longest","itertools.pairwise"].contains n=false) (hQ:Q () s):wpAny M A (letOwnedTupleGo tg (.ref it) u) Q E s:=by
  unfold letOwnedTupleGo
  cases tg <;> first
    | exact wpAny_pure hQ
    | (cases u <;> first
        | exact wpAny_pure hQ
        | (refine wpAny_bind (wpAny_load ho ?_)
           rw[hc,hd]
           show wpAny M A (if(["enumerate","zip","dict_itemiterator","dict_reverseitemiterator","odict_iterator","itertools.zip_longest","itertools.pairwise"].contains n && vs[0]? == some (rawInt _))=true then _ else _) Q E s
           rw[if_neg (by intro h;rw[hn,Bool.false_and] at h;cases h)]
           exact wpAny_pure hQ))
noncomputable def Ro (K:PySem.W.Frag) (a:Addr):It:=
 ⟨fun i H=>∃xs x,oW K H a xs/\xs[i]? =some x,fun i H x H'=>H'=H/\∀xs,oW K H a xs->xs[i]? =some x,fun i H=>∃xs,oW K H a xs/\xs.length<=i⟩
noncomputable def Rp (K:PySem.W.Frag) (a:Addr):It:=
 ⟨fun i H=>∃xs x,vU K H a xs/\xs[i]? =some x,fun i H x H'=>H'=H/\∀xs,vU K H a xs->xs[i]? =some x,fun i H=>∃xs,vU K H a xs/\xs.length<=i⟩
noncomputable def PY (lo:Int) (n:Nat):It:=⟨fun i _=>i < n,fun i H x H'=>H'=H/\x= .int (lo+i),fun i _=>n<=i⟩
theorem Cq {P:Program}{w:World}{K:PySem.W.Frag}{tg:Expr}(a it:Addr):Turn P w K tg (Ro K a) [it] it (fun i h=>h.IsListIter it a i) where
 mem:=by simp
 obj:=fun i h st b hb=>by
  have e:b=it:=by simpa using hb
  subst e
  obtain⟨o,e,c,d⟩:=st
  exact⟨o,e,fun v z=>by rw[d] at z;cases z⟩
 keep:=fun i h h' st k=>st.at fun o e=>k it (by simp) o e
 item:=by
  intro X hP hw hK hc i pins s σ H E I hf st hg
  subst hP hw hK
  obtain⟨xs,x,hq,hx⟩:=hg
  obtain⟨its,rv,p,hz⟩:=I.list hq
  obtain⟨u,hu,ru⟩:=rv.get hx
  obtain⟨f0,f1,f2,f3,f4,f5⟩:=hf it (by simp)
  refine wpAny_pyNext_list_item st p.isList (x:=u) (by simpa using hu) fun h' st' sb=>?_
  have I1:Inv X pins σ H {s with heap:=h'}:=I.turned (t':=s.toks) (fun b o hb e=>(sb.2 b hb).trans e) f0 f1 f3 f4 f5
  obtain⟨o,e,c,d⟩:=id st'
  exact⟨u,rfl,DC (s:={s with heap:=h'}) e c d (by decide) ⟨x,H,I1,ru,⟨rfl,fun ys hy=>by rw[I.xN hy hq];exact hx⟩,st',fun b hb=>(hf b hb).1⟩⟩
 done:=by
  intro X hP hw hK hc i pins s σ H E I hf st hg
  subst hP hw hK
  obtain⟨xs,hq,hx⟩:=hg
  obtain⟨its,rv,p,hz⟩:=I.list hq
  obtain⟨f0,f1,f2,f3,f4,f5⟩:=hf it (by simp)
  have hl:=rv.length
  exact wpAny_pyNext_list_end (I.ok.hd hc) st p.isList (by simp;omega) fun h' eb=>⟨rfl,I.turned (t':=s.toks) (fun b o hb e=>eb b o hb e) f0 f1 f3 f4 f5⟩
 self:=fun _ _ _ _ _ st h=>wpAny_pyIter_listiter st h
theorem zQ {P:Program}{w:World}{K:PySem.W.Frag}{tg:Expr}(a it:Addr):Turn P w K tg (Rp K a) [it] it (fun i h=>h.IsTupleIter it a i) where
 mem:=by simp
 obj:=fun i h st b hb=>by
  have e:b=it:=by simpa using hb
  subst e
  obtain⟨o,e,c,d⟩:=st
  exact⟨o,e,fun v z=>by rw[d] at z;cases z⟩
 keep:=fun i h h' st k=>st.at fun o e=>k it (by simp) o e
 item:=by
  intro X hP hw hK hc i pins s σ H E I hf st hg
  subst hP hw hK
  obtain⟨xs,x,hq,hx⟩:=hg
  obtain⟨its,rv,p,hz⟩:=I.tuple hq
  obtain⟨u,hu,ru⟩:=rv.get hx
  obtain⟨f0,f1,f2,f3,f4,f5⟩:=hf it (by simp)
  refine wpAny_pyNext_tuple_item st (show s.heap.IsTuple a its.toArray from p) (x:=u) (by simpa using hu) fun h' st' sb=>?_
  have I1:Inv X pins σ H {s with heap:=h'}:=I.turned (t':=s.toks) (fun b o hb e=>(sb.2 b hb).trans e) f0 f1 f3 f4 f5
  obtain⟨o,e,c,d⟩:=id st'
  exact⟨u,rfl,DC (s:={s with heap:=h'}) e c d (by decide) ⟨x,H,I1,ru,⟨rfl,fun ys hy=>by rw[I.uR hy hq];exact hx⟩,st',fun b hb=>(hf b hb).1⟩⟩
 done:=by
  intro X hP hw hK hc i pins s σ H E I hf st hg
  subst hP hw hK
  obtain⟨xs,hq,hx⟩:=hg
  obtain⟨its,rv,p,hz⟩:=I.tuple hq
  obtain⟨f0,f1,f2,f3,f4,f5⟩:=hf it (by simp)
  have hl:=rv.length
  exact wpAny_pyNext_tuple_end (I.ok.hd hc) st (show s.heap.IsTuple a its.toArray from p) (by simp;omega) fun h' eb=>⟨rfl,I.turned (t':=s.toks) (fun b o hb e=>eb b o hb e) f0 f1 f3 f4 f5⟩
 self:=fun _ _ _ _ _ st h=>wpAny_pyIter_tupleiter st h
theorem zR {P:Program}{w:World}{K:PySem.W.Frag}{tg:Expr}(it:Addr) (lo:Int) (n:Nat):Turn P w K tg (PY lo n) [it] it (fun i h=>IsRangeIter h it (lo+(i:Nat) * 1) ((n:Int) - (i:Nat)) 1) where
  mem:=by simp
  obj := fun i h st b hb => by
    have e:b=it:=by simpa using hb
    subst e
    exact⟨_,st,fun v z=>by
      have z':Data.fields _=Data.cell v:=z
      cases z'⟩
  keep:=fun i h h' st k=>k it (by simp) _ st
  item:=by
    intro X hP hw hK hc i pins s σ H E I hf st hg
    subst hP hw hK
    obtain⟨f0,f1,f2,f3,f4,f5⟩:=hf it (by simp)
    have W:=Walks.range (prog:=X.prog) (w:=X.w) (I.ok.hd hc) it lo 1 n
    refine W.item i s _ _ hg st fun v h' tk hv st' kk=>?_
    obtain⟨t,rfl⟩:=hv
    have I1:Inv X pins σ H {s with heap:=h',toks:=tk}:=I.turned (fun b o hb e=>kk b o (by simpa using hb) e) f0 f1 f3 f4 f5
    refine⟨_,rfl,DC (s:={s with heap:=h',toks:=tk}) (n:="range_iterator") st' rfl rfl (by decide) ⟨.int (lo+i),H,I1,⟨t,?_⟩,⟨rfl,rfl⟩,st',fun b hb=>(hf b hb).1⟩⟩
    rw[Int.mul_one]
  done:=by
    intro X hP hw hK hc i pins s σ H E I hf st hg
    subst hP hw hK
    obtain⟨f0,f1,f2,f3,f4,f5⟩:=hf it (by simp)
    exact wpAny_pyNext_range_end (I.ok.hd hc) st (by have:n<=i:=hg;omega) fun h' eb=>⟨rfl,I.turned (t':=s.toks) (fun b o hb e=>eb b o hb e) f0 f1 f3 f4 f5⟩
  self:=fun _ _ _ _ _ st h=>wpAny_pyIter_rangeiter st h
section
variable {X:Cx}{tg:Expr}
noncomputable def Nh (K:PySem.W.Frag) (tl:TE):TI:=fun σ H R=>tl σ H fun x H1=>∃a,x= .ref a/\(∃xs,oW K H1 a xs)/\R (Ro K a) H1
noncomputable def Rq (K:PySem.W.Frag) (tl:TE):TI:=fun σ H R=>tl σ H fun x H1=>∃a,x= .ref a/\(∃xs,vU K H1 a xs)/\R (Rp K a) H1
theorem A9 {l:Expr}{tl:TE}(hl:PE X l tl):PI X tg l (Nh X.K tl):=by
 intro pins s σ H R I h
 refine fK (hl pins s σ H _ I h) fun v s1 ⟨x,H1,I1,r1,q1⟩=>?_
 obtain⟨a,e,⟨xs,hq⟩,q⟩:=q1
 subst e
 cases r1
 obtain⟨its,rv,p,hz⟩:=I1.list hq
 refine wpAny_pyIter_list p.isList ?_
 refine⟨s1.heap.objs.size,[s1.heap.objs.size],_,_,H1,rfl,I1.kept (t':=s1.toks) fun b o e=>Heap.get?_push_of_some _ e,Cq a _,⟨_,Heap.get?_push_size _ rfl,rfl,rfl⟩,fun b hb=>?_,q⟩
 have e:b=s1.heap.objs.size:=by simpa using hb
 subst e
 exact I1.xO (Nat.le_refl _) (I1.hok.fresh (Nat.le_refl _))
theorem DE {l:Expr}{tl:TE}(hl:PE X l tl):PI X tg l (Rq X.K tl):=by
 intro pins s σ H R I h
 refine fK (hl pins s σ H _ I h) fun v s1 ⟨x,H1,I1,r1,q1⟩=>?_
 obtain⟨a,e,⟨xs,hq⟩,q⟩:=q1
 subst e
 cases r1
 obtain⟨its,rv,p,hz⟩:=I1.tuple hq
 refine wpAny_pyIter_tuple (show s1.heap.IsTuple a its.toArray from p) ?_
 refine⟨s1.heap.objs.size,[s1.heap.objs.size],_,_,H1,rfl,I1.kept (t':=s1.toks) fun b o e=>Heap.get?_push_of_some _ e,zQ a _,⟨_,Heap.get?_push_size _ rfl,rfl,rfl⟩,fun b hb=>?_,q⟩
 have e:b=s1.heap.objs.size:=by simpa using hb
 subst e
 exact I1.xO (Nat.le_refl _) (I1.hok.fresh (Nat.le_refl _))
theorem DF {pins:List (Addr×Obj)}{σ:St}{H:Hp}{s:Shared}{R:It->Hp->Prop}{E:Value->Shared->Prop}{lo hi:Int}{t u v:Tok}{tk:Nat}(I:Inv X pins σ H s) (h1:-(2 ^ 62)<=lo) (h2:lo < 2 ^ 62) (h3:-(2 ^ 62)<=hi) (h4:hi < 2 ^ 62)
  (q:R (PY lo (hi - lo).toNat) H):wpAny (model X.prog X.w) X.A (pyIter (.ref s.heap.objs.size)) (Rn X pins σ tg R) E {s with heap:=s.heap.push {cls:=.type "range",data:=.fields #[.int lo t,.int hi u,.int 1 v]},toks:=tk}:=by
 refine wpAny_pyIter_range (IsRange.new ..) (small_one h1 h2 h3 h4) ?_
 have I1:Inv X pins σ H {s with heap:=s.heap.push {cls:=.type "range",data:=.fields #[.int lo t,.int hi u,.int 1 v]},toks:=tk}:=I.kept fun b o e=>Heap.get?_push_of_some _ e
 refine⟨(s.heap.push {cls:=.type "range",data:=.fields #[.int lo t,.int hi u,.int 1 v]}).objs.size,[(s.heap.push {cls:=.type "range",data:=.fields #[.int lo t,.int hi u,.int 1 v]}).objs.size],_,_,H,rfl,
  I1.kept (t':=tk) fun b o e=>Heap.get?_push_of_some _ e,zR _ lo (hi - lo).toNat,?_,fun b hb=>?_,q⟩
 ·have e1:lo+((0:Nat):Int) * 1=lo:=by simp
  have e2:(((hi - lo).toNat:Nat):Int) - ((0:Nat):Int)=Builtin.Range.rangeSize lo hi 1:=by rw[rangeSize_one];split <;> omega
  show IsRangeIter _ _ (lo+((0:Nat):Int) * 1) ((((hi - lo).toNat:Nat):Int) - ((0:Nat):Int)) 1
  rw[e1,e2]
  exact Heap.get?_push_size _ rfl
 ·have e:b=(s.heap.push {cls:=.type "range",data:=.fields #[.int lo t,.int hi u,.int 1 v]}).objs.size:=by simpa using hb
  subst e
  exact I1.xO (Nat.le_refl _) (I1.hok.fresh (Nat.le_refl _))
noncomputable def Ni (ta:TA):TI:=fun σ H R=>ta σ H fun vs H1=>∃j:Int,vs=[.int j]/\-(2 ^ 62)<=j/\j < 2 ^ 62/\R (PY 0 j.toNat) H1
theorem Cr {a:Expr}{ta:TA}{p pos:Pos}(hg:Gl X "range") (hm:X.mg "range" =none) (ha:PA X [a] ta) (hs:starEach [a] X.env=[(false,eval a X.env)]:=by rfl):PI X tg (.Call (.Name "range" p) [a] [] pos) (Ni ta):=by
 intro pins s σ H R I h
 refine Call_ (mK I hg hm boot_range (PyProof.Rows.callWith_type1 (fK (ha pos pins s σ H _ I h) fun us s1 ⟨vs,H1,I1,r1,q1⟩=>?_) hs rfl))
 obtain⟨j,e,q1,q2,q⟩:=q1
 subst e
 cases r1 with
 | cons r rr=>
  cases rr
  obtain⟨t,rfl⟩:=r
  exact call_range_1 (DF I1 (by omega) (by omega) q1 q2 (by simpa using q))
noncomputable def Rr (wi:TI) (g:TG) (tb:TS):TS:=fun D σ H=>wi σ H fun J H1=>∃W:Nat->Nat->St->Hp->Prop,(∃m,W 0 m σ H1)/\∀i m σ H,W i m σ H->
 (J.stop i H/\D.nx σ H)\/(J.go i H/\∃N:St->Hp->Prop,(∀σ' H',N σ' H'->∃m',m' < m/\W (i+1) m' σ' H')/\∀x H',J.MC i H x H'->g x σ H' fun σ2 H2=>tb {D with nx:=N,ct:=N,bk:=D.nx} σ2 H2)
noncomputable def kH (fp:List Addr) (h:Heap):List (Addr×Obj):=fp.filterMap fun b=>(h.get? b).map fun o=>(b,o)
theorem cP {fp:List Addr}{h:Heap}{b:Addr}{o:Obj}(hb:b∈fp) (e:h.get? b=some o):(b,o)∈kH fp h:=List.mem_filterMap.mpr ⟨b,hb,by rw[e];rfl⟩
theorem kP {fp:List Addr}{h:Heap}{p:Addr×Obj}(hp:p∈kH fp h):p.1∈fp/\h.get? p.1=some p.2:=by
 obtain⟨b,hb,e⟩:=List.mem_filterMap.mp hp
 cases q:h.get? b with
 | none=>rw[q] at e;cases e
 | some o=>
  rw[q] at e
  have e':(b,o)=p:=Option.some.inj e
  subst e'
  exact⟨hb,q⟩
theorem Inv.pinned {pins:List (Addr×Obj)}{σ:St}{H:Hp}{s:Shared}{fp:List Addr}(I:Inv X pins σ H s) (hf:∀b∈fp,mz X pins H b) (ho:∀b∈fp,∃o,s.heap.get? b=some o/\∀v,o.data≠.cell v):Inv X (pins++kH fp s.heap) σ H s:=
 I.A4 fun p hp=>(List.mem_append.mp hp).elim (fun z=>I.pin p (List.mem_append_right _ z)) fun z=>by
  obtain⟨hb,e⟩:=kP z
  obtain⟨f0,f1,f2,_⟩:=hf p.1 hb
  obtain⟨o,e',d⟩:=ho p.1 hb
  rw[e] at e';cases e'
  exact⟨e,f0,f1,f2,d⟩
theorem Inv.jT {pins pl:List (Addr×Obj)}{σ:St}{H:Hp}{s:Shared}(I:Inv X (pins++pl) σ H s):Inv X pins σ H s:=I.A4 fun p hp=>I.pin p (List.mem_append_right _ (List.mem_append_left _ hp))
theorem zS {iter:Expr}{body:List Stmt}{wi:TI}{g:TG}{tb:TS}{pos:Pos}(hp:PassesOwn (model X.prog X.w) X.A X.env X.xe) (hc:X.calm=true) (hi:PI X tg iter wi) (hg:PG X tg g) (hb:xM X body tb)
  (hs:∀x,foldedSetIterable iter X.env x=pure x:=by intro _;rfl):PS X (.For tg iter body [] pos) (Rr wi g tb):=by
 intro pins s σ H D I h
 refine wpAny_For (fK (hi pins s σ H _ I h) fun v s1 h1=>fK h1 fun itv s2 h2=>?_) hs
 obtain⟨it,fp,tn,J,H2,e,I2,T,st2,f2,W,⟨m0,w0⟩,turn⟩:=h2
 subst e
 have Kz:∀{H':Hp},(∀b∈fp,H' b=none)->∀b∈fp,mz X pins H' b:=fun hn b hb=>⟨hn b hb,(f2 b hb).2⟩
 refine codeAny_forLoop_any (fun n s'=>∃i σ' H',Inv X pins σ' H' s'/\tn i s'.heap/\(∀b∈fp,H' b=none)/\W i n σ' H') ?_ m0 ⟨0,σ,H2,I2,st2,fun b hb=>(f2 b hb).1,w0⟩
 rintro n s3 ⟨i,σ3,H3,I3,st3,WX,w3⟩
 rcases turn i n σ3 H3 w3 with⟨stop,qn⟩ | ⟨go,N,hN,step⟩
 ·refine wpAny_passesOwn hp (fK (T.done X rfl rfl rfl hc i pins s3 σ3 H3 X.xe I3 (Kz WX) st3 stop) fun r s4 ⟨hr,I4⟩=>?_)
  subst hr
  exact wpAny_execs_nil ⟨σ3,H3,I4,qn⟩
 ·refine wpAny_passesOwn hp (fK (T.item X rfl rfl rfl hc i pins s3 σ3 H3 X.xe I3 (Kz WX) st3 go) fun r s4 ⟨u,hr,h4⟩=>?_)
  subst hr
  refine wpAny_passesOwn hp (fK h4 fun _ s5 ⟨x,H5,I5,r5,y5,PZ,Yl⟩=>?_)
  have Ym:=I5.pinned (Kz Yl) (T.obj _ _ PZ)
  refine wpAny_passesOwn hp (fK (hg _ s5 σ3 H5 x u _ Ym r5 (step x H5 y5)) fun _ s6 ⟨Yn,H6,I6,q6⟩=>?_)
  refine wpAny_passesOwn hp (fK (hb _ s6 Yn H6 _ I6 q6) fun f s7 q7=>?_)
  have again:∀{DG:St}{H7:Hp},Inv X (pins++kH fp s5.heap) DG H7 s7->N DG H7->∃m,m < n/\∃i σ' H',Inv X pins σ' H' s7/\tn i s7.heap/\(∀b∈fp,H' b=none)/\W i m σ' H':=fun {DG H7} I7 n7=>by
   obtain⟨m',hm,w7⟩:=hN DG H7 n7
   refine⟨m',hm,i+1,DG,H7,I7.jT,T.keep _ _ _ PZ fun b hb o e=>(I7.pin (b,o) (List.mem_append_right _ (List.mem_append_right _ (cP hb e)))).1,fun b hb=>?_,w7⟩
   obtain⟨o,e,d⟩:=T.obj _ _ PZ b hb
   exact(I7.pin (b,o) (List.mem_append_right _ (List.mem_append_right _ (cP hb e)))).2.1
  cases f with
  | next=>obtain⟨DG,H7,I7,n7⟩:=q7;exact again I7 n7
  | cont=>obtain⟨DG,H7,I7,n7⟩:=q7;exact again I7 n7
  | brk=>obtain⟨DG,H7,I7,q7⟩:=q7;exact⟨DG,H7,I7.jT,q7⟩
  | ret v=>obtain⟨x7,DG,H7,I7,r7,q7⟩:=q7;exact⟨x7,DG,H7,I7.jT,r7,q7⟩
end
noncomputable abbrev R2:=V->V->Hp->VK->Prop
noncomputable def vV (X:Cx) (f:Value->Value->Sem Value) (r:R2):Prop:=
 ∀(pins:List (Addr×Obj)) (s:Shared) (σ:St) (H:Hp) (x y:V) (v u:Value) (Q:VK),Inv X pins σ H s->RelV x v->RelV y u->r x y H Q->
  wpAny (model X.prog X.w) X.A (f v u) (EP X pins σ Q) X.xe s
noncomputable def jk (X:Cx) (f:Value) (r:List V->Hp->VK->Prop):Prop:=
 ∀(pins:List (Addr×Obj)) (s:Shared) (σ:St) (H:Hp) (xs:List V) (us:List Value) (Q:VK),Inv X pins σ H s->Vals xs us->r xs H Q->
  wpAny (model X.prog X.w) X.A (call f us) (EP X pins σ Q) X.xe s
noncomputable def MD (r:R2) (ta tb:TE):TE:=fun σ H Q=>ta σ H fun x H1=>tb σ H1 fun y H2=>r x y H2 Q
noncomputable def rI (C:Int->Int->Prop) (g:Int->Int->V):R2:=fun x y H Q=>∃i j,x= .int i/\y= .int j/\C i j/\Q (g i j) H
noncomputable def ME (g:Int->Int->V):R2:=fun x y H Q=>∃i j,x= .int i/\y= .int j/\Q (g i j) H
section
variable {X:Cx}{a b c:Expr}{ta tb tc:TE}{pos:Pos}
theorem KA (ha:PE X a ta) (hb:PE X b tb){pins:List (Addr×Obj)}{s:Shared}{σ:St}{H:Hp}{R:V->V->Hp->Prop}(I:Inv X pins σ H s)
  (h:ta σ H fun x H1=>tb σ H1 fun y H2=>R x y H2){Q:Value->Shared->Prop}{f:Value->Value->Sem Value}
  (hf:∀v u s2 x y H2,Inv X pins σ H2 s2->RelV x v->RelV y u->R x y H2->wpAny (model X.prog X.w) X.A (f v u) Q X.xe s2):
  wpAny (model X.prog X.w) X.A (eval a X.env) (fun v s₁=>wpAny (model X.prog X.w) X.A (eval b X.env) (fun u s₂=>wpAny (model X.prog X.w) X.A (f v u) Q X.xe s₂) X.xe s₁) X.xe s:=by
 refine fK (ha pins s σ H _ I h) fun v s1 ⟨x,H1,I1,r1,q1⟩=>?_
 refine fK (hb pins s1 σ H1 _ I1 q1) fun u s2 ⟨y,H2,I2,r2,q2⟩=>?_
 exact hf v u s2 x y H2 I2 r1 r2 q2
theorem Nj {op:Operator}{r:R2}(ho:vV X (binaryOp op) r) (ha:PE X a ta) (hb:PE X b tb):PE X (.BinOp a op b pos) (MD r ta tb):=by
 intro pins s σ H Q I h
 exact wpAny_BinOp (KA ha hb I h fun v u s2 x y H2 I2 rx ry q=>ho pins s2 σ H2 x y v u Q I2 rx ry q)
theorem P1 {f:Value->Value->Sem Value}{C:Int->Int->Prop}{g:Int->Int->Int}
  (rule:∀(i j:Int) (t u:Tok) (s:Shared) (Q:Value->Shared->Prop) (E:Value->Shared->Prop),C i j->Q (.int (g i j) s.toks) {s with toks:=s.toks+1}->wpAny (model X.prog X.w) X.A (f (.int i t) (.int j u)) Q E s):
  vV X f (rI C fun i j=>.int (g i j)):=by
 intro pins s σ H x y v u Q I rx ry h
 obtain⟨i,j,rfl,rfl,hc,q⟩:=h
 obtain⟨t,rfl⟩:=rx
 obtain⟨t',rfl⟩:=ry
 exact rule i j t t' s _ _ hc ⟨.int (g i j),H,I.tok _,⟨_,rfl⟩,q⟩
theorem Rt {f:Value->Value->Sem Value}{g:Int->Int->Int}
  (rule:∀(i j:Int) (t u:Tok) (s:Shared) (Q:Value->Shared->Prop) (E:Value->Shared->Prop),Q (.int (g i j) s.toks) {s with toks:=s.toks+1}->wpAny (model X.prog X.w) X.A (f (.int i t) (.int j u)) Q E s):
  vV X f (ME fun i j=>.int (g i j)):=by
 intro pins s σ H x y v u Q I rx ry h
 obtain⟨i,j,rfl,rfl,q⟩:=h
 obtain⟨t,rfl⟩:=rx
 obtain⟨t',rfl⟩:=ry
 exact rule i j t t' s _ _ ⟨.int (g i j),H,I.tok _,⟨_,rfl⟩,q⟩
theorem KC {f:Value->Value->Sem Value}{g:Int->Int->Bool}
  (rule:∀(i j:Int) (t u:Tok) (s:Shared) (Q:Value->Shared->Prop) (E:Value->Shared->Prop),Q (.bool (g i j)) s->wpAny (model X.prog X.w) X.A (f (.int i t) (.int j u)) Q E s):
  vV X f (ME fun i j=>.bl (g i j)):=by
 intro pins s σ H x y v u Q I rx ry h
 obtain⟨i,j,rfl,rfl,q⟩:=h
 obtain⟨t,rfl⟩:=rx
 obtain⟨t',rfl⟩:=ry
 exact rule i j t t' s _ _ ⟨.bl (g i j),H,I,rfl,q⟩
noncomputable def Nk (i j:Int):Prop:=0 < j/\j < 1073741824
noncomputable def Ru (i j:Int):Prop:=0<=j/\j<=1000000/\i.natAbs < 2 ^ 64
noncomputable def KD (i j:Int):Prop:=(-(2 ^ 64) < i/\i < 2 ^ 64)\/(-(2 ^ 64) < j/\j < 2 ^ 64)
theorem KD.ok {i j:Int}(h:KD i j):IntMulOk i j:=by
 rcases h with⟨h1,h2⟩ | ⟨h1,h2⟩
 ·exact .of_left (intBits_le_64 h1 h2)
 ·exact .of_right (intBits_le_64 h1 h2)
theorem KG:vV X (binaryOp .Add) (ME fun i j=>.int (i+j)):=Rt fun _ _ _ _ _ _ _ q=>add_int q
theorem KH:vV X (binaryOp .Mult) (rI KD fun i j=>.int (i * j)):=P1 fun _ _ _ _ _ _ _ hc q=>mul_int q hc.ok
theorem GL:vV X (binaryOp .FloorDiv) (rI Nk fun i j=>.int (i / j)):=P1 fun i j _ _ _ _ _ hc q=>by
 have h1:(0:Int) < j:=hc.1
 have h2:j < 1073741824:=hc.2
 exact floordiv_int (by omega) (by rw[Int.fdiv_eq_ediv_of_nonneg i (by omega)];exact q) (.inl (PyProof.noPylong_small (by omega)))
theorem KI:vV X (binaryOp .Mod) (rI (fun _ j=>0 < j) fun i j=>.int (i % j)):=P1 fun i j _ _ _ _ _ hc q=>by
 have h1:(0:Int) < j:=hc
 exact mod_int' (by omega) (by rw[Int.fmod_eq_emod_of_nonneg i (by omega)];exact q)
theorem KJ:vV X (binaryOp .Pow) (rI Ru fun i j=>.int (i ^ j.toNat)):=P1 fun _ _ _ _ _ _ _ hc q=>pow_int_small hc.1 hc.2.1 hc.2.2 q
end
section
variable {X:Cx}{a b c:Expr}{ta tb tc:TE}{pos:Pos}
theorem KL {pins:List (Addr×Obj)}{σ:St}{H:Hp}{s:Shared}{Q:VK}{k k':Bool}(I:Inv X pins σ H s) (q:Q (.bl k) H) (e:k=k'):EP X pins σ Q (.bool k') s:=by
 subst e
 exact⟨.bl k,H,I,rfl,q⟩
theorem Nl:vV X (compareOp .Lt) (ME fun i j=>.bl (decide (i < j))):=KC fun _ _ _ _ _ _ _ q=>lt_int q
theorem Nm:vV X (compareOp .Gt) (ME fun i j=>.bl (decide (j < i))):=KC fun _ _ _ _ _ _ _ q=>gt_int q
theorem Nn:vV X (compareOp .GtE) (ME fun i j=>.bl (decide (j<=i))):=KC fun _ _ _ _ _ _ _ q=>ge_int q
theorem GO:vV X (compareOp .IsNot) (fun x y H Q=>y= .dh/\Q (.bl (!decide (x= .dh))) H):=by
 intro pins s σ H x y v u Q I rx ry h
 obtain⟨rfl,q⟩:=h
 cases ry
 refine isnot_none_gen (KL I q ?_)
 cases x <;> first
  | (cases rx;rfl)
  | (obtain⟨t,rfl⟩:=rx;rfl)
theorem DH (b:Expr){op:CmpOp}(h:op≠.In:=by decide) (h2:op≠.NotIn:=by decide):behindInMarks op b=false:=by
 have e1:(op == CmpOp.In)=false:=by cases op <;> first | rfl | exact absurd rfl h
 have e2:(op == CmpOp.NotIn)=false:=by cases op <;> first | rfl | exact absurd rfl h2
 cases b <;> simp[behindInMarks,e1,e2]
theorem GP {op:CmpOp}{r:R2}(ho:vV X (compareOp op) r) (ha:PE X a ta) (hb:PE X b tb) (hm:behindInMarks op b=false):PE X (.Compare a [op] [b] pos) (MD r ta tb):=by
 intro pins s σ H Q I h
 exact wpAny_Compare1 (KA ha hb I h fun v u s2 x y H2 I2 rx ry q=>ho pins s2 σ H2 x y v u Q I2 rx ry q) hm
noncomputable def Np (t:TE):TT:=fun σ H Q=>t σ H fun x H'=>∃k,x= .bl k/\Q k H'
theorem GQ {op:CmpOp}{r:R2}(ho:vV X (compareOp op) r) (ha:PE X a ta) (hb:PE X b tb) (hm:behindInMarks op b=false):PT X (.Compare a [op] [b] pos) (Np (MD r ta tb)):=by
 intro pins s σ H Q I h
 refine wpAny_isTrue_Compare1 (fK (ha pins s σ H _ I h) fun v s1 ⟨x,H1,I1,r1,q1⟩=>fK (hb pins s1 σ H1 _ I1 q1) fun u s2 ⟨y,H2,I2,r2,q2⟩=>
  fK (ho pins s2 σ H2 x y v u _ I2 r1 r2 q2) fun c s3 ⟨z,H3,I3,r3,k,e,q3⟩=>?_) hm
 subst e
 cases r3
 exact wpAny_truthy_bool ⟨H3,I3,q3⟩
theorem qm:(sizeLine:Nat) < 2 ^ 63:=by rw[sizeLine_eq];decide
theorem zT:vV X (binaryOp .Add) (fun x y H Q=>∃i j,x= .str i/\y= .str j/\i.length+j.length<=sizeLine/\Q (.str (i++j)) H):=by
 intro pins s σ H x y v u Q I rx ry h
 obtain⟨i,j,rfl,rfl,hz,q⟩:=h
 obtain⟨t,rfl⟩:=rx
 obtain⟨t',rfl⟩:=ry
 exact add_str (fun t' tk=>⟨.str (i++j),H,I.tok _,⟨_,rfl⟩,q⟩) hz
theorem vals1 {x:V}{us:List Value}(r:Vals [x] us):∃u,us=[u]/\RelV x u:=by
 cases r with
 | cons r1 r2=>cases r2;exact⟨_,rfl,r1⟩
theorem uS:jk X (.type "int") (fun xs H Q=>(∃i,xs=[.int i]/\Q (.int i) H)\/∃k,xs=[.bl k]/\Q (.int (if k then 1 else 0)) H):=by
 intro pins s σ H xs us Q I r h
 rcases h with⟨i,rfl,q⟩ | ⟨k,rfl,q⟩
 ·obtain⟨u,rfl,t,rfl⟩:=vals1 r
  exact call_int_int ⟨.int i,H,I,⟨_,rfl⟩,q⟩
 ·obtain⟨u,rfl,r1⟩:=vals1 r
  cases r1
  exact call_int_bool ⟨.int (if k then 1 else 0),H,I.tok _,⟨_,rfl⟩,q⟩
end
section
variable {prog:Program}{w:World}{A:Around}{E:Value->Shared->Prop}{s:Shared}{K:PySem.W.Frag}{x dx C f:Addr}{mA:Str->Option Value}{name:Str}{v:Value}
end
theorem rQ.some_of {v:V}{o:Option Value}(r:rQ (some v) o):∃u,o=some u/\RelV v u:=by
 cases o with
 | none=>exact(show False from r).elim
 | some u=>exact⟨u,rfl,r⟩
section
variable {P:Program}{w:World}{H H':Hp}{h h':Heap}{a C dx:Addr}{fs fs':List (Str×V)}
end
section
variable {X:Cx}{pins:List (Addr×Obj)}{σ:St}{H:Hp}{s:Shared}{a C dx:Addr}{fs:List (Str×V)}{f:Str}{v:V}{A:Around}{E:Value->Shared->Prop}
end
section
variable {X:Cx}{o e value:Expr}{f:Str}{pos pos' tpos:Pos}{ta tv:TE}
end
section
variable {X:Cx}{pins:List (Addr×Obj)}{σ:St}{H:Hp}{s:Shared}{A:Around}{E:Value->Shared->Prop}{Q:Value->Shared->Prop}{c:Value}{b:Bool}
end
structure kQ (k:Nat) (A:Around):Prop where
 hd:A.handled=none
 dp:A.depth+3 * k+5 < recursionLimit
 un:A.units+16 * k+200 < cLine
 gd:A.guards=some []
theorem kQ.mono {j k:Nat}{A:Around}(r:kQ k A) (h:j<=k):kQ j A:=⟨r.hd,by have:=r.dp;omega,by have:=r.un;omega,r.gd⟩
theorem kQ.deeper {k:Nat}{A:Around}(r:kQ (k+1) A) (env:Env):kQ k (A.deeper env):=
 ⟨r.hd,by have:=r.dp;show A.depth+1+3 * k+5 < _;omega,by have:=r.un;show A.units+3+16 * k+200 < _;omega,r.gd⟩
theorem kQ.depth {k:Nat}{A:Around}(r:kQ k A):A.depth < recursionLimit:=by have:=r.dp;omega
theorem kQ.units {k:Nat}{A:Around}(r:kQ k A):A.units+64 < cLine:=by have:=r.un;omega
noncomputable def Nq:TA:=fun _ H Q=>Q [] H
noncomputable def Jk (ta:TE) (tr:TA):TA:=fun σ H Q=>ta σ H fun x H1=>tr σ H1 fun xs H2=>Q (x :: xs) H2
section
variable {X:Cx}{e:Expr}{es:List Expr}{te:TE}{t:TA}{pos:Pos}
theorem oX:PA X [] Nq:=fun _ _ _ _ H Q I h=>Calls.spliced_nil ⟨[],H,I,.nil,h⟩
theorem lI (ha:PE X e te) (hr:PA X es t) (hs:starEach (e :: es) X.env=(false,eval e X.env) :: starEach es X.env:=by rfl):PA X (e :: es) (Jk te t):=by
 intro pos pins s σ H Q I h
 rw[hs]
 show wpAny _ _ (spliced ((false,eval e X.env) :: backTo pos (starEach es X.env))) _ _ s
 refine Calls.spliced_cons (fK (ha pins s σ H _ I h) fun u s1 ⟨x,H1,I1,r1,q1⟩=>?_)
 exact fK (hr pos pins s1 σ H1 _ I1 q1) fun us s2 ⟨xs,H2,I2,r2,q2⟩=>⟨x :: xs,H2,I2,.cons r1 r2,q2⟩
noncomputable def Rv (t:TA):TE:=fun σ H Q=>t σ H fun xs H1=>xs.length<=sizeLine/\∀p,H1 p=none->Q (.ref p) (upd H1 p (.tup xs))
noncomputable def Rw (t:TA):TE:=fun σ H Q=>t σ H fun xs H1=>xs.length<=sizeLine/\∀p,H1 p=none->Q (.ref p) (upd H1 p (.lst xs))
theorem KN {x1}(h:PA X es t):PE X (.Tuple es x1 pos) (Rv t):=by
 intro pins s σ H Q I hq
 refine wpAny_Tuple_spliced (fK (h pos pins s σ H _ I hq) fun us s1 ⟨xs,H1,I1,r,z,q⟩=>⟨by rw[<-r.length];exact z,?_⟩)
 have hf:H1 s1.heap.objs.size=none:=I1.hok.fresh (Nat.le_refl _)
 refine⟨.ref s1.heap.objs.size,upd H1 s1.heap.objs.size (.tup xs),I1.laid (t':=s1.toks) (fun b u e=>Heap.get?_push_of_some _ e) (Nat.le_refl _) ?_,rfl,q _ hf⟩
 exact⟨z,us,r,⟨_,Heap.get?_push_size _ rfl,rfl,_,rfl⟩⟩
theorem DI (h:PA X es t):PE X (.List es pos) (Rw t):=by
 intro pins s σ H Q I hq
 refine wpAny_List_spliced (fK (h pos pins s σ H _ I hq) fun us s1 ⟨xs,H1,I1,r,z,q⟩=>⟨by rw[<-r.length];exact z,?_⟩)
 have hf:H1 s1.heap.objs.size=none:=I1.hok.fresh (Nat.le_refl _)
 refine⟨.ref s1.heap.objs.size,upd H1 s1.heap.objs.size (.lst xs),I1.laid (t':=s1.toks) (fun b u e=>Heap.get?_push_of_some _ e) (Nat.le_refl _) ?_,rfl,q _ hf⟩
 exact⟨z,us,0,r,Heap.get?_push_size _ rfl⟩
end
noncomputable abbrev Sp:=List V->Hp->VK->XK->Prop
noncomputable abbrev Dm:=List Env->Hp->Shared->XK->Value->Shared->Prop
structure GR (P:Program) (w:World) (K:PySem.W.Frag) (mg:Str->Option Value) (base:Heap) (A:Around) (outer:List Env) (s:Shared) (H:Hp):Prop where
 frames:A.frames=some outer
 mod:Mod K mg base
 bs:∀b o,base.get? b=some o->s.heap.get? b=some o/\H b=none
 Gp:base.objs.size<=s.heap.objs.size
 sJ:s.heap.FunFrames base outer
 MB:∀b∈frs outer,H b=none
 hok:mF P w H s.heap
 bare:AllBare s.gens
noncomputable def CE (outer:List Env) (P:Program) (w:World) (H:Hp) (s:Shared) (Q:VK) (u:Value) (s':Shared):Prop:=
 ∃v H',s'.os=s.os/\AllBare s'.gens/\Un (frs outer) [] H H' s.heap s'.heap/\mF P w H' s'.heap/\RelV v u/\Q v H'
noncomputable def CR (CX:Dm) (outer:List Env) (P:Program) (w:World) (H:Hp) (s:Shared) (Q:VK) (E:XK) (r:Result) (s':Shared):Prop:=
 match r with
 | .ok (.ret u)=>CE outer P w H s Q u s'
 | .ok _=>False
 | .error e=>CX outer H s E e s'
structure cF (P:Program) (w:World) (K:PySem.W.Frag) (mg:Str->Option Value) (base:Heap) (CX:Dm) (k:Nat) (f:Addr) (fd:FuncData) (ps:List Str) (sp:Sp):Prop where
 len:∀vs H Q E,sp vs H Q E->vs.length=ps.length
 run:∀(A:Around) (outer:List Env) (s:Shared) (H:Hp) (args:Args) (us:List Value) (vs:List V) (Q:VK) (E:XK),kQ k A->GR P w K mg base A outer s H->BindsTo s fd args (ps.zip us)->Vals vs us->sp vs H Q E->
  codeAny (model P w) A (.call (.ref f) args) (CR CX outer P w H s Q E) s
theorem cF.mono {P:Program}{w:World}{K:PySem.W.Frag}{mg:Str->Option Value}{base:Heap}{CX:Dm}{j k:Nat}{f:Addr}{fd:FuncData}{ps:List Str}{sp:Sp}(F:cF P w K mg base CX j f fd ps sp) (h:j<=k):
  cF P w K mg base CX k f fd ps sp:=⟨F.len,fun A outer s H args us vs Q E hr=>F.run A outer s H args us vs Q E (hr.mono h)⟩
section
variable {X:Cx}{pins:List (Addr×Obj)}{σ:St}{H:Hp}{s s':Shared}
theorem Inv.Rx (I:Inv X pins σ H s):GR X.prog X.w X.K X.mg X.base X.A X.stack s H:=
 ⟨I.ok.frames,I.ok.mod,I.bs,Nat.le_trans I.ok.Gp I.sz,I.stack,I.vR,I.hok,I.bare⟩
theorem Inv.after {Q:VK}{u:Value}(I:Inv X pins σ H s) (h:CE X.stack X.prog X.w H s Q u s'):EP X pins σ Q u s':=by
 obtain⟨v,H',os,bare,un,hok,r,q⟩:=h
 obtain⟨hh,g,d,t,os'⟩:=s'
 obtain rfl:os'=s.os:=os
 exact⟨v,H',I.call (h':=hh) (g':=g) (d':=d) (t':=t) (ch:=[]) un hok bare (fun b z=>absurd z (by simp)),r,q⟩
end
noncomputable def Nr (sp:Sp) (Jl:List V) (E:XK) (t:TA):TE:=fun σ H Q=>t σ H fun vs H1=>sp (vs++Jl) H1 Q E
noncomputable def Binds (K:PySem.W.Frag) (fd:FuncData) (ps:List Str) (ds:List Value):Prop:=
 ∀(s:Shared) (us:List Value),K.In s.heap->(us++ds).length=ps.length->BindsTo s fd ⟨us,[]⟩ (ps.zip (us++ds))
theorem Binds.all {K:PySem.W.Frag}{fd:FuncData}{ps:List Str}(h:∀us:List Value,us.length=ps.length->bindArgs fd ⟨us,[]⟩=pure (ps.zip us)):Binds K fd ps []:=fun s us _ hl=>by
 rw[List.append_nil] at hl ⊢
 exact .of_eq (h us hl)
noncomputable def Passes (CX:Dm) (X:Cx) (E:XK):Prop:=∀(pins:List (Addr×Obj)) (σ:St) (H:Hp) (s:Shared) (e:Value) (s':Shared),Inv X pins σ H s->CX X.stack H s E e s'->X.xe e s'
section
variable {X:Cx}{CX:Dm}{k:Nat}{f C:Addr}{fd:FuncData}{ps:List Str}{sp:Sp}{Jl:List V}{ds:List Value}{E:XK}{x m:Str}{p pos apos:Pos}{e o:Expr}{es:List Expr}{ta:TE}{t:TA}
theorem KO {pins:List (Addr×Obj)}{σ:St}{H:Hp}{s:Shared}{Q:VK}{us:List Value}{vs:List V}(F:cF X.prog X.w X.K X.mg X.base CX k f fd ps sp) (hr:kQ k X.A) (hb:Binds X.K fd ps ds) (hd:Vals Jl ds) (hx:Passes CX X E)
  (I:Inv X pins σ H s) (r:Vals vs us) (h:sp (vs++Jl) H Q E):wpAny (model X.prog X.w) X.A (call (.ref f) us) (EP X pins σ Q) X.xe s:=by
 have r2:Vals (vs++Jl) (us++ds):=r.append hd
 have hl:(us++ds).length=ps.length:=by rw[<-r2.length];exact F.len _ _ _ _ h
 refine wpAny_call (codeAny_mono (F.run X.A X.stack s H ⟨us,[]⟩ (us++ds) (vs++Jl) Q E hr I.Rx (hb s us I.Dv hl) r2 h) fun r s' hq=>?_)
 cases r with
 | error e=>exact hx pins σ H s e s' I hq
 | ok fl=>
  cases fl with
  | ret u=>exact I.after hq
  | next=>exact False.elim hq
  | brk=>exact False.elim hq
  | cont=>exact False.elim hq
theorem GV (F:cF X.prog X.w X.K X.mg X.base CX k f fd ps sp) (hr:kQ k X.A) (hg:Gl X x) (hm:X.mg x=some (.ref f)) (hk:PySem.W.keepIn X.K (.ref f)=true) (hb:Binds X.K fd ps ds) (hd:Vals Jl ds) (hx:Passes CX X E)
  (ha:PA X (e :: es) t) (hdb:(x == ("__debug__":Str))=false:=by decide) (he:starEach (e :: es) X.env=(false,eval e X.env) :: starEach es X.env:=by rfl) (hpl:(backTo pos (starEach es X.env)).any (·.1)=false:=by rfl):
  PE X (.Call (.Name x p) (e :: es) [] pos) (Nr sp Jl E t):=by
 intro pins s σ H Q I h
 refine wpAny_Call_Name_kw (A5 I hg hm ?_ hdb)
 refine PySem.W.callWith_K (h₀:=X.base) I.ok.mod.Q7 hk (fK (ha pos pins s σ H _ I h) fun us s1 ⟨vs,H1,I1,r,q⟩=>⟨I1.Dv,?_⟩) he hpl
 exact KO F hr hb hd hx I1 r q
end
section
variable {X:Cx}{CX:Dm}{k:Nat}{f C:Addr}{fd:FuncData}{ps ks:List Str}{sp:Sp}{E:XK}{x m:Str}{p pos apos kpos:Pos}{e o:Expr}{es:List Expr}{kws:List Keyword}{te ta:TE}{t tk:TA}{nm:Option Str}
variable {g:List Value->List Value->List Value}{gV:List V->List V->List V}
end
structure cj (N P:List Str) (sc:Scope):Prop where
 kind:sc.kind= .function
 co:sc.isCoroutine=false
 gen:sc.isGenerator=false
 nd:N.Nodup
 pre:N.take P.length=P
 par:∀x∈P,sc.names.lookup x=some .local\/sc.names.lookup x=some .cell
 KP:∀y∈sc.names,y.2≠.free
theorem uT {kindOf:Str->Option NameKind}{x:Str}:∀{binds:List (Str×Value)}{m:Str->Option Value},(∀v,(x,v)∉binds)->bindL kindOf binds m x=m x
 | [],_,_=>rfl
 | (n,v) :: r,m,h=>by
  unfold bindL
  rw[uT fun w hw=>h w (List.mem_cons_of_mem _ hw)]
  split
  ·have:x≠n:=by rintro rfl;exact h v List.mem_cons_self
   simp[this]
  ·rfl
theorem uU {kindOf:Str->Option NameKind}{x:Str}:∀{binds:List (Str×Value)}{m:Str->Option Value},(∀v,(x,v)∉binds)->bindC kindOf binds m x=m x
 | [],_,_=>rfl
 | (n,v) :: r,m,h=>by
  unfold bindC
  rw[uU fun w hw=>h w (List.mem_cons_of_mem _ hw)]
  split
  ·rfl
  ·have:x≠n:=by rintro rfl;exact h v List.mem_cons_self
   simp[this]
theorem uV {kindOf:Str->Option NameKind}{x:Str}{v:Value}:∀{P:List Str}{vs:List Value}{i:Nat}{m:Str->Option Value},P.Nodup->P[i]? =some x->vs[i]? =some v->kindOf x=some .local->
  bindL kindOf (P.zip vs) m x=some v
 | [],_,_,_,_,h,_,_=>by simp at h
 | _ :: _,[],_,_,_,_,h,_=>by simp at h
 | p :: P,w :: vs,0,m,nd,h1,h2,hk=>by
  simp at h1 h2;subst h1;subst h2
  show bindL kindOf ((p,w) :: P.zip vs) m p=_
  unfold bindL
  rw[uT fun v hv=>(List.nodup_cons.mp nd).1 (List.of_mem_zip hv).1,if_pos hk]
  simp
 | p :: P,w :: vs,i+1,m,nd,h1,h2,hk=>by
  show bindL kindOf ((p,w) :: P.zip vs) m x=_
  unfold bindL
  exact uV (i:=i) (List.nodup_cons.mp nd).2 (by simpa using h1) (by simpa using h2) hk
theorem uW {kindOf:Str->Option NameKind}{x:Str}{v:Value}:∀{P:List Str}{vs:List Value}{i:Nat}{m:Str->Option Value},P.Nodup->P[i]? =some x->vs[i]? =some v->kindOf x≠some .local->
  bindC kindOf (P.zip vs) m x=some v
 | [],_,_,_,_,h,_,_=>by simp at h
 | _ :: _,[],_,_,_,_,h,_=>by simp at h
 | p :: P,w :: vs,0,m,nd,h1,h2,hk=>by
  simp at h1 h2;subst h1;subst h2
  show bindC kindOf ((p,w) :: P.zip vs) m p=_
  unfold bindC
  rw[uU fun v hv=>(List.nodup_cons.mp nd).1 (List.of_mem_zip hv).1,if_neg hk]
  simp
 | p :: P,w :: vs,i+1,m,nd,h1,h2,hk=>by
  show bindC kindOf ((p,w) :: P.zip vs) m x=_
  unfold bindC
  exact uW (i:=i) (List.nodup_cons.mp nd).2 (by simpa using h1) (by simpa using h2) hk
noncomputable def start (N:List Str) (vs:List V):St:=vs.map some++List.replicate (N.length - vs.length) none
noncomputable def zU (CX:Dm) (P:Program) (w:World) (K:PySem.W.Frag) (mg:Str->Option Value) (base:Heap) (N:List Str) (qual:Str) (scope:Scope) (f:Addr) (cd:Value) (A:Around) (outer:List Env) (s:Shared) (H:Hp) (E:XK):Cx where
 prog:=P
 w:=w
 K:=K
 mg:=mg
 base:=base
 A:=A.deeper (envOfC qual scope s.heap.objs.size f cd)
 N:=N
 s₀:=s
 H₀:=H
 env:=envOfC qual scope s.heap.objs.size f cd
 outer:=outer
 stack:=envOfC qual scope s.heap.objs.size f cd :: outer
 ex:=[]
 calm:=true
 fn:=fun _=>true
 pn:=[]
 xe:=fun e s'=>wpAny (model P w) (A.deeper (envOfC qual scope s.heap.objs.size f cd)) (leaving (envOfC qual scope s.heap.objs.size f cd) e) (fun _ s''=>CX outer H s E e s'') (fun e' s''=>CX outer H s E e' s'') s'
theorem xP {sc:Scope}{n:Nat}{x:Str}(h:sc.names.lookup x=some .cell):∃c,(cellsFrom n sc.names []).lookup x=some c:=by
 have q:=PySem.W.cellsFrom_some sc.names n [] (.inl h)
 exact Option.isSome_iff_exists.mp q
theorem Cs {CX : Dm} {P : Program} {w : World} {K : PySem.W.Frag} {mg : Str -> Option Value} {base : Heap} {N ps : List Str} {qual : Str} {scope : Scope} {f : Addr} {cd : Value} {A : Around} {outer : List Env} {s s1 : Shared} {H : Hp} {E : XK} {us : List Value} {vs : List V}
    (S:cj N ps scope) (hd:A.handled=none) (e0:GR P w K mg base A outer s H) (hl:vs.length=ps.length) (r:Vals vs us)
    (x:InCallC s s.heap.objs.size (bindL (envOfC qual scope s.heap.objs.size f cd).kindOf (ps.zip us) fun _=>none) (cellsFrom (s.heap.objs.size+1) scope.names []) (bindC (envOfC qual scope s.heap.objs.size f cd).kindOf (ps.zip us) fun _=>none) s1):
    Inv (zU CX P w K mg base N qual scope f cd A outer s H E) [] (start N vs) H s1:=by
  have hpl:ps.length<=N.length:=by have:=congrArg List.length S.pre;rw[List.length_take] at this;omega
  obtain⟨h1,tk,rfl,hk⟩:=x.done
  have Nt:∀b:Addr,b∉(zU CX P w K mg base N qual scope f cd A outer s H E).ex:=fun b z=>absurd (show b∈([]:List Addr) from z) (by simp)
  refine⟨⟨e0.mod,S.kind,rfl,rfl,Nat.le_refl _,fun y z c h1 h2=>?_,fun y hy=>?_,fun y c _ h=>?_,fun _=>hd,Around.frames_deeper e0.frames,.inr ⟨rfl,rfl⟩,fun b z=>absurd z (Nt b),e0.bs,e0.Gp,fun b _ _=>Nt b,fun b z=>absurd z (Nt b),e0.sJ,e0.MB⟩,
    rfl,e0.bare,Un.kept hk,⟨_,x.toInCall.ns,fun i y v h1 h2 h3=>?_⟩,fun y c h=>⟨_,x.cell y c h⟩,e0.hok.fresh (Nat.le_refl _),fun y c h=>?_,fun p hp=>absurd (show p∈([]:List (Addr×Obj)) from hp) (by simp),e0.hok.kept hk,?_⟩
  . exact name_of_addr x.apart (PySem.mem_of_lookup h1) (PySem.mem_of_lookup h2)
  . have hy:scope.names.lookup y=some .cell\/scope.names.lookup y=some .free:=hy
    rcases hy with hy | hy
    . exact xP hy
    . exact absurd rfl (S.KP _ (PySem.mem_of_lookup hy))
  . exact Nat.le_of_lt (x.above y c (PySem.mem_of_lookup h))
  . have hi:i < vs.length:=by
      unfold start at h2
      by_cases hi:i < vs.length
      . exact hi
      . rw[List.getElem?_append_right (by simpa using hi)] at h2
        rw[List.getElem?_replicate] at h2
        split at h2 <;> cases h2
    have ha:vs[i]? =some v:=by
      unfold start at h2
      rw[List.getElem?_append_left (by simpa using hi),List.getElem?_map] at h2
      cases e:vs[i]? with
      | none=>rw[e] at h2;cases h2
      | some a=>rw[e] at h2;cases h2;rfl
    obtain⟨u,hu,rv⟩:=r.get ha
    have hp:ps[i]? =some y:=by
      rw[<-S.pre,List.getElem?_take_of_lt (by omega)];exact h1
    have WY:ps.Nodup:=by rw[<-S.pre];exact S.nd.sublist (List.take_sublist _ _)
    refine⟨u,rv,?_⟩
    rcases S.par y (List.mem_of_getElem? hp) with k | k
    . exact .inl ⟨k,uV WY hp hu k⟩
    . obtain⟨c,e⟩:=xP (n:=s.heap.objs.size+1) k
      refine .inr ⟨.inl k,c,e,?_⟩
      have q:=x.cell y c e
      rw[uW WY hp hu (by show scope.names.lookup y≠_;rw[k];decide)] at q
      exact q
  . exact e0.hok.fresh (Nat.le_of_lt (x.above y c (PySem.mem_of_lookup h)))
  . unfold start
    show _=N.length
    rw[List.length_append,List.length_map,List.length_replicate]
    omega
theorem Nu {CX:Dm}{P:Program}{w:World}{K:PySem.W.Frag}{mg:Str->Option Value}{base:Heap}{k:Nat}{f:Addr}{name qual:Str}{params:Arguments}{body:List Stmt}{scope:Scope}{dV kV doc pm cdv ct oc:Value}{an od:Option Addr}
  {osl:Array (Option Value)}{N ps:List Str}{sp:Sp}(lk:K.lookup f=some ⟨oc,od,.func (PySem.W.fnOf name qual params body scope dV kV doc pm an cdv ct),osl⟩) (hcd:PySem.W.codeIn K cdv qual=true) (S:cj N ps scope)
  (len:∀vs H Q E,sp vs H Q E->vs.length=ps.length)
  (hbody:∀(A:Around) (outer:List Env) (s:Shared) (H:Hp) (vs:List V) (Q:VK) (E:XK),kQ k (A.deeper (envOfC qual scope s.heap.objs.size f cdv))->sp vs H Q E->
   ∃t,xM (zU CX P w K mg base N qual scope f cdv A outer s H E) body t/\t {nx:=fun _ H'=>Q .dh H',rt:=Q} (start N vs) H):
  cF P w K mg base CX (k+1) f (PySem.W.fnOf name qual params body scope dV kV doc pm an cdv ct) ps sp:=by
 refine⟨len,fun A outer s H args us vs Q E hr e0 hb r Jm=>?_⟩
 have hl:=len _ _ _ _ Jm
 have KX:K.In s.heap:=e0.mod.Q7.keeps fun b o e=>(e0.bs b o e).1
 have lim:s.heap.NoLimit:=e0.mod.nolimit.keeps fun b o e=>(e0.bs b o e).1
 have hkind:∀y∈ps.zip us,scope.names.lookup y.1=some .local\/(scope.names.lookup y.1=some .cell/\((cellsFrom (s.heap.objs.size+1) scope.names []).lookup y.1).isSome=true):=fun⟨n,v⟩ hy=>by
  rcases S.par n (List.of_mem_zip hy).1 with q | q
  ·exact .inl q
  ·exact .inr ⟨q,PySem.W.cellsFrom_some _ _ _ (.inl q)⟩
 refine codeAny_call_function hr.depth (KX _ _ lk) rfl S.co S.gen rfl (PySem.W.codeRec_of KX hcd) (hb _ _ _ _ ?_)
 refine wpAny_newFunctionEnv_cells S.kind hkind fun env he s1 x=>?_
 subst he
 refine⟨lim.keeps x.toInCall.keep,codeAny_func ?_⟩
 obtain⟨t,ht,hq⟩:=hbody A outer s H vs Q E (hr.deeper _) Jm
 have I:Inv (zU CX P w K mg base N qual scope f cdv A outer s H E) [] (start N vs) H s1:=Cs S hr.hd e0 hl r x
 refine wpAny_mono (ht [] s1 (start N vs) H _ I hq) (fun fl s' hs=>?_) fun e s' hs=>hs
 have fin:∀{σ':St}{H':Hp}{v:V}{u:Value},Inv (zU CX P w K mg base N qual scope f cdv A outer s H E) [] σ' H' s'->RelV v u->Q v H'->CE outer P w H s Q u s':=
  fun {σ' H' v u} J rv q=>⟨v,H',J.os,J.bare,J.base,J.hok,rv,q⟩
 cases fl with
 | ret u=>
  obtain⟨v,σ',H',J,rv,q⟩:=hs
  exact fin J rv q
 | next=>
  obtain⟨σ',H',J,q⟩:=hs
  exact fin (v:=V.dh) (u:=Value.none) J rfl q
 | brk=>
  obtain⟨_,_,_,q⟩:=hs
  exact False.elim q
 | cont=>
  obtain⟨_,_,_,q⟩:=hs
  exact False.elim q
section
variable {X:Cx}{x:Str}{p pos:Pos}{e:Expr}{es:List Expr}{t:TA}{id T:String}{r:List V->Hp->VK->Prop}
noncomputable def WZ (r:List V->Hp->VK->Prop) (t:TA):TE:=fun σ H Q=>t σ H fun vs H1=>r vs H1 Q
theorem mO (hc:jk X (.builtin id) r) (hg:Gl X x) (hm:X.mg x=none) (hv:bootBuiltins x=some (.builtin id)) (ha:PA X (e :: es) t) (hn:x≠"__name__":=by decide) (hdb:(x == ("__debug__":Str))=false:=by decide)
  (he:starEach (e :: es) X.env=(false,eval e X.env) :: starEach es X.env:=by rfl) (hpl:(backTo pos (starEach es X.env)).any (·.1)=false:=by rfl):PE X (.Call (.Name x p) (e :: es) [] pos) (WZ r t):=by
 intro pins s σ H Q I h
 refine wpAny_Call_Name_kw (mK I hg hm hv ?_ hn hdb)
 exact PyProof.Rows.callWith_builtin1 (fK (ha pos pins s σ H _ I h) fun us s1 ⟨vs,H1,I1,r1,q1⟩=>hc pins s1 σ H1 vs us Q I1 r1 q1) he hpl
theorem Ct (hc:jk X (.type T) r) (hg:Gl X x) (hm:X.mg x=none) (hv:bootBuiltins x=some (.type T)) (ha:PA X (e :: es) t) (hn:x≠"__name__":=by decide) (hdb:(x == ("__debug__":Str))=false:=by decide)
  (he:starEach (e :: es) X.env=(false,eval e X.env) :: starEach es X.env:=by rfl) (hpl:(backTo pos (starEach es X.env)).any (·.1)=false:=by rfl):PE X (.Call (.Name x p) (e :: es) [] pos) (WZ r t):=by
 intro pins s σ H Q I h
 refine wpAny_Call_Name_kw (mK I hg hm hv ?_ hn hdb)
 exact PyProof.Rows.callWith_type1 (fK (ha pos pins s σ H _ I h) fun us s1 ⟨vs,H1,I1,r1,q1⟩=>hc pins s1 σ H1 vs us Q I1 r1 q1) he hpl
end
section
variable {κ:Type} [DecidableEq κ]
noncomputable def oz (kvs:List (κ×V)) (k:κ):Option V:=(kvs.find? fun kv=>decide (kv.1=k)).map (·.2)
noncomputable def putK (kvs:List (κ×V)) (k:κ) (v:V):List (κ×V):=
 if(kvs.any fun kv=>decide (kv.1=k))=true then kvs.map (fun kv=>if kv.1=k then(kv.1,v) else kv) else kvs++[(k,v)]
noncomputable def Jo (kvs:List (κ×V)) (k:κ):List (κ×V):=kvs.filter fun kv=>decide (kv.1≠k)
theorem pK {p:κ×V}{r:List (κ×V)}{k:κ}(e:p.1=k):oz (p :: r) k=some p.2:=by simp[oz,List.find?_cons,e]
theorem mQ {p:κ×V}{r:List (κ×V)}{k:κ}(e:¬p.1=k):oz (p :: r) k=oz r k:=by simp[oz,List.find?_cons,e]
theorem xQ (k:κ):∀kvs:List (κ×V),(kvs.any fun kv=>decide (kv.1=k))=(oz kvs k).isSome
 | []=>rfl
 | p :: r=>by
  rw[List.any_cons]
  by_cases e:p.1=k
  ·simp only[pK e,decide_eq_true e,Bool.true_or,Option.isSome_some]
  ·rw[mQ e,decide_eq_false e,Bool.false_or];exact xQ k r
theorem mR (kvs:List (κ×V)) (k:κ) (v:V):(putK kvs k v).length<=kvs.length+1:=by
 unfold putK
 split
 ·rw[List.length_map];omega
 ·rw[List.length_append,List.length_cons,List.length_nil];omega
theorem rQ.qo {o:Option V}{u:Option Value}(r:rQ o u):o.isSome=u.isSome:=by
 cases o with
 | none=>cases u with
  | none=>rfl
  | some _=>exact(show False from r).elim
 | some _=>cases u with
  | none=>exact(show False from r).elim
  | some _=>rfl
theorem rQ.getD {o:Option V}{u:Option Value}{d:V}{d':Value}(r:rQ o u) (rd:RelV d d'):RelV (o.getD d) (u.getD d'):=by
 cases o with
 | none=>cases u with
  | none=>exact rd
  | some _=>exact(show False from r).elim
 | some _=>cases u with
  | none=>exact(show False from r).elim
  | some _=>exact r
theorem KV.val {kvs:List (κ×V)}{vs:List (κ×Value)}(r:KV kvs vs) (k:κ):rQ (oz kvs k) (valueAt vs k):=by
 unfold KV at r
 induction r with
 | nil=>exact True.intro
 | @cons p q ps qs h t ih=>
  obtain⟨h1,h2⟩:=h
  by_cases e:p.1=k
  ·have e':q.1=k:=h1.symm.trans e
   have b:valueAt (q :: qs) k=some q.2:=by simp[valueAt,List.find?_cons,e']
   rw[pK e,b];exact h2
  ·have e':¬q.1=k:=fun z=>e (h1.trans z)
   have b:valueAt (q :: qs) k=valueAt qs k:=by simp[valueAt,List.find?_cons,e']
   rw[mQ e,b];exact ih
theorem KV.any {kvs:List (κ×V)}{vs:List (κ×Value)}(r:KV kvs vs) (k:κ):(kvs.any fun kv=>decide (kv.1=k))=vs.any fun kv=>decide (kv.1=k):=by
 unfold KV at r
 induction r with
 | nil=>rfl
 | cons h t ih=>rw[List.any_cons,List.any_cons,ih,h.1]
theorem KV.repl {kvs:List (κ×V)}{vs:List (κ×Value)}(r:KV kvs vs) (k:κ){y:V}{u:Value}(ry:RelV y u):
  KV (kvs.map fun kv=>if kv.1=k then(kv.1,y) else kv) (vs.map fun kv=>if kv.1=k then(kv.1,u) else kv):=by
 unfold KV at r ⊢
 induction r with
 | nil=>exact .nil
 | @cons p q ps qs h t ih=>
  rw[List.map_cons,List.map_cons]
  refine .cons ?_ ih
  obtain⟨h1,h2⟩:=h
  by_cases e:p.1=k
  ·rw[if_pos e,if_pos (h1.symm.trans e)];exact⟨h1,ry⟩
  ·rw[if_neg e,if_neg (fun z=>e (h1.trans z))];exact⟨h1,h2⟩
theorem KV.put {kvs:List (κ×V)}{vs:List (κ×Value)}(r:KV kvs vs) (k:κ){y:V}{u:Value}(ry:RelV y u):KV (putK kvs k y) (stored vs k u):=by
 unfold putK stored
 rw[r.any k]
 by_cases e:(vs.any fun kv=>decide (kv.1=k))=true
 ·rw[if_pos e,if_pos e];exact r.repl k ry
 ·rw[if_neg e,if_neg e];exact Paired.snoc r ⟨rfl,ry⟩
theorem KV.drop {kvs:List (κ×V)}{vs:List (κ×Value)}(r:KV kvs vs) (k:κ):KV (Jo kvs k) (without vs k):=by
 unfold KV at r ⊢
 unfold Jo without
 induction r with
 | nil=>exact .nil
 | @cons p q ps qs h t ih=>
  obtain⟨h1,h2⟩:=h
  rw[List.filter_cons,List.filter_cons]
  by_cases e:p.1=k
  ·have a:¬decide (p.1≠k)=true:=by simp[e]
   have b:¬decide (q.1≠k)=true:=by simp[h1.symm.trans e]
   rw[if_neg a,if_neg b];exact ih
  ·have e':¬q.1=k:=fun z=>e (h1.trans z)
   have a:decide (p.1≠k)=true:=by simp[e]
   have b:decide (q.1≠k)=true:=by simp[e']
   rw[if_pos a,if_pos b];exact .cons ⟨h1,h2⟩ ih
theorem KV.length {kvs:List (κ×V)}{vs:List (κ×Value)}(r:KV kvs vs):kvs.length=vs.length:=Paired.length r
end
theorem Jp {P:Program}{w:World}{k:Key}{u:Value}(r:RelV (kV k) u):(ia P w).is k u=true:=by
 cases k with
 | inl i=>obtain⟨t,e⟩:=(show ∃t,u=Value.int i t from r);subst e;exact xH P w i t
 | inr x=>obtain⟨t,e⟩:=(show ∃t,u=Value.str x t from r);subst e;exact xJ P w x t
noncomputable abbrev KT (H:Hp):List (D×V)->List (D×Addr×Value)->Prop:=Paired fun p q=>p.1=q.1/\Kd H q.2.1 p.1/\RelV p.2 q.2.2
theorem KT.val {H:Hp}{kvs:List (D×V)}{xs:List (D×Addr×Value)}(r:KT H kvs xs) (k:D):rQ (oz kvs k) ((atKey xs k).map (·.2)):=by
 induction r with
 | nil=>exact True.intro
 | @cons p q ps qs h t ih=>
  obtain⟨h1,_,h2⟩:=h
  by_cases e:p.1=k
  ·have e':q.1=k:=h1.symm.trans e
   have b:atKey (q :: qs) k=some q.2:=by simp[atKey,List.find?_cons,e']
   rw[pK e,b];exact h2
  ·have e':¬q.1=k:=fun z=>e (h1.trans z)
   have b:atKey (q :: qs) k=atKey qs k:=by simp[atKey,List.find?_cons,e']
   rw[mQ e,b];exact ih
theorem KT.repl {H:Hp}{kvs:List (D×V)}{xs:List (D×Addr×Value)}(r:KT H kvs xs) (k:D){y:V}{u:Value}(ry:RelV y u):
  KT H (kvs.map fun kv=>if kv.1=k then(kv.1,y) else kv) (xs.map (putAt k u)):=by
 induction r with
 | nil=>exact .nil
 | @cons p q ps qs h t ih=>
  rw[List.map_cons,List.map_cons]
  refine .cons ?_ ih
  obtain⟨h1,h2,h3⟩:=h
  unfold putAt
  by_cases e:p.1=k
  ·rw[if_pos e,if_pos (h1.symm.trans e)];exact⟨h1,h2,ry⟩
  ·rw[if_neg e,if_neg (fun z=>e (h1.trans z))];exact⟨h1,h2,h3⟩
theorem KT.put {H:Hp}{kvs:List (D×V)}{xs:List (D×Addr×Value)}(r:KT H kvs xs) (k:D){b:Addr}{y:V}{u:Value}(hb:Kd H b k) (ry:RelV y u):
  KT H (putK kvs k y) (storedH xs k b u):=by
 have e:(kvs.any fun kv=>decide (kv.1=k))=(atKey xs k).isSome:=by
  rw[xQ,(r.val k).qo,Option.isSome_map]
 unfold putK storedH
 rw[e]
 by_cases q:(atKey xs k).isSome=true
 ·rw[if_pos q,if_pos q];exact r.repl k ry
 ·rw[if_neg q,if_neg q];exact Paired.snoc r ⟨rfl,hb,ry⟩
theorem KT.keeps {H H':Hp}{kvs:List (D×V)}{xs:List (D×Addr×Value)}(r:KT H kvs xs) (ht:∀b ys,H b=some (.tup ys)->H' b=some (.tup ys)):KT H' kvs xs:=
 Paired.Ck r fun _ _ z=>⟨z.1,z.2.1.tups ht,z.2.2⟩
section
variable {P:Program}{w:World}{H:Hp}{h:Heap}{a:Addr}
theorem Jq {u:HO}(ok:mF P w H h) (e:Rd H a u):fG P w H h a u:=e.ok ok
theorem sO {kvs:List (Key×V)}(ok:mF P w H h) (e:Rd H a (.dK kvs)):kvs.length<=sizeLine/\(a == sysModules)=false/\∃vs,KV kvs vs/\h.DictOf (ia P w) a vs:=
 show fG P w H h a (.dK kvs) from Jq ok e
theorem Jr {kvs:List (Key×V)}(ok:mF P w H h) (e:H a=some (.dK kvs)):kvs.length<=sizeLine/\(a == sysModules)=false/\∃vs,KV kvs vs/\h.DictOf (ia P w) a vs:=sO ok (.inl e)
mutual
theorem DJ (ok : mF P w H h) : ∀ (d : D) {n : Nat} {v : V} {u : Value}, Rep H v d -> RelV v u -> fV n d = true -> uo h u (nf d)
  | .dh,n,_,_,_,_,k=>by simp[fV] at k
  | .lst _,n,_,_,_,_,k=>by simp[fV] at k
  | .bl b,n,_,_,r,q,k=>by cases r;cases q;exact .bool b
  | .int i,n,_,_,r,q,k=>by cases r;obtain⟨t,rfl⟩:=q;exact .int i t
  | .str i,n,_,_,r,q,k=>by cases r;obtain⟨t,rfl⟩:=q;exact .str i t
  | .tup ds,n,_,_,r,q,k=>by
    cases n with
    | zero=>simp[fV] at k
    | succ n=>
      cases r with
      | @tup a vs _ e rs=>
        cases q
        obtain⟨_,its,rv,o,h1,h2,m,h3⟩:=(show fG P w H h a (.tup vs) from ok a _ e)
        exact .tup ⟨o,h1,h2,m,h3⟩ (Ba ok ds rs rv k)
theorem Ba (ok:mF P w H h):∀(ds:List D){n:Nat}{vs:List V}{us:List Value},bB H vs ds->Vals vs us->ds.all (fV n)=true->kq h us (Gy ds)
  | [],n,_,_,r,q,k=>by cases r;cases q;exact .nil
  | d :: ds, n, _, _, r, q, k => by
    rw[List.all_cons,Bool.and_eq_true] at k
    cases r with
    | cons r1 r2=>
      cases q with
      | cons q1 q2=>exact .cons (DJ ok d r1 q1 k.1) (Ba ok ds r2 q2 k.2)
end
theorem qp {ks:D}(ok:mF P w H h) (e:Kd H a ks):(jS P w).is h ks a:=by
 obtain⟨d,r,hk,rfl⟩:=e
 exact⟨DJ ok d r rfl hk,A3 d 8 hk⟩
theorem uX {kvs : List (D × V)} (ok : mF P w H h) (e : Rd H a (.dT kvs)) : kvs.length <= sizeLine /\ (a == sysModules) = false /\
    ∃xs,KT H kvs xs/\h.DictOfH (jS P w) a xs:=by
  obtain⟨z,y,xs,r,o,es,ep,h1,h2,h3,h4,h5⟩:=(show fG P w H h a (.dT kvs) from Jq ok e)
  refine⟨z,y,xs,r,o,es,ep,h1,h2,h3,h4,fun x hx=>?_,h5⟩
  have all:∀{l:List (D×V)}{m:List (D×Addr×Value)},KT H l m->∀x∈m,(jS P w).is h x.1 x.2.1:=by
    intro l m q
    induction q with
    | nil=>intro x hx;exact nomatch hx
    | @cons p q ps qs hq t ih=>
      intro x hx
      rcases List.mem_cons.mp hx with e | hx
      . subst e
        exact qp ok (by rw[<-hq.1];exact hq.2.1)
      . exact ih x hx
  exact all r x hx
theorem DK {kvs:List (D×V)}(ok:mF P w H h) (e:H a=some (.dT kvs)):kvs.length<=sizeLine/\(a == sysModules)=false/\
  ∃xs,KT H kvs xs/\h.DictOfH (jS P w) a xs:=uX ok (.inl e)
end
noncomputable def KQ (y:V) (k:Key):Prop:=y=kV k\/∃b,y= .bl b/\k= .inl (bI b)
theorem KQ.is {P:Program}{w:World}{y:V}{k:Key}{u:Value}(e:KQ y k) (r:RelV y u):(ia P w).is k u=true:=by
 rcases e with rfl | ⟨b,rfl,rfl⟩
 ·exact Jp r
 ·cases r;exact decide_eq_true rfl
noncomputable def jH (H:Hp) (a:Addr) (y:V) (r:Option V):Prop:=
 (∃kvs k,Rd H a (.dK kvs)/\KQ y k/\r=oz kvs k)\/∃kvs k b,Rd H a (.dT kvs)/\y= .ref b/\Kd H b k/\r=oz kvs k
noncomputable def xR (H:Hp) (a:Addr) (y v:V) (H':Hp):Prop:=
 (∃kvs k,H a=some (.dK kvs)/\KQ y k/\kvs.length < sizeLine/\H'=upd H a (.dK (putK kvs k v)))\/
 ∃kvs k b,H a=some (.dT kvs)/\y= .ref b/\Kd H b k/\kvs.length < sizeLine/\H'=upd H a (.dT (putK kvs k v))
theorem jH.t {H:Hp}{a b:Addr}{kvs:List (D×V)}{k:D}(e:H a=some (.dT kvs)) (eb:Kd H b k):jH H a (.ref b) (oz kvs k):=.inr ⟨kvs,k,b,.inl e,rfl,eb,rfl⟩
theorem xR.t {H:Hp}{a b:Addr}{kvs:List (D×V)}{k:D}{v:V}(e:H a=some (.dT kvs)) (eb:Kd H b k) (hl:kvs.length < sizeLine):
  xR H a (.ref b) v (upd H a (.dT (putK kvs k v))):=.inr ⟨kvs,k,b,e,rfl,eb,hl,rfl⟩
section
variable {X:Cx}{pins:List (Addr×Obj)}{σ:St}{H:Hp}{s:Shared}{a:Addr}{y v:V}{u r:Value}{o:Option V}{A:Around}{E:Value->Shared->Prop}
theorem Inv.big (I:Inv X pins σ H s):sysModules < s.heap.objs.size:=by
 have h:mainGlobals < s.heap.objs.size:=(I.mod.glob.keeps I.bk).lt
 exact Nat.lt_trans (by decide) h
theorem Cu {Q:Value->Shared->Prop}(hu:A.units+20 < cLine) (I:Inv X pins σ H s) (g:jH H a y (some v)) (ry:RelV y u) (h:∀w' s',Inv X pins σ H s'->RelV v w'->Q w' s'):
  wpAny (model X.prog X.w) A (getItem (.ref a) u) Q E s:=by
 rcases g with⟨kvs,k,e,ey,l⟩ | ⟨kvs,k,b,e,ey,eb,l⟩
 ·obtain⟨z,hd,vs,rel,dd⟩:=sO I.hok e
  obtain⟨w',hw,rw'⟩:=rQ.some_of (v:=v) (o:=valueAt vs k) (by rw[l];exact rel.val k)
  exact wpAny_getItem_of (ey.is ry) dd.mapOf hw (h w' _ (I.tok _) rw')
 ·subst ey
  cases(show u=Value.ref b from ry)
  obtain⟨z,hd,xs,rel,dd⟩:=uX I.hok e
  obtain⟨w',hw,rw'⟩:=rQ.some_of (v:=v) (o:=(atKey xs k).map (·.2)) (by rw[l];exact rel.val k)
  obtain⟨p,hp,hp2⟩:=Option.map_eq_some_iff.mp hw
  refine wpAny_getItem_heap (i8 hu) (qp I.hok eb) dd hp ?_
  rw[hp2]
  exact h w' _ (I.tok _) rw'
theorem GW {Q:Value->Shared->Prop}(hu:A.units+20 < cLine) (I:Inv X pins σ H s) (g:jH H a y o) (ry:RelV y u) (h:∀s',Inv X pins σ H s'->Q (.bool (!o.isSome)) s'):
  wpAny (model X.prog X.w) A (compareOp .NotIn u (.ref a)) Q E s:=by
 rcases g with⟨kvs,k,e,ey,l⟩ | ⟨kvs,k,b,e,ey,eb,l⟩
 ·obtain⟨z,hd,vs,rel,dd⟩:=sO I.hok e
  refine wpAny_notIn_of (ey.is ry) hd dd.mapOf ?_
  rw[<-(rel.val k).qo,<-l]
  exact h _ (I.tok _)
 ·subst ey
  cases(show u=Value.ref b from ry)
  obtain⟨z,hd,xs,rel,dd⟩:=uX I.hok e
  refine wpAny_notIn_heap (i8 hu) (qp I.hok eb) hd dd ?_
  have q:=(rel.val k).qo
  rw[Option.isSome_map] at q
  rw[<-q,<-l]
  exact h _ (I.tok _)
theorem sr {h':Heap}{t':Nat}{ob:HO}(I:Inv X pins σ H s) (mu:MY (H a)) (hs:Heap.SameBut a s.heap h') (he:∃q,h'.get? a=some q) (new:fG X.prog X.w (upd H a ob) h' a ob):
  Inv X pins σ (upd H a ob) {s with heap:=h',toks:=t'}:=
 I.write (x:=a) (e:=a) mu (.inl rfl) (fun b q hb z=>(hs.2 b hb).trans z) he new
theorem zV {P:Program}{w:World}{H':Hp}{h':Heap}{kvs:List (Key×V)}{vs:List (Key×Value)}(z:kvs.length<=sizeLine) (hd:(a == sysModules)=false) (rel:KV kvs vs) (dd:h'.DictOf (ia P w) a vs):
  fG P w H' h' a (.dK kvs):=⟨z,hd,vs,rel,dd⟩
theorem Cv {H':Hp}{Q:Unit->Shared->Prop}(hu:A.units+20 < cLine) (I:Inv X pins σ H s) (g:xR H a y v H') (ry:RelV y u) (rv:RelV v r) (h:∀s',Inv X pins σ H' s'->Q () s'):
  wpAny (model X.prog X.w) A (setItem (.ref a) u r) Q E s:=by
 rcases g with⟨kvs,k,e,ey,l,eH⟩ | ⟨kvs,k,b,e,ey,eb,l,eH⟩
 ·subst eH
  obtain⟨z,hd,vs,rel,dd⟩:=Jr I.hok e
  have hz:vs.length<=sizeLine:=by rw[<-rel.length];exact z
  have hl:(putK kvs k v).length<=sizeLine:=by have:=mR kvs k v;omega
  refine wpAny_setItem_pairs (hsz:=hz) (ey.is ry) dd fun h' GX hs=>h _ ?_
  have he:∃q,h'.get? a=some q:=let⟨q,_,_,hq,_⟩:=GX;⟨q,hq⟩
  exact sr I (by rw[e];exact True.intro) hs he (zV hl hd (rel.put k rv) GX)
 ·subst ey eH
  cases(show u=Value.ref b from ry)
  obtain⟨z,hd,xs,rel,dd⟩:=DK I.hok e
  have hz:xs.length<=sizeLine:=by rw[<-Paired.length rel];exact z
  have hl:(putK kvs k v).length<=sizeLine:=by have:=mR kvs k v;omega
  refine wpAny_setItem_heap (hsz:=hz) (i8 hu) (qp I.hok eb) dd fun h' GX hs=>h _ ?_
  obtain⟨q,es,ep,hq,h2,h3,h4,_,h5⟩:=GX
  refine sr I (by rw[e];exact True.intro) hs ⟨q,hq⟩ ⟨hl,hd,_,(rel.put k eb rv).keeps fun c ys ec=>?_,q,es,ep,hq,h2,h3,h4,h5⟩
  rw[aE (Jg ec e (fun z=>nomatch z))]
  exact ec
end
section
variable {X:Cx}{pins:List (Addr×Obj)}{σ:St}{H:Hp}{s:Shared}{a:Addr}{kvs:List (Key×V)}{k:Key}{u:Value}{A:Around}{E:Value->Shared->Prop}
theorem Nv {Q:Value->Shared->Prop}(I:Inv X pins σ H s) (e:Rd H a (.dK kvs)) (h:∀t s',Inv X pins σ H s'->Q (.int kvs.length t) s'):wpAny (model X.prog X.w) A (call (.builtin "len") [.ref a]) Q E s:=by
 obtain⟨z,hd,vs,rel,dd⟩:=sO I.hok e
 refine call_len_dict hd dd (by rw[<-rel.length];rw[sizeLine_eq] at z;omega) ?_
 rw[<-rel.length]
 exact h _ _ (I.tok _)
end
noncomputable def Nx (i:Expr):Prop:=∀ov iv,subscripted i false ov iv=operate [ov,iv] (getItem ov iv)
theorem GY {prog:Program}{w:World}{A:Around}{E:Value->Shared->Prop}{s:Shared}{env:Env}{value slice:Expr}{pos:Pos}{T id:String}{Q:Value->Shared->Prop}
  (hl:typeLookup (.type T) "__getitem__" =pure (some (.builtin id))) (hs:Nx slice)
  (h:wpAny (model prog w) A (eval value env) (fun o s₁=>wpAny (model prog w) A (eval slice env) (fun i s₂=>s₂.TypeIs o T/\wpAny (model prog w) A (getItem o i) Q E s₂) E s₁) E s):
  wpAny (model prog w) A (eval (.Subscript value slice pos) env) Q E s:=by
 refine Subscript_ (wpAny_mono h (fun o s₁ h₁=>wpAny_mono h₁ (fun i s₂ h₂=>?_) fun _ _ x=>x) fun _ _ x=>x)
 obtain⟨hT,h₂⟩:=h₂
 unfold subscriptTail
 refine wpAny_bind ?_
 rw[getitemInPython_of_ne hT.not_modules]
 refine wpAny_bind (wpAny_specialOf hT hl ?_)
 have fin:wpAny (model prog w) A (subscripted slice false o i) (fun r s₃=>wpAny (model prog w) A (letTemporaryGo value o r >>= fun _=>pure r) Q E s₃) E s₂:=by
  rw[hs o i]
  exact wpAny_operating (wpAny_mono h₂ (fun r s₃ h₃=>wpAny_bind (wpAny_letTemporaryGo (wpAny_pure h₃))) fun _ _ x=>x)
 first
  | exact wpAny_pure (wpAny_bind fin)
  | exact wpAny_bind (wpAny_pure (wpAny_bind fin))
  | exact wpAny_bind fin
theorem xS {X:Cx}{pins:List (Addr×Obj)}{σ:St}{H:Hp}{s:Shared}{a:Addr}{y:V}{o:Option V}(I:Inv X pins σ H s) (g:jH H a y o):s.TypeIs (.ref a) "dict":=by
 rcases g with⟨kvs,k,e,_,_⟩ | ⟨kvs,k,b,e,_,_,_⟩
 ·obtain⟨_,_,vs,_,dd⟩:=sO I.hok e
  exact dd.typeIs
 ·obtain⟨_,_,xs,_,dd⟩:=uX I.hok e
  exact dd.typeIs
noncomputable def Ny (td ty:TE):TE:=fun σ H Q=>td σ H fun x H1=>ty σ H1 fun y H2=>∃a v,x= .ref a/\jH H2 a y (some v)/\Q v H2
noncomputable def Bb (ty td:TE):TE:=fun σ H Q=>ty σ H fun y H1=>td σ H1 fun x H2=>∃a o,x= .ref a/\jH H2 a y o/\Q (.bl (!o.isSome)) H2
noncomputable def Nz (td ty tv:TE):TS:=fun D σ H=>tv σ H fun v H1=>td σ H1 fun x H2=>ty σ H2 fun y H3=>∃a H4,x= .ref a/\xR H3 a y v H4/\D.nx σ H4
section
variable {X:Cx}{o i e value:Expr}{pos pos' tpos:Pos}{td ty tv:TE}
theorem Bc (hu:X.A.units+20 < cLine) (ho:PE X o td) (hi:PE X i ty) (hs:Nx i):PE X (.Subscript o i pos) (Ny td ty):=by
 intro pins s σ H Q I h
 refine GY PySem.F.slot_dict_getitem.lookup hs (fK (ho pins s σ H _ I h) fun u s1 ⟨x,H1,I1,rx,q1⟩=>fK (hi pins s1 σ H1 _ I1 q1) fun iv s2 ⟨y,H2,I2,ry,a,v,ex,g,q2⟩=>?_)
 subst ex
 obtain rfl:u=Value.ref a:=rx
 exact⟨xS I2 g,Cu hu I2 g ry fun w' s3 I3 rw'=>⟨v,H2,I3,rw',q2⟩⟩
theorem Cw (hu:X.A.units+20 < cLine) (hi:PE X i ty) (ho:PE X o td):PC X .NotIn i o (Bb ty td):=by
 intro pins s σ H Q I h
 refine fK (hi pins s σ H _ I h) fun iv s1 ⟨y,H1,I1,ry,q1⟩=>fK (ho pins s1 σ H1 _ I1 q1) fun u s2 ⟨x,H2,I2,rx,a,ov,ex,g,q2⟩=>?_
 subst ex
 obtain rfl:u=Value.ref a:=rx
 exact GW hu I2 g ry fun s3 I3=>⟨.bl (!ov.isSome),H2,I3,rfl,q2⟩
theorem Bd (hu:X.A.units+20 < cLine) (ho:PE X o td) (hi:PE X i ty) (hv:PE X value tv) (hs:swapsWith value (some (.Subscript o i pos')) pos.line X.env=pure false):
  PS X (.Assign [.Subscript o i pos'] value pos) (Nz td ty tv):=by
 intro pins s σ H D I h
 refine wpAny_Assign_Subscript (fK (hv pins s σ H _ I h) fun r s1 ⟨v,H1,I1,rv,q1⟩=>fK (ho pins s1 σ H1 _ I1 q1) fun u s2 ⟨x,H2,I2,rx,q2⟩=>fK (hi pins s2 σ H2 _ I2 q2) fun iv s3 ⟨y,H3,I3,ry,a,H4,ex,g,q3⟩=>?_) hs
 subst ex
 obtain rfl:u=Value.ref a:=rx
 exact Cv hu I3 g ry rv fun s4 I4=>⟨σ,H4,I4,q3⟩
end
theorem xT {P:Program}{w:World}{H:Hp}(h:Heap) (hb:sysModules < h.objs.size):fG P w H (h.push {cls:=.type "dict",data:=.dict #[]}) h.objs.size (.dK []):=
 ⟨Nat.zero_le _,beq_eq_false_iff_ne.mpr (Ne.symm (Nat.ne_of_lt hb)),[],.nil,Heap.DictOf.new h⟩
theorem xU {P:Program}{w:World}{H:Hp}(h:Heap) (hb:sysModules < h.objs.size):fG P w H (h.push {cls:=.type "dict",data:=.dict #[]}) h.objs.size (.dT []):=
 ⟨Nat.zero_le _,beq_eq_false_iff_ne.mpr (Ne.symm (Nat.ne_of_lt hb)),[],.nil,_,#[],0,Heap.get?_push_size _ rfl,⟨rfl,rfl,rfl⟩,rfl,rfl,List.nodup_nil⟩
noncomputable def KR:TE:=fun _ H Q=>∀p,H p=none->Q (.ref p) (upd H p (.dK []))
noncomputable def KS:TE:=fun _ H Q=>∀p,H p=none->Q (.ref p) (upd H p (.dT []))
section
variable {X:Cx}{pos:Pos}
theorem DL:PE X (.Dict [] [] pos) KR:=fun pins s σ H Q I h=>
 wpAny_Dict_empty ⟨.ref s.heap.objs.size,_,I.laid (a:=s.heap.objs.size) (o:=.dK []) (t':=s.toks) (fun _ _ q=>Heap.get?_push_of_some _ q) (Nat.le_refl _) (xT s.heap I.big),rfl,h _ (I.hok.fresh (Nat.le_refl _))⟩
theorem DM:PE X (.Dict [] [] pos) KS:=fun pins s σ H Q I h=>
 wpAny_Dict_empty ⟨.ref s.heap.objs.size,_,I.laid (a:=s.heap.objs.size) (o:=.dT []) (t':=s.toks) (fun _ _ q=>Heap.get?_push_of_some _ q) (Nat.le_refl _) (xU s.heap I.big),rfl,h _ (I.hok.fresh (Nat.le_refl _))⟩
end
noncomputable def zW:List (TE×TE)->St->Hp->(List (V×V)->Hp->Prop)->Prop
 | [],_,H,Q=>Q [] H
 | (tk,tv) :: r,σ,H,Q=>tk σ H fun x H1=>tv σ H1 fun y H2=>zW r σ H2 fun ps H3=>Q ((x,y) :: ps) H3
noncomputable abbrev VV:List (V×V)->List (Value×Value)->Prop:=Paired fun p q=>RelV p.1 q.1/\RelV p.2 q.2
noncomputable def P4 (X:Cx) (pos:Pos) (keys:List (Option Expr)) (values:List Expr) (GZ:List (TE×TE)):Prop:=
 ∀(pins:List (Addr×Obj)) (s:Shared) (σ:St) (H:Hp) (Q:List (V×V)->Hp->Prop),Inv X pins σ H s->zW GZ σ H Q->
  wpAny (model X.prog X.w) X.A (evalPairs (pairTrees keys values X.env pos)) (fun vs s'=>∃ps H',Inv X pins σ H' s'/\VV ps vs/\Q ps H') X.xe s
theorem Be {X:Cx}{pos:Pos}:P4 X pos [] [] []:=fun pins s σ H Q I h=>pairTrees_nil_walk ⟨[],H,I,.nil,h⟩
theorem xV {X:Cx}{pos:Pos}{k v:Expr}{ks:List (Option Expr)}{vs:List Expr}{tk tv:TE}{GZ:List (TE×TE)}(hk:PE X k tk) (hv:PE X v tv) (hr:P4 X pos ks vs GZ):
  P4 X pos (some k :: ks) (v :: vs) ((tk,tv) :: GZ):=fun pins s σ H Q I h=>
 pairTrees_cons_walk (fK (hk pins s σ H _ I h) fun u s1 ⟨x,H1,I1,rx,q1⟩=>fK (hv pins s1 σ H1 _ I1 q1) fun w2 s2 ⟨y,H2,I2,ry,q2⟩=>
  fK (hr pins s2 σ H2 _ I2 q2) fun ws s3 ⟨ps,H3,I3,rel,q3⟩=>⟨(x,y) :: ps,H3,I3,.cons ⟨rx,ry⟩ rel,q3⟩)
noncomputable def qq (kvs more:List (Key×V)):List (Key×V):=more.foldl (fun acc kv=>putK acc kv.1 kv.2) kvs
theorem KV.merge:∀{more:List (Key×V)}{rs:List (Key×Value)}{kvs:List (Key×V)}{vs:List (Key×Value)},KV more rs->KV kvs vs->KV (qq kvs more) (merged vs rs):=by
 intro more rs kvs vs r
 unfold KV at r
 induction r generalizing kvs vs with
 | nil=>intro q;exact q
 | @cons p q ps qs h t ih=>
  intro r0
  have e:KV (putK kvs p.1 p.2) (stored vs q.1 q.2):=by
   have:=r0.put p.1 h.2
   rw[<-h.1];exact this
  exact ih e
theorem oH:∀(more kvs:List (Key×V)),(qq kvs more).length<=kvs.length+more.length
 | [],kvs=>by show kvs.length<=kvs.length+0;omega
 | p :: r,kvs=>by
  have h1:=oH r (putK kvs p.1 p.2)
  have h2:=mR kvs p.1 p.2
  show(qq (putK kvs p.1 p.2) r).length<=_
  rw[List.length_cons];omega
theorem sP {P:Program}{w:World}:∀{kvs:List (Key×V)}{ws:List (Value×Value)},VV (kvs.map fun kv=>(kV kv.1,kv.2)) ws->∃rs,Carries (ia P w) ws rs/\KV kvs rs
  | [],_,r=>by rw[List.map_nil] at r;cases r;exact⟨[],True.intro,.nil⟩
  | p :: kvs, _, r => by
    rw[List.map_cons] at r
    cases r with
    | @cons a b as bs h t=>
      obtain⟨rs,c,q⟩:=sP (P:=P) (w:=w) t
      obtain⟨b1,b2⟩:=b
      exact⟨(p.1,b2) :: rs,⟨Jp h.1,rfl,c⟩,.cons ⟨rfl,h.2⟩ q⟩
noncomputable def NC (GZ:List (TE×TE)):TE:=fun σ H Q=>∀p,H p=none->zW GZ σ (upd H p (.dK [])) fun ps H2=>H2 p=some (.dK [])/\∃kvs:List (Key×V),ps=kvs.map (fun kv=>(kV kv.1,kv.2))/\kvs.length<=15/\Q (.ref p) (upd H2 p (.dK (qq [] kvs)))
theorem G0 {X:Cx}{pos:Pos}{keys:List (Option Expr)}{values:List Expr}{GZ:List (TE×TE)}(h:P4 X pos keys values GZ) (hall:keys.all (·.isSome)=true) (hl:keys.length=values.length) (h0:keys≠[])
  (Yo:keys.length<=15):PE X (.Dict keys values pos) (NC GZ):=by
 intro pins s σ H Q I q
 have hn:=I.hok.fresh (Nat.le_refl s.heap.objs.size)
 have I1:=I.laid (a:=s.heap.objs.size) (o:=.dK []) (h':=s.heap.push {cls:=.type "dict",data:=.dict #[]}) (t':=s.toks) (fun _ _ q=>Heap.get?_push_of_some _ q) (Nat.le_refl _) (xT s.heap I.big)
 refine wpAny_Dict_walk (knd:=ia X.prog X.w) hall hl h0 Yo (fK (h pins _ σ _ _ I1 (q _ hn)) fun ws s2 ⟨ps,H2,I2,rel,e,kvs,ep,lk,q2⟩=>?_)
 subst ep
 obtain⟨rs,c,rk⟩:=sP (P:=X.prog) (w:=X.w) rel
 obtain⟨z,hd,W0,r0,dd⟩:=Jr I2.hok e
 cases r0
 refine⟨rs,c,dd,fun h' GX hs=>⟨.ref s.heap.objs.size,_,?_,rfl,q2⟩⟩
 have hz:(qq [] kvs).length<=sizeLine:=by
  have h1:=oH kvs []
  rw[List.length_nil] at h1
  rw[sizeLine_eq];omega
 have he:∃q,h'.get? s.heap.objs.size=some q:=let⟨q,_,_,hq,_⟩:=GX;⟨q,hq⟩
 exact sr I2 (by rw[e];exact True.intro) hs he (zV hz hd (rk.merge .nil) GX)
structure M2 (X:Cx) (o:Expr) (m:Str) (apos:Pos) (e f:Expr) (cpos:Pos):Prop where
 base:attributeBase o m X.env (eval o X.env)=eval o X.env
 few:((backTo cpos (starEach [e,f] X.env)).all (fun x=>!x.1) && (backToKw cpos (keywordEach [] X.env)).all (fun x=>x.1.isSome)
  && decide (([e,f]:List Expr).length+([]:List Keyword).length+(if([]:List Keyword).isEmpty then 0 else 1) < 30))=true
 line:(apos.endLine == cpos.line)=true
 trees:backTo cpos (starEach [e,f] X.env)=[(false,eval e X.env),(false,eval f X.env)]
noncomputable def Ry (H:Hp) (a:Addr):Prop:=(∃kvs,Rd H a (.dK kvs))\/∃kvs,Rd H a (.dT kvs)
theorem KU {X:Cx}{pins:List (Addr×Obj)}{σ:St}{H:Hp}{s:Shared}{a:Addr}(I:Inv X pins σ H s) (d:Ry H a):
  s.TypeIs (.ref a) "dict"/\(∀b,Value.ref a= .ref b->∃ob,s.heap.get? b=some ob/\ob.dict=none)/\(a == sysModules)=false:=by
 rcases d with⟨kvs,e⟩ | ⟨kvs,e⟩
 ·obtain⟨_,hd,vs,_,dd⟩:=sO I.hok e
  refine⟨dd.typeIs,fun b q=>?_,hd⟩
  cases q
  obtain⟨ob,_,_,h1,h2,_⟩:=dd
  exact⟨ob,h1,h2.2.1⟩
 ·obtain⟨_,hd,xs,_,dd⟩:=uX I.hok e
  refine⟨dd.typeIs,fun b q=>?_,hd⟩
  cases q
  obtain⟨ob,_,_,h1,h2,_⟩:=dd
  exact⟨ob,h1,h2.2.1⟩
section
variable {X:Cx}{pins:List (Addr×Obj)}{σ:St}{H:Hp}{s:Shared}{a:Addr}{y d:V}{u r:Value}{o:Option V}{A:Around}{E:Value->Shared->Prop}
theorem KW {Q:Value->Shared->Prop}(hu:A.units+20 < cLine) (I:Inv X pins σ H s) (g:jH H a y o) (ry:RelV y u) (rd:RelV d r) (h:∀w' s',Inv X pins σ H s'->RelV (o.getD d) w'->Q w' s'):
  wpAny (model X.prog X.w) A (call (.builtin "dict.get") [.ref a,u,r]) Q E s:=by
 rcases g with⟨kvs,k,e,ey,l⟩ | ⟨kvs,k,b,e,ey,eb,l⟩
 ·obtain⟨z,hd,vs,rel,dd⟩:=sO I.hok e
  refine call_meetsIn PySem.F.slot_dict_get dd.typeIs PySem.F.entry_dict_get (PySem.F.args_dict_get_3 _ _ _) (meets_dict_get_default (ia X.prog X.w) a (ey.is ry) hd r) ⟨_,dd.mapOf,h _ _ (I.tok _) ?_⟩
  rw[l]
  exact(rel.val k).getD rd
 ·subst ey
  cases(show u=Value.ref b from ry)
  obtain⟨z,hd,xs,rel,dd⟩:=uX I.hok e
  refine call_meetsIn PySem.F.slot_dict_get dd.typeIs PySem.F.entry_dict_get (PySem.F.args_dict_get_3 _ _ _) (meetsH_dict_get_default (jS X.prog X.w) a b hd r) ⟨i8 hu,k,xs,qp I.hok eb,dd,h _ _ (I.tok _) ?_⟩
  rw[l]
  exact(rel.val k).getD rd
end
noncomputable def KY (td ty tx:TE):TE:=fun σ H Q=>td σ H fun x H1=>∃a,x= .ref a/\Ry H1 a/\ty σ H1 fun y H2=>tx σ H2 fun z H3=>∃o,jH H3 a y o/\Q (o.getD z) H3
section
variable {X:Cx}{o e f:Expr}{apos cpos:Pos}{td ty tx:TE}
theorem DN (hu:X.A.units+20 < cLine) (ho:PE X o td) (he:PE X e ty) (hf:PE X f tx) (m:M2 X o "get" apos e f cpos):PE X (.Call (.Attribute o "get" apos) [e,f] [] cpos) (KY td ty tx):=by
 intro pins s σ H Q I h
 refine wpAny_Call_method m.base m.few m.line PySem.F.plainAttrs_dict PySem.F.slot_dict_get PySem.F.type_dict_get (fK (ho pins s σ H _ I h) fun u s1 ⟨x,H1,I1,rx,a,ex,d,q1⟩=>?_)
 subst ex
 obtain rfl:u=Value.ref a:=rx
 obtain⟨t1,t2,_⟩:=KU I1 d
 refine⟨t1,t2,?_⟩
 rw[m.trees]
 refine Calls.callWith_builtin rfl (Calls.evalArgs_plain (Calls.spliced_cons (fK (he pins s1 σ H1 _ I1 q1) fun iv s2 ⟨y,H2,I2,ry,q2⟩=>
  Calls.spliced_cons (fK (hf pins s2 σ H2 _ I2 q2) fun fv s3 ⟨z,H3,I3,rz,ov,g,q3⟩=>Calls.spliced_nil ?_))))
 exact KW hu I3 g ry rz fun w' s4 I4 rw'=>⟨_,H3,I4,rw',q3⟩
end
section
variable {X:Cx}{pins:List (Addr×Obj)}{σ:St}{H:Hp}{s:Shared}{a:Addr}{kvs:List (Key×V)}{A:Around}{E:Value->Shared->Prop}
end
section
variable {X:Cx}{pins:List (Addr×Obj)}{σ:St}{H:Hp}{s:Shared}{a:Addr}{y:V}{u:Value}{A:Around}{E:Value->Shared->Prop}
end
end L2
namespace HT
open PySem PyProof.Rows
section
open PySem.SeqAt
open PySem.AutoSeq1 (wpAny_loadPart')
open PySem.MeetsSeq PySem.MeetsSeq2 PySem.MeetsSeq3
end
section
variable {prog:Program}{w:World}{A:Around}{E:Value->Shared->Prop}{s:Shared}
theorem G1 {t b:Addr}{vs ws:List Value}{Q:Value->Shared->Prop}(ht:IsTup s.heap t vs.toArray) (hb:IsTup s.heap b ws.toArray) (hv:vs≠[])
  (h1:ws=[]->Q (.ref t) s) (h2:ws≠[]->Q (.ref s.heap.objs.size) {s with heap:=s.heap.push {cls:=.type "tuple",data:=.seq (vs++ws).toArray}})
  (hsz:vs.length+ws.length<=sizeLine):wpAny (model prog w) A (binaryOp .Add (.ref t) (.ref b)) Q E s:=by
 obtain⟨⟨cls,dd,data,sl⟩,ho,hc,n,hd⟩:=id ht
 obtain⟨⟨Rz,dd2,data2,sl2⟩,ho2,hc2,n2,hd2⟩:=id hb
 simp only at hc hd hc2 hd2
 subst hc hd hc2 hd2
 have e:vs.toArray++ws.toArray=(vs++ws).toArray:=by simp
 by_cases hw:ws=[]
 ·exact concat_meets ⟨_,ho,rfl⟩ ⟨_,ho2,rfl⟩ noFill_tuple_add seq_tuple_add PySem.F.slot_tuple_add PySem.F.entry_tuple_add (PySem.F.args_tuple_add_2 _ _)
   (tuple_addW1 t b vs.toArray ws.toArray n n2 dd dd2 sl sl2 (by simpa using hv) (by simp[hw])) ⟨ho,ho2,h1 hw⟩
 ·refine concat_meets ⟨_,ho,rfl⟩ ⟨_,ho2,rfl⟩ noFill_tuple_add seq_tuple_add PySem.F.slot_tuple_add PySem.F.entry_tuple_add (PySem.F.args_tuple_add_2 _ _)
   (tuple_addW2 t b vs.toArray ws.toArray n n2 dd dd2 sl sl2 (by simpa using hv) (by simpa using hw) (by rw[List.size_toArray,List.size_toArray];exact hsz)) ⟨ho,ho2,?_⟩
  rw[e]
  exact h2 hw
noncomputable def zX (n d:Nat):Option Int->Nat
 | none=>d
 | some v=>if v < 0 then(v+(n:Int)).toNat else min v.toNat n
end
end HT
namespace L2
open PySem PySem.Spec PyProof.Rows
noncomputable abbrev TO:=St->Hp->(Option Int->Hp->Prop)->Prop
theorem intsAre_of {ns:List Int}:∀{us:List Value},Vals (ns.map V.int) us->IntsAre us ns:=by
 induction ns with
 | nil=>intro us r;rw[List.map_nil] at r;cases r;exact .nil
 | cons n ns ih=>
  intro us r
  rw[List.map_cons] at r
  cases r with
  | cons r1 r2=>
   obtain⟨t,e⟩:=r1
   subst e
   exact .cons n t (ih r2)
section
variable {X:Cx}{e:Expr}{te:TE}{lo hi:Option Expr}{tl th:TO}{pos p2:Pos}
noncomputable def Yp (X:Cx) (r:V->Option Int->Option Int->Hp->VK->Prop):Prop:=
 ∀(pins:List (Addr×Obj)) (s:Shared) (σ:St) (H:Hp) (x:V) (v vl vu:Value) (lo hi:Option Int) (sl:Addr) (Q:VK),Inv X pins σ H s->RelV x v->s.heap.IsSliceOf sl vl vu .none->IsPart vl lo->IsPart vu hi->r x lo hi H Q->
  ∃T id,typeLookup (.type T) "__getitem__" =pure (some (.builtin id))/\s.TypeIs v T/\wpAny (model X.prog X.w) X.A (getItem v (.ref sl)) (EP X pins σ Q) X.xe s
noncomputable def G2 (xs:List V) (lo hi:Option Int):List V:=(xs.drop (HT.zX xs.length 0 lo)).take (HT.zX xs.length xs.length hi - HT.zX xs.length 0 lo)
theorem xW (xs:List V) (lo hi:Option Int):(G2 xs lo hi).length<=xs.length:=by
 unfold G2
 rw[List.length_take,List.length_drop]
 omega
noncomputable def ND (K:PySem.W.Frag):R2:=fun x y H Q=>∃a b xs ys,x= .ref a/\y= .ref b/\vU K H a xs/\vU K H b ys/\xs≠[]/\xs.length+ys.length<=sizeLine/\
 (ys=[]->Q (.ref a) H)/\(ys≠[]->∀p,H p=none->Q (.ref p) (upd H p (.tup (xs++ys))))
theorem Vals.vW {xs:List V}{us:List Value}(r:Vals xs us):us=[]↔xs=[]:=by
 cases r with
 | nil=>simp
 | cons _ _=>simp
theorem G3:vV X (binaryOp .Add) (ND X.K):=by
 intro pins s σ H x y v u Q I rx ry h
 obtain⟨a,b,xs,ys,rfl,rfl,ha,hb,hx,hz,q1,q2⟩:=h
 cases rx
 cases ry
 obtain⟨its,r1,p1,_⟩:=I.tuple ha
 obtain⟨its2,r2,p2,_⟩:=I.tuple hb
 refine HT.G1 p1 p2 (fun z=>hx (r1.vW.mp z)) (fun z=>⟨.ref a,H,I,rfl,q1 (r2.vW.mp z)⟩) (fun z=>?_) (by rw[<-r1.length,<-r2.length];exact hz)
 refine⟨.ref s.heap.objs.size,_,I.laid (t':=s.toks) (o:=.tup (xs++ys)) (fun b ob q=>Heap.get?_push_of_some _ q) (Nat.le_refl _) ?_,rfl,q2 (fun w=>z (r2.vW.mpr w)) _ (I.hok.fresh (Nat.le_refl _))⟩
 exact⟨by rw[List.length_append];exact hz,_,r1.append r2,IsTup.new _ _⟩
end
noncomputable def xA (n:Nat) (i:Int):Option Nat:=if 0<=i then(if i < n then some i.toNat else none) else if -(n:Int)<=i then some (i+n).toNat else none
noncomputable def cX {α:Type}(xs:List α) (i:Int):Option α:=(xA xs.length i).bind fun j=>xs[j]?
theorem Bg {n:Nat}{i:Int}{j:Nat}(h:xA n i=some j):seqIndex? i n=some j/\j < n/\-(n:Int)<=i/\i < n:=by
 unfold xA at h
 by_cases h0:0<=i
 ·rw[if_pos h0] at h
  by_cases h1:i < n
  ·rw[if_pos h1] at h
   have e:i.toNat=j:=Option.some.inj h
   exact⟨by rw[seqIndex_of h0 h1,e],by omega,by omega,h1⟩
  ·rw[if_neg h1] at h;cases h
 ·rw[if_neg h0] at h
  by_cases h1:-(n:Int)<=i
  ·rw[if_pos h1] at h
   have e:(i+n).toNat=j:=Option.some.inj h
   exact⟨by rw[seqIndex_neg (by omega) h1,e],by omega,h1,by omega⟩
  ·rw[if_neg h1] at h;cases h
theorem vX {α:Type}{xs:List α}{i:Int}{v:α}(h:cX xs i=some v):∃j,seqIndex? i xs.length=some j/\xs[j]? =some v/\j < xs.length/\-(xs.length:Int)<=i/\i < xs.length:=by
 unfold cX at h
 cases e:xA xs.length i with
 | none=>rw[e] at h;cases h
 | some j=>
  rw[e] at h
  obtain⟨h1,h2,h3,h4⟩:=Bg e
  exact⟨j,h1,h,h2,h3,h4⟩
theorem lJ {α:Type}{xs:List α}{j:Nat}{v:α}(h:xs[j]? =some v):cX xs (j:Int)=some v:=by
 have hj:j < xs.length:=(List.getElem?_eq_some_iff.mp h).1
 have e:xA xs.length (j:Int)=some j:=by
  unfold xA
  rw[if_pos (by omega),if_pos (by omega)];simp
 unfold cX;rw[e];exact h
noncomputable def su (b:Expr):Prop:=∀o i,subscripted b false o i=operate [o,i] (getItem o i)
noncomputable def DO (X:Cx) (r:R2):Prop:=
 ∀(value slice:Expr) (pins:List (Addr×Obj)) (s:Shared) (σ:St) (H:Hp) (x y:V) (v u:Value) (Q:VK),Inv X pins σ H s->RelV x v->RelV y u->r x y H Q->
  subscripted slice false v u=operate [v,u] (getItem v u)->wpAny (model X.prog X.w) X.A (subscriptTail value slice v u) (EP X pins σ Q) X.xe s
noncomputable def RA (X:Cx) (id:String) (r:V->List V->Hp->VK->Prop):Prop:=
 ∀(pins:List (Addr×Obj)) (s:Shared) (σ:St) (H:Hp) (x:V) (xs:List V) (v:Value) (us:List Value) (Q:VK),Inv X pins σ H s->RelV x v->Vals xs us->r x xs H Q->
  wpAny (model X.prog X.w) X.A (call (.builtin id) (v :: us)) (EP X pins σ Q) X.xe s
section
variable {X:Cx}{a b:Expr}{ta tb:TE}{pos:Pos}
theorem DO.or {r r':R2}(h:DO X r) (h':DO X r'):DO X (fun x y H Q=>r x y H Q\/r' x y H Q):=by
 intro value slice pins s σ H x y v u Q I rx ry q hs
 rcases q with q | q
 ·exact h value slice pins s σ H x y v u Q I rx ry q hs
 ·exact h' value slice pins s σ H x y v u Q I rx ry q hs
theorem Bh {r:R2}(hr:DO X r) (ha:PE X a ta) (hb:PE X b tb) (hs:su b):PE X (.Subscript a b pos) (MD r ta tb):=by
 intro pins s σ H Q I h
 exact Subscript_ (KA ha hb I h fun v u s2 x y H2 I2 rx ry q=>hr a b pins s2 σ H2 x y v u Q I2 rx ry q (hs _ _))
noncomputable def NF (K:PySem.W.Frag):R2:=fun x y H Q=>∃p xs i v,x= .ref p/\y= .int i/\oW K H p xs/\cX xs i=some v/\Q v H
noncomputable def NG (K:PySem.W.Frag):R2:=fun x y H Q=>∃p xs i v,x= .ref p/\y= .int i/\vU K H p xs/\cX xs i=some v/\Q v H
noncomputable def NH:R2:=fun x y H Q=>∃z i c,x= .str z/\y= .int i/\z.length<=sizeLine/\cX z.cps.toList i=some c/\Q (.str ⟨#[c]⟩) H
theorem vY:DO X (NF X.K):=by
 intro value slice pins s σ H x y v u Q I rx ry h hs
 obtain⟨p,xs,i,z,rfl,rfl,hq,he,q⟩:=h
 cases rx
 obtain⟨t,rfl⟩:=ry
 obtain⟨its,r,pl,hz⟩:=I.list hq
 obtain⟨j,h1,h2,h3,h4,h5⟩:=vX he
 obtain⟨w,ew,rw'⟩:=r.get h2
 have hl:=r.length
 have hn:=qm
 have fin:EP X pins σ Q w s:=⟨z,H,I,rw',q⟩
 by_cases h0:0<=i
 ·have hj:i.toNat=j:=by
   rw[seqIndex_of h0 h5] at h1
   exact Option.some.inj h1
  exact item_listR pl.isList h0 (by omega) (by rw[hj];simpa using ew) fin hs
 ·have hj:(i+(its.toArray.size:Int)).toNat=j:=by
   rw[seqIndex_neg (by omega) h4] at h1
   rw[List.size_toArray,<-hl]
   exact Option.some.inj h1
  exact subscriptTail_builtinR (x:=w) pl.isList.typeIs slot_list_getitem.lookup
   (wpAny_getItem_list_neg (Q:=fun r s'=>r=w/\EP X pins σ Q r s') pl.isList (by omega) (by rw[List.size_toArray] <;> omega) (by omega) (by rw[hj];simpa using ew) ⟨rfl,fin⟩) hs
theorem DP:DO X (NG X.K):=by
 intro value slice pins s σ H x y v u Q I rx ry h hs
 obtain⟨p,xs,i,z,rfl,rfl,hq,he,q⟩:=h
 cases rx
 obtain⟨t,rfl⟩:=ry
 obtain⟨its,r,pl,hz⟩:=I.tuple hq
 obtain⟨j,h1,h2,h3,h4,h5⟩:=vX he
 obtain⟨w,ew,rw'⟩:=r.get h2
 have hl:=r.length
 have hn:=qm
 have fin:EP X pins σ Q w s:=⟨z,H,I,rw',q⟩
 exact subscriptTail_builtinR (x:=w) pl.typeIs slot_tuple_getitem.lookup
  (getItem_tuple (j:=j) (Q:=fun r s'=>r=w/\EP X pins σ Q r s') pl (by omega) (by omega) (by rw[List.size_toArray,<-hl];exact h1) (by simpa using ew) ⟨rfl,fin⟩) hs
theorem DQ:DO X NH:=by
 intro value slice pins s σ H x y v u Q I rx ry h hs
 obtain⟨z,i,c,rfl,rfl,hz,he,q⟩:=h
 obtain⟨t,rfl⟩:=rx
 obtain⟨t',rfl⟩:=ry
 obtain⟨j,h1,h2,h3,h4,h5⟩:=vX he
 have hl:z.cps.toList.length=z.length:=by simp[Str.length]
 rw[hl] at h1 h4 h5
 have hn:=qm
 exact tail_any (typeIs_str s z t) slot_str_getitem.lookup (getItem_str (c:=c) (by
  have e1:decide (i < -(2 ^ 63:Int))=false:=decide_eq_false (by omega)
  have e2:decide (i≥2 ^ 63)=false:=decide_eq_false (by omega)
  rw[e1,e2,Bool.or_false]) (by rw[h1];simpa using h2) ⟨.str ⟨#[c]⟩,H,I.tok _,⟨_,rfl⟩,q⟩) hs
noncomputable def Yq (K:PySem.W.Frag):R2:=fun x y H Q=>NF K x y H Q\/NG K x y H Q\/NH x y H Q
theorem DR:DO X (Yq X.K):=vY.or (DP.or DQ)
theorem zY (its:List Value) (n j:Nat) (u:Value):Obj.mapSeq (·.setIfInBounds j u) {cls:=.type "list",data:=.seq its.toArray n}={cls:=.type "list",data:=.seq (its.set j u).toArray n}:=by
 simp[Obj.mapSeq]
theorem Inv.lst {pins:List (Addr×Obj)}{σ:St}{H:Hp}{s:Shared}{p:Addr}{xs:List V}(I:Inv X pins σ H s) (h:H p=some (.lst xs)):
  ∃(its:List Value) (n:Nat),Vals xs its/\s.heap.get? p=some {cls:=.type "list",data:=.seq its.toArray n}/\xs.length<=sizeLine:=by
 obtain⟨z,its,n,r,e⟩:=I.hok p _ h
 exact⟨its,n,r,e,z⟩
theorem Inv.KZ {pins:List (Addr×Obj)}{σ:St}{H:Hp}{s:Shared}{p:Addr}{xs ys:List V}{its its':List Value}{n n':Nat}{f:Obj->Obj}(I:Inv X pins σ H s) (h:H p=some (.lst xs))
  (ho:s.heap.get? p=some {cls:=.type "list",data:=.seq its.toArray n}) (hf:f {cls:=.type "list",data:=.seq its.toArray n}={cls:=.type "list",data:=.seq its'.toArray n'}) (r:Vals ys its') (hz:ys.length<=sizeLine) (t:Nat):
  Inv X pins σ (upd H p (.lst ys)) {s with heap:=s.heap.update p f,toks:=t}:=by
 have e:(s.heap.update p f).get? p=some {cls:=.type "list",data:=.seq its'.toArray n'}:=by
  rw[Heap.get?_update_self f ho (by rw[hf] <;> rfl),hf]
 refine I.write (x:=p) (e:=p) (by rw[h];trivial) (.inl rfl) (fun b u hb q=>(Heap.get?_update_other _ _ (Ne.symm hb)).trans q) ⟨_,e⟩ ?_
 exact⟨hz,its',n',r,e⟩
noncomputable def NI:V->V->V->Hp->(Hp->Prop)->Prop:=fun o i v H Q=>∃p xs k j,o= .ref p/\i= .int k/\H p=some (.lst xs)/\xA xs.length k=some j/\Q (upd H p (.lst (xs.set j v)))
theorem set_list:Nd X NI:=by
 intro pins s σ H o i v ov iv u Q I ro ri rv h
 obtain⟨p,xs,k,j,rfl,rfl,hp,hj,q⟩:=h
 cases ro
 obtain⟨t,rfl⟩:=ri
 obtain⟨its,n,r,ho,hz⟩:=I.lst hp
 obtain⟨h1,h2,h3,h4⟩:=Bg hj
 have hl:=r.length
 have hn:=qm
 have I':Inv X pins σ (upd H p (.lst (xs.set j v))) {s with heap:=s.heap.update p (Obj.mapSeq (·.setIfInBounds j u))}:=
  I.KZ hp ho (zY its n j u) (r.set rv j) (by rw[List.length_set];exact hz) s.toks
 by_cases h0:0<=k
 ·have hk:k.toNat=j:=by
   rw[seqIndex_of h0 h4] at h1
   exact Option.some.inj h1
  exact PySem.W.ki_setAt ho h0 (by omega) (by rw[List.size_toArray,<-hl];exact h4) (by rw[hk];exact⟨_,I',q⟩)
 ·have hk:(k+(its.toArray.size:Int)).toNat=j:=by
   rw[seqIndex_neg (by omega) h3] at h1
   rw[List.size_toArray,<-hl]
   exact Option.some.inj h1
  exact PySem.W.ki_setBack ho (by omega) (by rw[List.size_toArray,<-hl];exact h3) (by omega) (by rw[hk];exact⟨_,I',q⟩)
theorem vZ (lo hi:Option Int) (n:Nat):(sliceBounds lo hi none n).1=((HT.zX n 0 lo:Nat):Int)/\(sliceBounds lo hi none n).2.1=((HT.zX n n hi:Nat):Int)/\(sliceBounds lo hi none n).2.2=1:=by
 refine⟨?_,?_,rfl⟩
 ·cases lo with
  | none=>simp[sliceBounds,HT.zX]
  | some i=>
   simp only[sliceBounds,HT.zX,Option.getD_none,show(1:Int) > 0 by decide,if_true]
   by_cases h:i < 0
   ·simp only[h,if_true] <;> omega
   ·simp only[h,if_false] <;> omega
 ·cases hi with
  | none=>simp[sliceBounds,HT.zX]
  | some i=>
   simp only[sliceBounds,HT.zX,Option.getD_none,show(1:Int) > 0 by decide,if_true]
   by_cases h:i < 0
   ·simp only[h,if_true] <;> omega
   ·simp only[h,if_false] <;> omega
theorem uv (its:List Value) (lo hi:Option Int):slicePick its.toArray lo hi none=((its.drop (HT.zX its.length 0 lo)).take (HT.zX its.length its.length hi - HT.zX its.length 0 lo)).toArray:=by
 obtain⟨h1,h2,h3⟩:=vZ lo hi its.toArray.size
 unfold slicePick
 rw[h1,h2,h3]
 simp only[sliceRange_one,pick_run,List.size_toArray] <;> rfl
noncomputable def RB (K:PySem.W.Frag):V->Option Int->Option Int->Hp->VK->Prop:=fun x lo hi H Q=>∃a xs,x= .ref a/\oW K H a xs/\∀p,H p=none->Q (.ref p) (upd H p (.lst (G2 xs lo hi)))
theorem P5:Yp X (RB X.K):=by
 intro pins s σ H x v vl vu lo hi sl Q I rx hs pl pu h
 obtain⟨a,xs,rfl,hx,q⟩:=h
 cases rx
 obtain⟨its,r,ht,hz⟩:=I.list hx
 have hlen:=r.length
 refine⟨"list",_,slot_list_getitem.lookup,ht.isList.typeIs,?_⟩
 refine wpAny_getItem_list_slice ht.isList hs pl pu .none (by simp) ?_ (by rw[List.size_toArray] <;> omega)
 rw[uv,<-hlen]
 refine⟨.ref s.heap.objs.size,_,I.laid (t':=s.toks) (o:=.lst (G2 xs lo hi)) (fun b ob q=>Heap.get?_push_of_some _ q) (Nat.le_refl _) ?_,rfl,q _ (I.hok.fresh (Nat.le_refl _))⟩
 exact⟨Nat.le_trans (xW xs lo hi) hz,_,0,(r.drop (HT.zX xs.length 0 lo)).take (HT.zX xs.length xs.length hi - HT.zX xs.length 0 lo),Heap.get?_push_size _ rfl⟩
theorem lK:jk X (.builtin "len") (fun xs H Q=>∃p ys,xs=[.ref p]/\(oW X.K H p ys\/vU X.K H p ys)/\Q (.int ys.length) H):=by
 intro pins s σ H xs us Q I r h
 obtain⟨p,ys,rfl,hq,q⟩:=h
 obtain⟨u,rfl,rx⟩:=vals1 r
 cases rx
 have hn:=qm
 rcases hq with hq | hq
 ·obtain⟨its,r',pl,hz⟩:=I.list hq
  have hlen:=r'.length
  exact Calls.call_len_list pl.isList (by simp only[List.size_toArray] <;> omega) ⟨.int ys.length,H,I.tok _,⟨s.toks+1,by rw[List.size_toArray,hlen]⟩,q⟩
 ·obtain⟨its,r',pl,hz⟩:=I.tuple hq
  have hlen:=r'.length
  exact len_tuple pl (by simp only[List.size_toArray] <;> omega) ⟨.int ys.length,H,I.tok _,⟨s.toks+1,by rw[List.size_toArray,hlen]⟩,q⟩
theorem pL:jk X (.builtin "len") (fun xs H Q=>∃z,xs=[.str z]/\z.length<=sizeLine/\Q (.int z.length) H):=by
 intro pins s σ H xs us Q I r h
 obtain⟨z,rfl,hz,q⟩:=h
 obtain⟨u,rfl,t,rfl⟩:=vals1 r
 have hn:=qm
 exact len_str (by omega) ⟨.int z.length,H,I.tok _,⟨_,rfl⟩,q⟩
theorem pM:jk X (.type "list") (fun xs H Q=>∃p ys,xs=[.ref p]/\(oW X.K H p ys\/vU X.K H p ys)/\∀l,H l=none->Q (.ref l) (upd H l (.lst ys))):=by
 intro pins s σ H xs us Q I r h
 obtain⟨p,ys,rfl,hq,q⟩:=h
 obtain⟨u,rfl,rx⟩:=vals1 r
 cases rx
 have fin:∀(its:List Value),Vals ys its->ys.length<=sizeLine->∀(h':Heap) (c':Nat),(∀b o',s.heap.get? b=some o'->h'.get? b=some o')->
   h'.get? s.heap.objs.size=some {cls:=.type "list",dict:=none,data:=.seq its.toArray c',slots:=#[]}->EP X pins σ Q (.ref s.heap.objs.size) {s with heap:=h'}:=fun its r' hz h' c' kp e=>
  ⟨.ref s.heap.objs.size,_,I.laid (t':=s.toks) kp (Nat.le_refl _) (show fG X.prog X.w _ h' _ (.lst ys) from⟨hz,its,c',r',e⟩),rfl,q _ (I.hok.fresh (Nat.le_refl _))⟩
 rcases hq with hq | hq
 ·obtain⟨its,r',pl,hz⟩:=I.list hq
  have hlen:=r'.length
  obtain⟨o,ho,hc,n,hd⟩:=pl.isList
  exact call_list_seq p (.inl rfl) ho hc hd (fun h' c' kp e=>fin its r' hz h' c' kp e) (by simp only[List.size_toArray] <;> omega)
 ·obtain⟨its,r',pl,hz⟩:=I.tuple hq
  have hlen:=r'.length
  obtain⟨o,ho,hc,n,hd⟩:=pl
  exact call_list_seq p (.inr rfl) ho hc hd (fun h' c' kp e=>fin its r' hz h' c' kp e) (by simp only[List.size_toArray] <;> omega)
theorem oJ:jk X (.type "tuple") (fun xs H Q=>∃p ys,xs=[.ref p]/\((oW X.K H p ys/\∀l,H l=none->Q (.ref l) (upd H l (.tup ys)))\/(vU X.K H p ys/\Q (.ref p) H))):=by
 intro pins s σ H xs us Q I r h
 obtain⟨p,ys,rfl,h⟩:=h
 obtain⟨u,rfl,rx⟩:=vals1 r
 cases rx
 rcases h with⟨hq,q⟩ | ⟨hq,q⟩
 ·obtain⟨its,r',pl,hz⟩:=I.list hq
  have hlen:=r'.length
  refine call_tuple_list pl.isList (fun h' kp=>?_) (by simp only[List.size_toArray] <;> omega)
  have I1:Inv X pins σ H {s with heap:=h'}:=I.kept (t':=s.toks) kp
  have I2:Inv X pins σ (upd H h'.objs.size (.tup ys)) {s with heap:=h'.push {cls:=.type "tuple",data:=.seq its.toArray}}:=
   I1.laid (t':=s.toks) (fun b o e=>Heap.get?_push_of_some _ e) (Nat.le_refl _) (show fG X.prog X.w _ _ _ (.tup ys) from⟨hz,its,r',IsTup.new _ _⟩)
  exact⟨.ref h'.objs.size,_,I2,rfl,q _ (I1.hok.fresh (Nat.le_refl _))⟩
 ·obtain⟨its,r',pl,hz⟩:=I.tuple hq
  exact call_tuple_same pl ⟨.ref p,H,I,rfl,q⟩
noncomputable def W2 (K:PySem.W.Frag) (T:String) (x:V) (H:Hp):Prop:=match x with
 | .str _=>T="str"
 | .int _=>T="int"
 | .ref p=>(T="list"/\∃xs,oW K H p xs)\/(T="tuple"/\∃o,K.lookup p=some o/\o.cls= .type "tuple"/\o.dict=none)\/
   (T="dict"/\((∃kvs,H p=some (.dK kvs))\/∃kvs,H p=some (.dT kvs)))\/(T="set"/\∃S n,H p=some (.set S n))
 | _=>False
theorem K0 {pins : List (Addr × Obj)} {σ : St} {H : Hp} {s : Shared} {T : String} {x : V} {v : Value} (I : Inv X pins σ H s) (r : RelV x v) (ty : W2 X.K T x H) :
    s.TypeIs v T/\∀a,v= .ref a->∃ob,s.heap.get? a=some ob/\ob.dict=none:=by
  cases x with
  | str z=>
    obtain⟨t,rfl⟩:=r
    cases(show T="str" from ty)
    exact⟨typeIs_str s z t,fun _ e=>nomatch e⟩
  | int i=>
    obtain⟨t,rfl⟩:=r
    cases(show T="int" from ty)
    exact⟨typeIs_int s i t,fun _ e=>nomatch e⟩
  | ref p =>
    cases r
    rcases ty with⟨rfl,xs,hq⟩ | ⟨rfl,o,hk,hc,hd⟩ | ⟨rfl,hk⟩ | ⟨rfl,S,n,hk⟩
    . obtain⟨its,_,pl,_⟩:=I.list hq
      refine⟨pl.isList.typeIs,fun a e=>?_⟩
      cases e
      obtain⟨o,n,e,c,hd,_⟩:=pl
      exact⟨o,e,hd⟩
    . refine⟨⟨o,I.Dv p o hk,hc⟩,fun a e=>?_⟩
      cases e
      exact⟨o,I.Dv _ o hk,hd⟩
    . have z:∃o,s.heap.get? p=some o/\o.ExactDict:=by
        rcases hk with⟨kvs,hk⟩ | ⟨kvs,hk⟩
        . obtain⟨_,_,_,_,o,_,_,e,ex,_⟩:=I.hok p _ hk
          exact⟨o,e,ex⟩
        . obtain⟨_,_,_,_,o,_,_,e,ex,_⟩:=I.hok p _ hk
          exact⟨o,e,ex⟩
      obtain⟨o,e,ex⟩:=z
      refine⟨⟨o,e,ex.1⟩,fun a e2=>?_⟩
      cases e2
      exact⟨o,e,ex.2.1⟩
    . obtain⟨o,_,_,_,e,ex,_⟩:=I.hok p _ hk
      refine⟨⟨o,e,ex.1⟩,fun a e2=>?_⟩
      cases e2
      exact⟨o,e,ex.2.1⟩
  | _=>exact False.elim ty
noncomputable def Yr (K:PySem.W.Frag) (T:String) (r:V->List V->Hp->VK->Prop) (to:TE) (t:TA):TE:=fun σ H Q=>to σ H fun x H1=>W2 K T x H1/\t σ H1 fun xs H2=>r x xs H2 Q
variable {o e:Expr}{es:List Expr}{to:TE}{t:TA}{name:Str}{apos cpos:Pos}{T id:String}{r:V->List V->Hp->VK->Prop}
theorem Js (pa:PlainAttrs T) (slot:Slot T name id) (hty:typeOf (.builtin id)=pure (.type "method_descriptor")) (hm:RA X id r) (ho:PE X o to) (ha:PA X (e :: es) t)
  (hbase:attributeBase o name X.env (eval o X.env)=eval o X.env:=by rfl)
  (hfew:((backTo cpos (starEach (e :: es) X.env)).all (fun x=>!x.1) && (backToKw cpos (keywordEach [] X.env)).all (fun x=>x.1.isSome)
   && decide ((e :: es).length+([]:List Keyword).length+(if([]:List Keyword).isEmpty then 0 else 1) < 30))=true:=by rfl)
  (hline:(apos.endLine == cpos.line)=true:=by rfl) (hs:starEach (e :: es) X.env=(false,eval e X.env) :: starEach es X.env:=by rfl) (hplain:(backTo cpos (starEach es X.env)).any (·.1)=false:=by rfl):
  PE X (.Call (.Attribute o name apos) (e :: es) [] cpos) (Yr X.K T r to t):=by
 intro pins s σ H Q I h
 refine wpAny_Call_method_late hbase hfew hline rfl (fK (ho pins s σ H _ I h) fun v s1 ⟨x,H1,I1,r1,ty,q1⟩=>?_)
 obtain⟨h1,h2⟩:=K0 I1 r1 ty
 refine⟨T,id,pa,slot,hty,h1,h2,?_⟩
 have hA:=ha cpos pins s1 σ H1 _ I1 q1
 rw[hs] at hA ⊢
 refine Calls.callWith_builtin (by show(false || (backTo cpos (starEach es X.env)).any (·.1))=false;rw[hplain] <;> rfl) (Calls.evalArgs_plain ?_)
 exact fK hA fun us s2 ⟨vs,H2,I2,r2,q2⟩=>hm pins s2 σ H2 x vs v us Q I2 r1 r2 q2
end
noncomputable def Ys (X:Cx) (id:String) (r:V->List V->Hp->VK->Prop):Prop:=
 ∀(pins:List (Addr×Obj)) (s:Shared) (σ:St) (H:Hp) (x:V) (xs:List V) (v:Value) (us:List Value) (Q:VK),Inv X pins σ H s->RelV x v->Vals xs us->r x xs H Q->
  wpAny (model X.prog X.w) X.A (call (.builtin id) (v :: us)) (EP X pins σ Q) X.xe s
theorem Vals.one:∀{x:V}{us:List Value},Vals [x] us->∃u,us=[u]/\RelV x u
 | _,_,.cons r .nil=>⟨_,rfl,r⟩
theorem Vals.two:∀{x y:V}{us:List Value},Vals [x,y] us->∃u v,us=[u,v]/\RelV x u/\RelV y v
 | _,_,_,.cons r (.cons q .nil)=>⟨_,_,rfl,r,q⟩
theorem Vals.dropLast {xs:List V}{us:List Value}(h:Vals xs us):Vals xs.dropLast us.dropLast:=by
 induction h with
 | nil=>exact .nil
 | cons r t ih=>
  cases t with
  | nil=>exact .nil
  | cons q t'=>exact .cons r ih
section
variable {X:Cx}{pins:List (Addr×Obj)}{σ:St}{H:Hp}{s:Shared}{l b:Addr}{xs ys zs:List V}
theorem Inv.NJ {its its':List Value}{n:Nat}{f:Array Value->Array Value}{t':Nat}(I:Inv X pins σ H s) (hH:H l=some (.lst xs))
  (e:s.heap.get? l=some {cls:=.type "list",data:=.seq its.toArray n}) (hf:f its.toArray=its'.toArray) (hv:Vals ys its') (hz:ys.length<=sizeLine):
  Inv X pins σ (upd H l (.lst ys)) {s with heap:=s.heap.update l (Obj.mapSeq f),toks:=t'}:=by
 have q:=PySem.IsL.update e f
 rw[hf] at q
 refine I.write (x:=l) (e:=l) (by rw[hH];exact trivial) (.inl rfl) (fun b' u hb hu=>(Heap.get?_update_other s.heap (Obj.mapSeq f) (Ne.symm hb)).trans hu) ⟨_,q⟩ ?_
 exact⟨hz,its',_,hv,q⟩
theorem Inv.RC {its:List Value}{t':Nat}(I:Inv X pins σ H s) (hv:Vals ys its) (hz:ys.length<=sizeLine):
  Inv X pins σ (upd H s.heap.objs.size (.lst ys)) {s with heap:=s.heap.push {cls:=.type "list",data:=.seq its.toArray},toks:=t'}:=
 I.laid (fun _ _ q=>Heap.get?_push_of_some _ q) (Nat.le_refl _) ⟨hz,its,0,hv,Heap.get?_push_size _ rfl⟩
theorem Inv.fresh (I:Inv X pins σ H s):H s.heap.objs.size=none:=I.hok.fresh (Nat.le_refl _)
theorem Inv.Cy (I:Inv X pins σ H s) (hH:H l=some (.lst xs)):xs.length<=sizeLine/\∃(its:List Value) (n:Nat),Vals xs its/\xs.length=its.length/\s.heap.get? l=some {cls:=.type "list",data:=.seq its.toArray n}:=by
 obtain⟨z,its,n,r,e⟩:=I.hok l _ hH
 exact⟨z,its,n,r,r.length,e⟩
theorem DS {n:Nat}(h:n<=sizeLine):Builtin.List.listTooLong n=false:=by
 unfold Builtin.List.listTooLong
 exact decide_eq_false (by omega)
end
section
variable {X:Cx}
noncomputable def Bj:V->List V->Hp->VK->Prop:=fun x vs H Q=>∃l xs y,x= .ref l/\vs=[y]/\H l=some (.lst xs)/\xs.length < sizeLine/\Q .dh (upd H l (.lst (xs++[y])))
theorem dj:Ys X "list.append" Bj:=by
 intro pins s σ H x vs v us Q I rx rv h
 obtain⟨l,xs,y,rfl,rfl,hH,hz,q⟩:=h
 cases rx
 obtain⟨u,rfl,ru⟩:=rv.one
 obtain⟨z,its,n,r,hl,e⟩:=I.Cy hH
 refine call_meets F.slot_list_append ⟨_,e,rfl⟩ F.entry_list_append (F.args_list_append_2 _ _) (PySem.list_append l its.toArray n u (by rw[List.size_toArray];omega)) ⟨e,?_⟩
 refine⟨.dh,_,I.NJ (its':=its++[u]) hH e (by simp) (r.append (.cons ru .nil)) ?_,rfl,q⟩
 rw[List.length_append,List.length_singleton]
 omega
end
section
variable {prog:Program}{w:World}{A:Around}{E:Value->Shared->Prop}{s:Shared}
end
section
variable {X:Cx}
end
end L2
namespace W3
open PySem PySem.W PySem.Calls PyProof.Rows
theorem rR {P:Params}{h:Heap}:∀(ns:List Int) (vs:List Value),WellAll P h vs (ns.map WData.int)->IntsAre vs ns:=by
 intro ns
 induction ns with
 | nil=>
  intro vs w
  rw[List.map_nil] at w
  cases w
  exact .nil
 | cons n ns ih=>
  intro vs w
  rw[List.map_cons] at w
  cases w with
  | cons a b=>
   cases a
   exact .cons _ _ (ih _ b)
theorem Cz {l:OpenLaw}{n:Nat}(hn:l.most=some n){P:Params}{h:Heap}{args:List WData}{vals:List Value}
  (hpre:l.row.toRowW.claim.pre args=true) (hwl:WellAll P h vals args):
  ∃a vs ns,vals=[Value.ref a]/\args=[WData.list (ns.map WData.int)]/\h.get? a=some {cls:=.type "list",data:=.seq vs.toArray}/\IntsAre vs ns/\ns.length<=n:=by
 have hsh:WShape.hasAll [] args [.list .int]=true:=(pre_splitW hpre).1
 have hc:l.pre.holds [] {args:=args}=true:=(pre_splitW hpre).2
 obtain⟨d,r,rfl,h1,h2⟩:=hasAllW_cons hsh
 obtain rfl:=hasAllW_nil h2
 obtain⟨xs,rfl,h3⟩:=hasW_list h1
 obtain⟨ns,rfl⟩:=items_int h3
 have hlen:ns.length<=n:=by
  unfold OpenLaw.pre at hc
  have h4:(WTm.not (.lt (.lit (.int (n:Int))) (.len (.arg 0)))).holds [] {args:=[.list (ns.map .int)]}=true:=by
   have h4:=(holds_andW hc).1
   rw[hn] at h4
   exact h4
  have h5:=condW_of h4 (w_not (w_lt w_lit (w_len_list (w_arg rfl))))
  rw[List.length_map] at h5
  refine Nat.le_of_not_lt fun q=>?_
  have q':(n:Int) < ((ns.length:Nat):Int):=by omega
  first
   | (rw[decide_eq_true q'] at h5;exact absurd h5 (by decide))
   | (simp at h5;omega)
 cases hwl with
 | cons w1 w2=>
  cases w2
  cases w1 with
  | list ho hall=>exact⟨_,_,ns,rfl,rfl,ho,rR ns _ hall,hlen⟩
theorem CA (l:OpenLaw) (args:List WData):l.row.toRowW.claim.post args (.bool true) args=true:=
 postW_of (r:=l.row.toRowW) (X:=(true == true))
  (show WShape.has [] (.bool true) .bool=true by first | rfl | decide | simp[WShape.has,WShape.arms,WShape.armsAll])
  (show(WTm.eq .res (.lit (.bool true))).value [] {args:=args,res:=some (.bool true),after:=args}=some (.bool (true == true)) from w_eq_bool (w_res rfl) w_lit) rfl
theorem xX {l:OpenLaw}{n:Nat}{q:Program}{loose:List Str}{XP:(Str->Option Value)->Heap->Prop}{YP:World->Heap->Prop}{d:DefRec}
  (hn:l.most=some n) (hdf:d.params.defaults=[])
  (call:∀(w:World) (s₀ s₁:Shared) (mg mb:Str->Option Value) (fa:Addr) (o:Obj) (pm cd doc:Value) (a:Addr) (vs:List Value) (ns:List Int),
   Ground q loose [] XP w s₀ mg mb s₁.heap->YP w s₁.heap->
   s₁.heap.get? fa=some o->o.data= .func (docDef d.name d.params d.body d.scope pm cd doc)->s₁.heap.CodeRec cd d.name->mg d.name=some (.ref fa)->
   s₁.heap.get? a=some {cls:=.type "list",data:=.seq vs.toArray}->IntsAre vs ns->ns.length<=n->s₁.gens=#[]->
   codeAny (model l.prog w) callerA (.call (.ref fa) ⟨[.ref a],[]⟩) (fun r s'=>r= .ok (.ret (.bool true))/\OldK s₁.heap s'.heap/\s'.os=s₁.os/\AllBare s'.gens) s₁):
  WalkO q loose XP YP l.row.toRowW d [] (fun f vs=>PySem.call f vs):=by
 intro w s₀ s₁ mg mb G Y fa o pm cd doc dV kV ho hd hcd hD hmg hg args vals as hpre hlay hrd hwl hlo
 obtain rfl:dV= .none:=Dflts.none hD hdf
 obtain rfl:kV= .none:=Dflts.noKw hD
 obtain⟨a,vs,ns,rfl,rfl,hobj,hints,hlen⟩:=Cz hn hpre hwl
 refine enter_call (codeAny_mono (call w s₀ s₁ mg mb fa o pm cd doc a vs ns G Y ho (fd_plain hd) hcd hmg hobj hints hlen hg) fun r s' hq=>?_)
 obtain⟨rfl,h2,h3,h4⟩:=hq
 exact⟨.inl ⟨.bool true,.bool true,[],rfl,fun _=>rfl,.bool true,CA l _,fun _=>⟨List.Pairwise.nil,fun _ hm=>(nomatch hm)⟩⟩,h2,h3,h4⟩
section
variable {prog:Program}{w:World}{A:Around}{E:Value->Shared->Prop}{s:Shared}{K:Frag}
end
end W3
namespace L2
open PySem PySem.Spec PyProof.Rows
theorem uY:∀{vs:List Value}{ns:List Int},IntsAre vs ns->Vals (ns.map V.int) vs
 | _,_,.nil=>.nil
 | _,_,.cons n t h=>.cons ⟨t,rfl⟩ (uY h)
noncomputable def G4 (H:Hp):Prop:=∀b,H b=none\/∃o xs,H b=some (.jA o (.lst xs))
theorem DT {P : Program} {w : World} {K : PySem.W.Frag} {mg mb : Str -> Option Value} {CX : Dm} {k : Nat} {fa a : Addr} {fd : FuncData} {x : Str} {sp : Sp} {s₁ : Shared} {vs : List Value} {ns : List Int}
    (KX:K.In s₁.heap) (hns:s₁.heap.Ns mainGlobals mg) (hb:s₁.heap.Ns builtinsNs mb) (Yt:∀x:Str,x≠"__name__"->mb x=bootBuiltins x) (hlim:s₁.heap.NoLimit) (hg:s₁.gens=#[])
    (ha:s₁.heap.get? a=some {cls:=.type "list",data:=.seq vs.toArray}) (hi:IntsAre vs ns) (hl:ns.length<=sizeLine) (hr:kQ k callerA)
    (F:∀base:Heap,K.In base->base.Ns mainGlobals mg->cF P w K mg base CX k fa fd [x] sp) (hbind:∀(s:Shared) (u:Value),BindsTo s fd ⟨[u],[]⟩ [(x,u)])
    (Jm:∀H:Hp,G4 H->oW K H a (ns.map V.int)->sp [.ref a] H (fun v _=>v= .bl true) fun _ _ _=>False)
    (RE:∀H e s',CX [] H s₁ (fun _ _ _=>False) e s'->False):
    codeAny (model P w) callerA (.call (.ref fa) ⟨[.ref a],[]⟩) (fun r s'=>r= .ok (.ret (.bool true))/\OldK s₁.heap s'.heap/\s'.os=s₁.os/\AllBare s'.gens) s₁:=by
  have rv:=uY hi
  have lenV:=hi.length
  have core : ∀ H : Hp, G4 H -> oW K H a (ns.map V.int) -> mF P w H s₁.heap -> (∀ b, H b ≠ none -> b = a) -> (H a ≠ none -> K.lookup a = none) ->
      codeAny (model P w) callerA (.call (.ref fa) ⟨[.ref a],[]⟩) (fun r s'=>r= .ok (.ret (.bool true))/\OldK s₁.heap s'.heap/\s'.os=s₁.os/\AllBare s'.gens) s₁:=by
    intro H hO hS hok hA hK
    have Bk:∀{b:Addr}{o:Obj},s₁.heap.get? b=some o->H b=none->(vQ s₁.heap H).get? b=some o:=fun e n=>Du e n
    have Nt:∀{b:Addr}{o:Obj}{es:Array DictEntry}{ep:Nat},s₁.heap.get? b=some o->o.data= .dict es ep->H b=none:=fun {b o es ep} e d=>by
      cases q:H b with
      | none=>rfl
      | some u=>
        have e':b=a:=hA b (by rw[q];simp)
        subst e'
        rw[ha] at e;cases e
        have d':Data.seq vs.toArray _=Data.dict es ep:=d
        cases d'
    have P6:∀{b:Addr}{m:Str->Option Value},s₁.heap.Ns b m->(vQ s₁.heap H).Ns b m:=fun {b m} ⟨o,es,ep,e,d,r⟩=>⟨o,es,ep,Bk e (Nt e d),d,r⟩
    have W4:K.In (vQ s₁.heap H):=fun b o e=>Bk (KX b o e) (by
      cases q:H b with
      | none=>rfl
      | some u=>
        have e':b=a:=hA b (by rw[q];simp)
        subst e'
        rw[hK (by rw[q];simp)] at e;cases e)
    have hM:Mod K mg (vQ s₁.heap H):=⟨W4,P6 hns,⟨mb,P6 hb,Yt⟩,let⟨mc,h1,h2⟩:=hlim;⟨mc,P6 h1,h2⟩⟩
    have e0:GR P w K mg (vQ s₁.heap H) callerA [] s₁ H:=⟨rfl,hM,fun b o e=>Gz e,Nat.le_of_eq (Cm _ _),trivial,fun b hb=>absurd (show b∈([]:List Addr) from hb) (by simp),hok,.of_eq hg⟩
    refine codeAny_mono ((F _ W4 (P6 hns)).run callerA [] s₁ H ⟨[.ref a],[]⟩ [.ref a] [.ref a] _ _ hr e0 (hbind s₁ (.ref a)) (.cons rfl .nil) (Jm H hO hS)) fun r s' h=>?_
    cases r with
    | error e=>exact(RE H e s' h).elim
    | ok fl =>
      cases fl with
      | next=>exact False.elim h
      | brk=>exact False.elim h
      | cont=>exact False.elim h
      | ret u =>
        obtain⟨v,H',os,bare,un,RG,r',q⟩:=h
        have q':v= .bl true:=q
        subst q'
        obtain rfl:u=Value.bool true:=r'
        refine⟨rfl,OldK.of_keep fun b o e=>?_,os,bare⟩
        cases q:H b with
        | none=>exact un.keep b o e q (by intro z;exact absurd (show b∈([]:List Addr) from z) (by simp)) (by simp)
        | some u=>
          rcases hO b with z | ⟨ob,xs,z⟩
          . rw[q] at z;cases z
          . have z2:=un.sI b ob _ z
            obtain⟨e1,_⟩:=hok b _ z
            obtain⟨e2,_⟩:=RG b _ z2
            rw[e] at e1;cases e1
            exact e2
  cases hk:K.lookup a with
  | some o=>
    have e:=KX a o hk
    rw[ha] at e
    cases e
    refine core (fun _=>none) (fun _=>.inl rfl) (.inr ⟨_,vs.toArray,_,hk,rfl,rfl,rfl,by rw[List.size_toArray,lenV];exact hl,by simpa using rv⟩) (fun b u z=>by have z':(none:Option HO)=some u:=z;cases z') (fun b z=>absurd rfl z) fun z=>absurd rfl z
  | none=>
    refine core (fun b=>if b=a then some (.jA {cls:=.type "list",data:=.seq vs.toArray} (.lst (ns.map V.int))) else none) (fun b=>?_) (.inl (.inr ⟨{cls:=.type "list",data:=.seq vs.toArray},if_pos rfl⟩)) (fun b u z=>?_) (fun b z=>?_) fun _=>hk
    . by_cases hb:b=a
      . exact .inr ⟨_,_,if_pos hb⟩
      . exact .inl (if_neg hb)
    . by_cases hb:b=a
      . have z':=(if_pos hb).symm.trans z
        cases z'
        subst hb
        exact⟨ha,by rw[List.length_map];exact hl,vs,_,rv,ha⟩
      . have z':=(if_neg hb).symm.trans z
        cases z'
    . by_cases hb:b=a
      . exact hb
      . exact absurd (if_neg hb) z
noncomputable abbrev KOf {K:PySem.W.Frag}{h:Heap}(_:K.In h):PySem.W.Frag:=K
theorem G5 {l : PySem.W.OpenLaw} {n k : Nat} {q : Program} {loose : List Str} {XP : (Str -> Option Value) -> Heap -> Prop} {YP : World -> Heap -> Prop} {d : DefRec} {K : Params -> PySem.W.Frag} {CX : World -> Dm} {sp : World -> Sp} {x : Str}
    (hn:l.most=some n) (hn2:n<=sizeLine) (hdf:d.params.defaults=[]) (hr:kQ k callerA)
    (hY:∀(w:World) (h:Heap),YP w h->(K w.params).In h)
    (F:∀(w:World) (mg:Str->Option Value) (fa:Addr) (h:Heap),(K w.params).In h->h.Ns mainGlobals mg->mg d.name=some (.ref fa)->
      ∃fd:FuncData,(∀(s:Shared) (u:Value),BindsTo s fd ⟨[u],[]⟩ [(x,u)])/\
        ∀base:Heap,(K w.params).In base->base.Ns mainGlobals mg->cF l.prog w (K w.params) mg base (CX w) k fa fd [x] (sp w))
    (Jm:∀(w:World) (H:Hp) (a:Addr) (ns:List Int),ns.length<=n->G4 H->oW (K w.params) H a (ns.map V.int)->sp w [.ref a] H (fun v _=>v= .bl true) fun _ _ _=>False)
    (RE:∀(w:World) (H:Hp) (s:Shared) (e:Value) (s':Shared),CX w [] H s (fun _ _ _=>False) e s'->False):
    PySem.W.WalkO q loose XP YP l.row.toRowW d [] (fun f vs=>PySem.call f vs):=by
  refine W3.xX hn hdf fun w s₀ s₁ mg mb fa o pm cd doc a vs ns G Y ho hd hcd hmg hobj hints hlen hg=>?_
  have KX:=hY w _ Y
  obtain⟨fd,hb,hF⟩:=F w mg fa _ KX G.T.g hmg
  exact DT KX G.T.g G.T.b G.T.builtins G.T.nolimit hg hobj hints (Nat.le_trans hlen hn2) hr hF hb (fun H hO hS=>Jm w H a ns hlen hO hS) fun H e s'=>RE w H s₁ e s'
noncomputable def bV (s:Stmt):Arguments:=match s with
 | .FunctionDef _ a _ _ _ _ _ _ _ _=>a
 | _=>{posonlyargs:=[],args:=[],vararg:=none,kwonlyargs:=[],kw_defaults:=[],kwarg:=none,defaults:=[]}
noncomputable def bQ (s:Stmt):List Stmt:=match s with
 | .FunctionDef _ _ b _ _ _ _ _ _ _=>b
 | _=>[]
noncomputable def aJ (s:Stmt):Scope:=match s with
 | .FunctionDef _ _ _ _ _ _ sc _ _ _=>sc
 | _=>{kind:=.function,names:=[],isGenerator:=false,isCoroutine:=false}
noncomputable abbrev jB:Dm:=fun _ _ _ _ _ _=>False
noncomputable abbrev E0:XK:=fun _ _ _=>False
theorem NK {X:Cx}:Passes jB X E0:=fun _ _ _ _ _ _ _ h=>h.elim
structure qW (K:PySem.W.Frag) (x qual:Str) (st:Stmt) (f:Addr) (fd:FuncData):Prop where
 ex:∃(oc:Value) (od:Option Addr) (kV doc pm:Value) (an:Option Addr) (cdv ct:Value) (osl:Array (Option Value)),
  fd=PySem.W.fnOf x qual (bV st) (bQ st) (aJ st) .none kV doc pm an cdv ct/\K.lookup f=some ⟨oc,od,.func fd,osl⟩/\PySem.W.codeIn K cdv qual=true
 kp:PySem.W.keepIn K (.ref f)=true
section
variable {P:Program}{w:World}{K:PySem.W.Frag}{mg:Str->Option Value}{base:Heap}
theorem qW.ok {x qual:Str}{st:Stmt}{f:Addr}{fd:FuncData}{N ps:List Str}{k:Nat}{sp:Sp}(F:qW K x qual st f fd) (S:cj N ps (aJ st)) (len:∀vs H Q E,sp vs H Q E->vs.length=ps.length)
  (hbody:∀(cdv:Value) (A:Around) (outer:List Env) (s:Shared) (H:Hp) (vs:List V) (Q:VK) (E:XK),kQ k (A.deeper (envOfC qual (aJ st) s.heap.objs.size f cdv))->sp vs H Q E->
   ∃t,xM (zU jB P w K mg base N qual (aJ st) f cdv A outer s H E).M9 (bQ st) t/\t {nx:=fun _ H'=>Q .dh H',rt:=Q} (start N vs) H):cF P w K mg base jB (k+1) f fd ps sp:=by
 obtain⟨oc,od,kV,doc,pm,an,cdv,ct,osl,rfl,lk,hcd⟩:=F.ex
 refine Nu lk hcd S len fun A outer s H vs Q E hr Jm=>?_
 obtain⟨t,h,q⟩:=hbody cdv A outer s H vs Q E hr Jm
 exact⟨t,h.M9,q⟩
theorem qW.binds {x qual:Str}{st:Stmt}{f:Addr}{fd:FuncData}{ps:List Str}(F:qW K x qual st f fd)
  (h:∀(kV doc pm:Value) (an:Option Addr) (cdv ct:Value) (us:List Value),us.length=ps.length->bindArgs (PySem.W.fnOf x qual (bV st) (bQ st) (aJ st) .none kV doc pm an cdv ct) ⟨us,[]⟩=pure (ps.zip us)):Binds K fd ps []:=by
 obtain⟨oc,od,kV,doc,pm,an,cdv,ct,osl,rfl,lk,hcd⟩:=F.ex
 exact .all (h kV doc pm an cdv ct)
theorem fh {x qual:Str}{st:Stmt}{f:Addr}{oc:Value}{od an:Option Addr}{osl:Array (Option Value)}{kV doc pm cdv ct:Value}(l:K.lookup f=some ⟨oc,od,.func (PySem.W.fnOf x qual (bV st) (bQ st) (aJ st) .none kV doc pm an cdv ct),osl⟩)
  (c:PySem.W.codeIn K cdv qual=true) (k:PySem.W.keepIn K (.ref f)=true):qW K x qual st f (PySem.W.fnOf x qual (bV st) (bQ st) (aJ st) .none kV doc pm an cdv ct):=⟨⟨oc,od,kV,doc,pm,an,cdv,ct,osl,rfl,l,c⟩,k⟩
end
theorem aQ {A:Around}{k:Nat}(hr:kQ k A):A.units+20 < cLine:=Nat.lt_of_le_of_lt (Nat.add_le_add_left (by decide:20<=64) _) hr.units
section
variable {X:Cx}
theorem CB:jk X (.builtin "len") (fun xs H Q=>∃a kvs,xs=[V.ref a]/\H a=some (.dK kvs)/\Q (.int kvs.length) H):=by
 intro pins s σ H xs us Q I r h
 obtain⟨a,kvs,rfl,ha,q⟩:=h
 obtain⟨u,rfl,ru⟩:=vals1 r
 cases ru
 exact Nv I (.inl ha) fun t s' I'=>⟨.int kvs.length,H,I',⟨t,rfl⟩,q⟩
end
theorem xY {A B:Prop}(h:B):if false=true then A else B:=by
 rw[if_neg Bool.false_ne_true]
 exact h
theorem xZ {A B:Prop}(h:A):if true=true then A else B:=by
 rw[if_pos rfl]
 exact h
section
variable {κ:Type} [DecidableEq κ]
end
theorem mF.Jt {P:Program}{w:World}{H:Hp}{h:Heap}{a:Addr}{o:HO}(x:mF P w H h) (hn:H a=none) (new:fG P w (upd H a o) h a o):mF P w (upd H a o) h:=fun b u e=>by
 by_cases hb:b=a
 ·subst hb;rw[aV] at e;cases e;exact new
 ·rw[aE hb] at e
  exact(x b u e).stay (fun c v _ q=>q) (fun c q=>by rw[aE (bu q hn)];exact q) fun c xs q=>by rw[aE (bu q hn)];exact q
noncomputable def cJ (X:Cx) (N':List Str) (scope:Scope) (cl:List (Str×Addr)) (C:Addr) (s:Shared) (H:Hp) (fp:List Addr):Cx:=
 {X with N:=N',s₀:=s,H₀:=H,env:=compEnvC scope cl C X.env,outer:=X.stack,stack:=X.stack,ex:=fp,fn:=fun _=>false,pn:=[],xe:=fun _ _=>False}
noncomputable def bS (cap:List Nat) (σ:St):St:=cap.map fun i=>(σ[i]?).join
structure iF (X:Cx) (x:Str) (bJ:List Str) (cap:List Nat) (scope:Scope) (cl:List (Str×Addr)):Prop where
 clos:closureFor scope X.env=pure cl
 mS:∀y∈scope.names,y.2≠.cell
 kind:scope.kind= .function
 names:∀y∈scope.names,y.2= .local->scope.names.lookup y.1=some .local
 loc:scope.names.lookup x=some .local
 cells:∀n c,cl.lookup n=some c->X.env.cells.lookup n=some c
 has:∀n,((relabel scope X.env).names.lookup n=some .cell\/(relabel scope X.env).names.lookup n=some .free)->∃c,cl.lookup n=some c
 nd:(x :: bJ).Nodup
 len:cap.length=bJ.length
 slot:∀(j:Nat) n,bJ[j]? =some n->∃i:Nat,cap[j]? =some i/\X.N[i]? =some n/\Dl X.env.scope n
 vis:∀n,n∈bJ->((relabel scope X.env).names.lookup n=some .cell\/(relabel scope X.env).names.lookup n=some .free)/\(∃c,cl.lookup n=some c)/\X.env.scope.names.lookup n≠some .local
noncomputable def P7 (wi:TI) (cap:List Nat) (tc:TT) (te:TE):TE:=fun σ H Q=>wi σ H fun J H1=>∃W:Nat->Nat->List V->Hp->Prop,(∃m,W 0 m [] H1)/\∀i m ys H,W i m ys H->ys.length < sizeLine/\
  ((J.stop i H/\∀p,H p=none->Q (.ref p) (upd H p (.lst ys)))\/
   (J.go i H/\∀x H',J.MC i H x H'->tc (some x :: bS cap σ) H' fun b H2=>if b=true then te (some x :: bS cap σ) H2 fun y H3=>∃m',m' < m/\W (i+1) m' (ys++[y]) H3 else ∃m',m' < m/\W (i+1) m' ys H2))
noncomputable def NN:TT:=fun _ H Q=>Q true H
noncomputable def G6 (X:Cx) (ifs:List Expr) (tc:TT):Prop:=
 ∀(pins:List (Addr×Obj)) (s:Shared) (σ:St) (H:Hp) (Q:Bool->Hp->Prop),Inv X pins σ H s->tc σ H Q->
  wpAny (model X.prog X.w) X.A (forIn ifs true fun c r=>if r=true then do let ok <-isTrue c X.env (eval c X.env);pure (ForInStep.yield ok) else pure (ForInStep.yield r)) (TP X pins σ Q) X.xe s
theorem Bl {X:Cx}:G6 X [] NN:=fun pins s σ H Q I h=>wpAny_tests_nil ⟨H,I,h⟩
theorem DU (ys:List Value) (y:Value):({cls:=.type "list",data:=.seq (ys.toArray.push y) (ys.length+1)}:Obj)={cls:=.type "list",data:=.seq (ys++[y]).toArray (ys++[y]).length}:=by
 rw[List.length_append,List.length_singleton,List.push_toArray]
theorem DV {X : Cx} {pins : List (Addr × Obj)} {σ : St} {H : Hp} {s s4 : Shared} {x : Str} {bJ : List Str} {cap : List Nat} {scope : Scope} {cl : List (Str × Addr)} {C : Addr} {fp : List Addr} {m' : Str -> Option Value}
    (I:Inv X pins σ H s) (T:iF X x bJ cap scope cl) (hfp:∀b∈fp,mz X pins H b) (hfo:∀b∈fp,∃o,s.heap.get? b=some o)
    (hC:s.heap.objs.size<=C) (hns:s4.heap.Ns C m') (hos:s4.os=s.os) (hg:s4.gens=s.gens)
    (kept:∀b o,s.heap.get? b=some o->s4.heap.get? b=some o):
    Inv (cJ X (x :: bJ) scope cl C s H fp) [] (none :: bS cap σ) H s4:=by
  have fr:∀b,s.heap.objs.size<=b->H b=none:=fun b hb=>I.hok.fresh hb
  refine⟨⟨I.ok.mod,T.kind,I.ok.glob,I.ok.blt,hC,fun y z c h1 h2=>I.ok.inj y z c (T.cells _ _ h1) (T.cells _ _ h2),fun y hy=>T.has y hy,fun y c h=>(by cases h),I.ok.hd,I.ok.frames,.inl rfl,fun b hb=>⟨?_,fun y c e z=>?_⟩,I.bs,Nat.le_trans I.ok.Gp I.sz,fun b o e hb=>?_,fun b hb z=>?_,I.stack,I.vR⟩,
    hos,by rw[hg];exact I.bare,Un.kept kept,⟨m',hns,fun i y v h1 h2 h3=>?_⟩,fun y c h=>?_,fr C hC,fun y c h=>I.mJ y c (T.cells _ _ h),fun p hp=>?_,I.hok.kept kept,?_⟩
  . obtain⟨o,e⟩:=hfo b hb
    exact Nat.ne_of_lt (Nat.lt_of_lt_of_le (Heap.lt_size e) hC)
  . exact(hfp b hb).2.2.2.2.1 y c (T.cells _ _ e) z
  . rcases(hfp b hb).2.2.2.1 with z | z
    . exact I.ok.Co b o e z
    . exact absurd (Nat.lt_of_lt_of_le (Heap.lt_size e) (Nat.le_trans I.ok.Gp z)) (Nat.lt_irrefl _)
  . rcases List.mem_cons.mp (I.qk b z) with q | q
    . exact(hfp b hb).2.1 q
    . exact(hfp b hb).2.2.1 q
  . cases i with
    | zero=>cases h2
    | succ j=>
      have h1:bJ[j]? =some y:=by simpa[cJ] using h1
      have h2:(bS cap σ)[j]? =some (some v):=by simpa using h2
      obtain⟨i,e1,e2,e3⟩:=T.slot j y h1
      have e4:σ[i]? =some (some v):=by
        unfold bS at h2
        rw[List.getElem?_map,e1] at h2
        have h2:some ((σ[i]?).join)=some (some v):=h2
        have h2:=Option.some.inj h2
        cases q:σ[i]? with
        | none=>rw[q] at h2;cases h2
        | some o=>rw[q] at h2;cases h2;rfl
      obtain⟨m,hn,hl⟩:=I.loc
      obtain⟨u,r,l⟩:=hl i y v e2 e4 e3
      obtain⟨k1,⟨c,hc⟩,k3⟩:=T.vis y (List.mem_of_getElem? h1)
      refine⟨u,r,.inr ⟨k1,c,hc,?_⟩⟩
      rcases l with⟨hk,_⟩ | ⟨hk,c',hc',z⟩
      . exact absurd hk k3
      . rw[T.cells _ _ hc] at hc'
        cases hc'
        obtain⟨o,ho,hd⟩:=z
        exact⟨o,kept _ _ ho,hd⟩
  . obtain⟨v,o,ho,hd⟩:=I.cell y c (T.cells _ _ h)
    exact⟨v,o,kept _ _ ho,hd⟩
  . exact absurd (show p∈([]:List (Addr×Obj)) from hp) (by simp)
  . show(none :: bS cap σ).length=(x :: bJ).length
    simp[bS,T.len]
theorem DW {α:Type}{M:Model}{A:Around}{E E':Value->Shared->Prop}{s:Shared}{t:Sem α}{Q:Unit->Shared->Prop}{Q':α->Shared->Prop}(h:wpAny M A (pure ():Sem Unit) Q E s) (k:Q () s->wpAny M A t Q' E' s):wpAny M A t Q' E' s:=
 fun Γ p hΓ=>k (h Γ p hΓ) Γ p hΓ
theorem sQ {X:Cx}{elt iter:Expr}{ifs:List Expr}{x:Str}{px pos:Pos}{scope:Scope}{cl:List (Str×Addr)}{bJ:List Str}{cap:List Nat}{wi:TI}{tc:TT}{te:TE}{pins:List (Addr×Obj)}{s:Shared}{σ:St}{H:Hp}{Q:VK}{use:Option (Value->Sem Unit)}{Qf:Value->Shared->Prop}{pos2:Pos}
    (T:iF X x bJ cap scope cl) (hc:X.calm=true) (hi:PI X (.Name x px) iter wi)
    (ht:∀C s H fp,G6 (cJ X (x :: bJ) scope cl C s H fp) ifs tc) (he:∀C s H fp,PE (cJ X (x :: bJ) scope cl C s H fp) elt te)
    (hs:∀x,foldedSetIterable iter X.env x=pure x) (I:Inv X pins σ H s) (h:P7 wi cap tc te σ H Q)
    (hend:∀(D C:Addr) (s7:Shared) (H6:Hp) (ys:List V),Inv X pins σ (upd H6 D (.lst ys)) s7->(∃m,s7.heap.Ns C m)->mz X pins (upd H6 D (.lst ys)) C->Q (.ref D) (upd H6 D (.lst ys))->compPost (model X.prog X.w) X.A X.xe use Qf (.ref D) C (.ok .next) s7):
    wpAny (model X.prog X.w) X.A (comprehension (.ListComp elt [⟨.Name x px,iter,ifs,0⟩] scope pos) scope X.env pos2 (newList []) false (eval iter X.env) use) Qf X.xe s:=by
  refine wpAny_comprehension_free (use:=use) rfl hs T.clos T.kind T.names (fK (hi pins s σ H _ I h) fun v s1 h1=>fK h1 fun itv s2 h2=>?_)
  obtain⟨it,fp,tn,J,H2,rfl,I2,uw,st2,f2,W,⟨m0,w0⟩,turn⟩:=h2
  refine wpAny_newObj_type (wpAny_newFunctionEnv T.mS (by intro y hy;simp at hy) (fun h4 v5 sR=>?_) T.kind)
  dsimp only at v5 sR ⊢
  generalize K1:s2.heap.push {cls:=.type "list",dict:=none,data:=.seq ([]:List Value).toArray}=H3 at v5 sR ⊢
  have eC:H3.objs.size=s2.heap.objs.size+1:=by rw[<-K1,Heap.size_push]
  generalize Yu:H3.objs.size=C at eC v5 sR ⊢
  generalize eD:s2.heap.objs.size=D at eC ⊢
  have DX:C=D+1:=eC
  have hDC:D≠C:=by rw[DX];exact Nat.ne_of_lt (Nat.lt_succ_self D)
  have hC:s2.heap.objs.size<=C:=by rw[eD,DX];exact Nat.le_succ D
  have hD:s2.heap.objs.size<=D:=by rw[eD];exact Nat.le_refl D
  have kept:∀b o,s2.heap.get? b=some o->h4.get? b=some o:=fun b o e=>sR.extBut b o (Nat.ne_of_lt (Nat.lt_of_lt_of_le (Heap.lt_size e) hC)) (Heap.get?_push_of_some _ (K1▸Heap.get?_push_of_some _ e))
  have hacc:h4.get? D=some {cls:=.type "list",data:=.seq ([]:List Value).toArray ([]:List Value).length}:=sR.extBut _ _ hDC (Heap.get?_push_of_some _ (K1▸eD▸Heap.get?_push_size _ rfl))
  have NO:∀b∈fp,∃o,s2.heap.get? b=some o:=fun b hb=>let⟨o,e,_⟩:=uw.obj _ _ st2 b hb;⟨o,e⟩
  have hDf:D∉fp:=fun hb=>by
    obtain⟨o,e⟩:=NO D hb
    exact absurd (Nat.lt_of_lt_of_le (Heap.lt_size e) hD) (Nat.lt_irrefl _)
  have MF:tn 0 h4:=uw.keep _ _ _ st2 fun b _ o e=>kept b o e
  have key : ∀ s5 : Shared, s5 = { s2 with heap := h4, toks := s2.toks + ([] : List (Str × Value)).length } ->
      codeAny (model X.prog X.w) X.A (.compLoop (.ListComp elt [⟨.Name x px,iter,ifs,0⟩] scope pos) 0 (.ref it) (.ref D) (compEnvC scope cl C X.env)) (compPost (model X.prog X.w) X.A X.xe use Qf (.ref D) C) s5:=by
    rintro s5 rfl
    have I4:Inv (cJ X (x :: bJ) scope cl C s2 H2 fp) [] (none :: bS cap σ) H2 {s2 with heap:=h4,toks:=s2.toks+([]:List (Str×Value)).length}:=
      DV (s4:={s2 with heap:=h4,toks:=s2.toks+([]:List (Str×Value)).length}) I2 T f2 NO hC v5 rfl rfl kept
    generalize hY:cJ X (x :: bJ) scope cl C s2 H2 fp=Y at I4
    have fD:∀{H':Hp},H' D=none->mz Y [] H' D:=fun {H'} hn=>by
      subst hY
      refine⟨hn,hDC,fun z=>(List.mem_cons.mp (I2.qk D z)).elim (fun q=>absurd (Nat.lt_of_lt_of_le (q▸I2.lt) hD) (Nat.lt_irrefl _)) fun q=>I2.Ke hD q,.inr hD,fun y c e z=>?_,fun p hp=>absurd (show p∈([]:List (Addr×Obj)) from hp) (by simp)⟩
      obtain⟨v,q⟩:=I2.cell y c (T.cells _ _ e)
      exact absurd (Nat.lt_of_lt_of_le q.lt (by rw[z];exact hD)) (Nat.lt_irrefl _)
    have fF:∀{H':Hp},(∀b∈fp,H' b=none)->∀b∈fp,mz Y [] H' b:=fun {H'} hn b hb=>by
      have q:=I4.ok.PU b (by subst hY;exact hb)
      exact⟨hn b hb,fun z=>q.1 z,I4.ok.Cp b (by subst hY;exact hb),.inl (by subst hY;exact hb),fun y c e z=>q.2 y c e z,fun p hp=>absurd (show p∈([]:List (Addr×Obj)) from(by subst hY;exact hp)) (by simp)⟩
    have eA:Y.A=X.A:=by subst hY;rfl
    have eP:Y.prog=X.prog:=by subst hY;rfl
    have eW:Y.w=X.w:=by subst hY;rfl
    have eK:Y.K=X.K:=by subst hY;rfl
    have eE:Y.env=compEnvC scope cl C X.env:=by subst hY;rfl
    have eX:Y.xe=fun _ _=>False:=by subst hY;rfl
    have eN:Y.N=x :: bJ:=by subst hY;rfl
    have Ju:Y.calm=true:=by subst hY;exact hc
    have RH:G6 Y ifs tc:=by subst hY;exact ht _ _ _ _
    have RI:PE Y elt te:=by subst hY;exact he _ _ _ _
    have RJ:PG Y (.Name x px) (qV 0):=sf (by rw[eN];exact T.nd) (by rw[eN];rfl) (by rw[eE];exact .inl (lookup_relabel_local T.loc)) (.inr (by rw[eE];exact lookup_relabel_local T.loc))
    have oY:∀(E':Value->Shared->Prop) (e:Value) (s':Shared),Y.xe e s'->E' e s':=fun E' e s' z=>by rw[eX] at z;exact z.elim
    refine codeAny_compLoop_tests (fun n s'=>∃i ys us H' o,Inv Y [] (o :: bS cap σ) H' s'/\tn i s'.heap/\(∀b∈fp,H' b=none)/\H' D=none/\s'.heap.get? D=some {cls:=.type "list",data:=.seq us.toArray us.length}/\Vals ys us/\W i n ys H') ?_ m0
      ⟨0,[],[],H2,none,I4,MF,fun b hb=>(f2 b hb).1,I2.hok.fresh hD,hacc,.nil,w0⟩
    rintro n s6 ⟨i,ys,us,H6,o6,I6,K2,K3,d6,a6,v6,w6⟩
    have RK:us.length=ys.length:=v6.length.symm
    obtain⟨hz,DY⟩:=turn i n ys H6 w6
    rcases DY with⟨stop,qn⟩ | ⟨go,step⟩
    . have q := uw.done Y eP eW eK Ju i [] s6 (o6 :: bS cap σ) H6 (notedBy (model X.prog X.w) X.A (compEnvC scope cl C X.env) fun e s' => compPost (model X.prog X.w) X.A X.xe use Qf (.ref D) C (.error e) s') I6 (fF K3) K2 stop
      rw[eA] at q
      have K4:=I6.pinned (fp:=[D]) (fun b hb=>by rw[List.mem_singleton.mp hb];exact fD d6) (fun b hb=>by rw[List.mem_singleton.mp hb];exact⟨_,a6,fun v z=>by cases z⟩)
      have q:=uw.done Y eP eW eK Ju i _ s6 (o6 :: bS cap σ) H6 (notedBy (model X.prog X.w) X.A (compEnvC scope cl C X.env) fun e s'=>compPost (model X.prog X.w) X.A X.xe use Qf (.ref D) C (.error e) s') K4 (fun b hb=>?_) K2 stop
      . rw [eA] at q
        refine fK q fun r s7 ⟨hr,I7⟩=>?_
        subst hr
        have a7:s7.heap.get? D=_:=(I7.pin (D,{cls:=.type "list",data:=.seq us.toArray us.length}) (List.mem_append_right _ (List.mem_append_right _ (cP (List.mem_singleton.mpr rfl) a6)))).1
        obtain⟨m7,DZ,_⟩:=I7.loc
        rw[eE] at DZ
        have D0:H6 D=none:=d6
        have RL:H6 C=none:=by have:=I7.free;rw[eE] at this;exact this
        have K5:mF X.prog X.w H6 s7.heap:=by have q:=I7.hok;rw[eP,eW] at q;exact q
        have new:fG X.prog X.w (upd H6 D (.lst ys)) s7.heap D (.lst ys):=⟨Nat.le_of_lt hz,us,us.length,v6,a7⟩
        have u7:Un (frs X.stack) fp H2 H6 s2.heap s7.heap:=by have:=I7.base;subst hY;exact this
        have RM:∀b o,s2.heap.get? b=some o->b≠D:=fun b o e=>Nat.ne_of_lt (Nat.lt_of_lt_of_le (Heap.lt_size e) hD)
        have u8:Un (frs X.stack) fp H2 (upd H6 D (.lst ys)) s2.heap s7.heap:=
          ⟨u7.keep,u7.slot,fun b o e n hx=>by rw[aE (RM b o e)];exact u7.free b o e n hx,u7.there,
           fun b xs e=>by have z:=u7.tups b xs e;rw[aE (bu z D0)];exact z,fun b o u e=>by have z:=u7.sI b o u e;rw[aE (bu z D0)];exact z,
           fun b ps e=>by obtain⟨more,z⟩:=u7.uq b ps e;exact⟨more,by rw[aE (bu z D0)];exact z⟩⟩
        have RO:s7.os=s2.os:=by have:=I7.os;subst hY;exact this
        have I9:Inv X pins σ (upd H6 D (.lst ys)) s7:=I2.Ji (ch:=fp) RO u8 (K5.Jt D0 new) I7.bare fun b hb=>⟨(f2 b hb).2.2.2.1,(f2 b hb).2.1,(f2 b hb).2.2.2.2.1,(f2 b hb).2.2.2.2.2⟩
        exact hend D C s7 H6 ys I9 ⟨m7,DZ⟩ (I2.xO hC (by rw[aE (Ne.symm hDC)];exact RL)) (qn D D0)
      . obtain⟨f0,f1,K6,f3,f4,f5⟩:=fF K3 b hb
        refine⟨f0,f1,K6,f3,f4,fun p hp z=>?_⟩
        rcases List.mem_append.mp hp with q' | q'
        . exact f5 p (List.mem_append_left _ q') z
        . rcases List.mem_append.mp q' with q' | q'
          . exact absurd q' (by simp)
          . have:=(kP q').1
            rw[List.mem_singleton.mp this] at z
            exact hDf (z▸hb)
    . have K4:=I6.pinned (fp:=[D]) (fun b hb=>by rw[List.mem_singleton.mp hb];exact fD d6) (fun b hb=>by rw[List.mem_singleton.mp hb];exact⟨_,a6,fun v z=>by cases z⟩)
      have NP:∀{H':Hp},(∀b∈fp,H' b=none)->∀b∈fp,mz Y ([]++kH [D] s6.heap) H' b:=fun {H'} hn b hb=>by
        obtain⟨f0,f1,K6,f3,f4,f5⟩:=fF hn b hb
        refine⟨f0,f1,K6,f3,f4,fun p hp z=>?_⟩
        rcases List.mem_append.mp hp with q' | q'
        . exact f5 p (List.mem_append_left _ q') z
        . rcases List.mem_append.mp q' with q' | q'
          . exact absurd q' (by simp)
          . have:=(kP q').1
            rw[List.mem_singleton.mp this] at z
            exact hDf (z▸hb)
      have q:=uw.item Y eP eW eK Ju i _ s6 (o6 :: bS cap σ) H6 (notedBy (model X.prog X.w) X.A (compEnvC scope cl C X.env) fun e s'=>compPost (model X.prog X.w) X.A X.xe use Qf (.ref D) C (.error e) s') K4 (NP K3) K2 go
      rw[eA] at q
      refine fK q fun r s7 ⟨u,hr,h7⟩=>?_
      subst hr
      refine DW h7 fun⟨xv,H8,I8,r8,y8,Jv,RP⟩=>?_
      have RQ:=I8.pinned (NP RP) (uw.obj _ _ Jv)
      have qa:=RJ _ s7 (o6 :: bS cap σ) H8 xv u _ RQ r8 (show qV 0 xv (o6 :: bS cap σ) H8 (fun σ' H'=>σ'=some xv :: bS cap σ/\H'=H8) from⟨rfl,rfl⟩)
      rw[eP,eW,eA,eE] at qa
      refine wpAny_mono qa (fun _ s9 h9=>?_) (oY _)
      obtain⟨Yv,H9,I9,e9,RS⟩:=h9
      subst e9 RS
      have qt:=RH _ s9 _ _ _ I9 (step xv _ y8)
      rw[eP,eW,eA,eE] at qt
      refine wpAny_mono qt (fun ok RU h10=>?_) (oY _)
      obtain⟨RV,NQ,G7⟩:=h10
      have back:∀{s':Shared}{H':Hp},Inv Y (([]++kH [D] s6.heap)++kH fp s7.heap) (some xv :: bS cap σ) H' s'->Inv Y [] (some xv :: bS cap σ) H' s'/\tn (i+1) s'.heap/\(∀b∈fp,H' b=none)/\H' D=none/\s'.heap.get? D=some {cls:=.type "list",data:=.seq us.toArray us.length}:=fun {s' H'} J=>by
        refine⟨J.jT.jT,uw.keep _ _ _ Jv fun b hb o e=>(J.pin (b,o) (List.mem_append_right _ (List.mem_append_right _ (cP hb e)))).1,fun b hb=>?_,?_,?_⟩
        . obtain⟨o,e,d⟩:=uw.obj _ _ Jv b hb
          exact(J.pin (b,o) (List.mem_append_right _ (List.mem_append_right _ (cP hb e)))).2.1
        . exact(J.pin (D,_) (List.mem_append_right _ (List.mem_append_left _ (List.mem_append_right _ (cP (List.mem_singleton.mpr rfl) a6))))).2.1
        . exact(J.pin (D,_) (List.mem_append_right _ (List.mem_append_left _ (List.mem_append_right _ (cP (List.mem_singleton.mpr rfl) a6))))).1
      cases ok with
      | false=>
        rw[if_neg (by decide)] at G7 ⊢
        obtain⟨m',hm,RW⟩:=G7
        obtain⟨b1,b2,b3,b4,b5⟩:=back NQ
        exact⟨m',hm,i+1,ys,us,RV,some xv,b1,b2,b3,b4,b5,v6,RW⟩
      | true=>
        rw[if_pos rfl] at G7 ⊢
        have qe:=RI _ RU _ _ _ NQ G7
        rw[eP,eW,eA,eE] at qe
        refine wpAny_mono qe (fun y K7 h11=>?_) (oY _)
        obtain⟨yv,NS,RX,RY,m',hm,RZ⟩:=h11
        obtain⟨b1,b2,b3,b4,b5⟩:=back RX
        refine append_at (hsz:=by rw[List.size_toArray,RK];exact Nat.le_of_lt hz) b5 fun h12 K8 K9=>?_
        have Gq:∀b o,b≠D->K7.heap.get? b=some o->h12.get? b=some o:=fun b o hb e=>K8.extBut b o hb e
        obtain⟨g0,g1,g2,g3,g4,g5⟩:=fD b4
        have R5:Inv Y [] (some xv :: bS cap σ) NS {K7 with heap:=h12}:=b1.turned (t':=K7.toks) Gq g0 g1 g3 g4 g5
        refine⟨m',hm,i+1,ys++[yv],us++[y],NS,some xv,R5,uw.keep _ _ _ b2 fun b hb o e=>Gq b o (fun z=>hDf (z▸hb)) e,b3,b4,K9.trans (congrArg some (DU us y)),v6.append (.cons RY .nil),RZ⟩
  exact codeAny_compStart_list (key _ rfl) (uw.self _ 0 _ _ _ MF (key _ rfl))
theorem D3 {X:Cx}{elt iter:Expr}{ifs:List Expr}{x:Str}{px pos:Pos}{scope:Scope}{cl:List (Str×Addr)}{bJ:List Str}{cap:List Nat}{wi:TI}{tc:TT}{te:TE}
  (T:iF X x bJ cap scope cl) (hc:X.calm=true) (hi:PI X (.Name x px) iter wi)
  (ht:∀C s H fp,G6 (cJ X (x :: bJ) scope cl C s H fp) ifs tc) (he:∀C s H fp,PE (cJ X (x :: bJ) scope cl C s H fp) elt te)
  (hs:∀x,foldedSetIterable iter X.env x=pure x:=by intro _;rfl):
  PE X (.ListComp elt [⟨.Name x px,iter,ifs,0⟩] scope pos) (P7 wi cap tc te):=by
 intro pins s σ H Q I h
 rw[eval_ListComp]
 refine sQ T hc hi ht he hs I h ?_
 rintro p C s7 H6 ys I9 ⟨m7,DZ⟩ ⟨g0,g1,g2,g3,g4,g5⟩ q
 exact⟨m7,DZ,fun h' hs'=>⟨.ref p,_,I9.turned (t':=s7.toks) (fun b o hb e=>hs'.extBut b o hb e) g0 g1 g3 g4 g5,rfl,q⟩⟩
theorem x9 {X:Cx}{elt iter:Expr}{ifs:List Expr}{x:Str}{px pos:Pos}{scope:Scope}{cl:List (Str×Addr)}{bJ:List Str}{cap:List Nat}{wi:TI}{tc:TT}{te:TE}{i:Nat}{y:Str}{py spos:Pos}
  (T:iF X x bJ cap scope cl) (hc:X.calm=true) (hi:PI X (.Name x px) iter wi)
  (ht:∀C s H fp,G6 (cJ X (x :: bJ) scope cl C s H fp) ifs tc) (he:∀C s H fp,PE (cJ X (x :: bJ) scope cl C s H fp) elt te)
  (hs:∀x,foldedSetIterable iter X.env x=pure x) (hN:X.N.Nodup) (hy:X.N[i]? =some y) (hx:Loc X.env.scope y)
  (hsw:swapsWith (.ListComp elt [⟨.Name x px,iter,ifs,0⟩] scope pos) (some (.Name y py)) spos.line X.env=pure true) (hf:X.fn y=true\/X.env.scope.names.lookup y=some .local):
  PS X (.Assign [.Name y py] (.ListComp elt [⟨.Name x px,iter,ifs,0⟩] scope pos) spos) (GK (P7 wi cap tc te) (qV i)):=by
 intro pins s σ H D I h
 rw[exec_Assign_Name_used _ _ _ _ hsw]
 refine wpAny_bind (wpAny_standAt (wpAny_bind ?_))
 show wpAny _ X.A (do let _ <-comprehension (.ListComp elt [⟨.Name x px,iter,ifs,0⟩] scope pos) scope X.env _ (newList []) false (eval iter X.env) (some (assign (.Name y py) X.env))) _ _ s
 refine wpAny_bind (wpAny_mono (sQ (Qf:=fun _ s'=>SP X pins D .next s') T hc hi ht he hs I h ?_) (fun _ s' hq=>wpAny_pure (wpAny_pure hq)) fun _ _ e=>e)
 rintro p C s7 H6 ys I9 ⟨m7,DZ⟩ ⟨g0,g1,g2,g3,g4,g5⟩ q
 refine wpAny_assign_Name (uQ I9 hN hy hx (v:=.ref p) (show RelV (.ref p) (.ref p) from rfl) (fun s8 I8 ⟨a,hsb,ha⟩=>?_) hf)
 have hne:C≠a:=ha.elim (fun z=>by rw[z];exact g1) fun z=>Ne.symm (g4 _ _ z)
 refine⟨m7,DZ.sameBut hsb hne,fun h' hs'=>?_⟩
 exact⟨_,_,I8.turned (t':=s8.toks) (fun b o hb e=>hs'.extBut b o hb e) g0 g1 g3 g4 g5,q⟩
noncomputable def R6 (z:Str):It:=⟨fun i _=>i < z.cps.size,fun i H x H'=>H'=H/\∃c,z.cps[i]? =some c/\x= .str ⟨#[c]⟩,fun i _=>z.cps.size<=i⟩
theorem D4 {P:Program}{w:World}{K:PySem.W.Frag}{x:Str}{px:Pos}(z:Str) (it:Addr) (t:Tok) (ty:String) (hW:∀A':Around,A'.handled=none->Walks P w A' it [it] [it] z.cps.size (SignAt z) fun i h=>h.IsStrIter it ty z t i)
  (hself:∀(A:Around) (i:Nat) (s:Shared) (Q:Value->Shared->Prop) (E:Value->Shared->Prop),s.heap.IsStrIter it ty z t i->Q (.ref it) s->wpAny (model P w) A (pyIter (.ref it)) Q E s):
  Turn P w K (.Name x px) (R6 z) [it] it (fun i h=>i<=z.cps.size/\h.IsStrIter it ty z t i) where
 mem:=by simp
 obj:=fun i h st b hb=>by
  obtain rfl:b=it:=by simpa using hb
  obtain⟨o,e,c,d⟩:=st.2
  exact⟨o,e,fun v q=>by rw[d] at q;cases q⟩
 keep:=fun i h h' st k=>by
  obtain⟨o,e,r⟩:=st.2
  exact⟨st.1,o,k it (by simp) o e,r⟩
 item:=by
  intro X hP hw hK hc i pins s σ H E I hf st hg
  subst hP hw hK
  obtain⟨f0,f1,f2,f3,f4,f5⟩:=hf it (by simp)
  refine(hW X.A (I.ok.hd hc)).item i s _ _ hg st.2 fun v h' tk hv st' kk=>?_
  obtain⟨c,u,hc',rfl⟩:=hv
  exact⟨_,rfl,wpAny_pure ⟨.str ⟨#[c]⟩,H,I.turned (fun b o hb e=>kk b o (by simpa using hb) e) f0 f1 f3 f4 f5,⟨u,rfl⟩,⟨rfl,c,hc',rfl⟩,⟨hg,st'⟩,fun b hb=>(hf b hb).1⟩⟩
 done:=by
  intro X hP hw hK hc i pins s σ H E I hf st hg
  subst hP hw hK
  obtain⟨f0,f1,f2,f3,f4,f5⟩:=hf it (by simp)
  obtain⟨s1,s2⟩:=st
  have e:i=z.cps.size:=Nat.le_antisymm s1 hg
  subst e
  exact(hW X.A (I.ok.hd hc)).done s _ _ s2 fun h' tk kk=>⟨rfl,I.turned (fun b o hb e=>kk b o (by simpa using hb) e) f0 f1 f3 f4 f5⟩
 self:=fun A i s Q E st h=>hself A i s Q E st.2 h
noncomputable def R7 (tl:TE):TI:=fun σ H R=>tl σ H fun x H1=>∃z,x= .str z/\R (R6 z) H1
theorem La {X:Cx}{x:Str}{px:Pos}{l:Expr}{tl:TE}(hl:PE X l tl):PI X (.Name x px) l (R7 tl):=by
 intro pins s σ H R I h
 refine fK (hl pins s σ H _ I h) fun v s1 ⟨y,H1,I1,r1,q1⟩=>?_
 obtain⟨z,rfl,q⟩:=q1
 obtain⟨t,rfl⟩:=r1
 refine wpAny_pyIter_strU ?_
 have hst:∀ty,strIterType z=ty->(s1.heap.push {cls:=.type (strIterType z),data:=.fields #[.str z t,.int 0 0]}).IsStrIter s1.heap.objs.size ty z t 0:=fun ty e=>⟨_,Heap.get?_push_size _ rfl,by rw[<-e],rfl⟩
 have go:∀ty,strIterType z=ty->(∀A':Around,A'.handled=none->Walks X.prog X.w A' s1.heap.objs.size [s1.heap.objs.size] [s1.heap.objs.size] z.cps.size (SignAt z) fun i h=>h.IsStrIter s1.heap.objs.size ty z t i)->
   (∀(A:Around) (i:Nat) (s:Shared) (Q:Value->Shared->Prop) (E:Value->Shared->Prop),s.heap.IsStrIter s1.heap.objs.size ty z t i->Q (.ref s1.heap.objs.size) s->wpAny (model X.prog X.w) A (pyIter (.ref s1.heap.objs.size)) Q E s)->
   Rn X pins σ (.Name x px) R (.ref s1.heap.objs.size) {s1 with heap:=s1.heap.push {cls:=.type (strIterType z),data:=.fields #[.str z t,.int 0 0]}}:=fun ty e hW hself=>by
  refine⟨s1.heap.objs.size,[s1.heap.objs.size],_,_,H1,rfl,I1.kept (t':=s1.toks) fun b o e=>Heap.get?_push_of_some _ e,D4 z _ t ty hW hself,⟨Nat.zero_le _,hst ty e⟩,fun b hb=>?_,q⟩
  obtain rfl:b=s1.heap.objs.size:=by simpa using hb
  exact I1.xO (Nat.le_refl _) (I1.hok.fresh (Nat.le_refl _))
 cases ha:z.cps.all (· < 128)
 ·exact go "str_iterator" (by simp[strIterType,ha]) (fun A' hA=>Walks.strWide hA _ z t) fun A i s Q E st h=>wpAny_pyIter_striter_wide st h
 ·exact go "str_ascii_iterator" (by simp[strIterType,ha]) (fun A' hA=>Walks.strAscii hA _ z t) fun A i s Q E st h=>wpAny_pyIter_striter_ascii st h
theorem bB.length {H:Hp}:∀{vs:List V}{ds:List D},bB H vs ds->vs.length=ds.length
 | _,_,.nil=>rfl
 | _,_,.cons _ rs=>congrArg Nat.succ (bB.length rs)
theorem bB.get {H:Hp}:∀{vs:List V}{ds:List D}{i:Nat}{d:D},bB H vs ds->ds[i]? =some d->∃v,vs[i]? =some v/\Rep H v d
 | _,_,_,_,.nil,e=>by simp at e
 | _,_,0,_,.cons r _,e=>by simp at e;subst e;exact⟨_,rfl,r⟩
 | _,_,i+1,_,.cons _ rs,e=>by
  obtain⟨v,h1,h2⟩:=bB.get (i:=i) rs (by simpa using e)
  exact⟨v,by simpa using h1,h2⟩
theorem bB.append {H:Hp}:∀{vs ws:List V}{ds es:List D},bB H vs ds->bB H ws es->bB H (vs++ws) (ds++es)
 | _,_,_,_,.nil,s=>s
 | _,_,_,_,.cons r rs,s=>.cons r (bB.append rs s)
theorem bB.take {H:Hp}:∀{vs:List V}{ds:List D}(n:Nat),bB H vs ds->bB H (vs.take n) (ds.take n)
 | _,_,0,_=>.nil
 | _,_,_+1,.nil=>.nil
 | _,_,n+1,.cons r rs=>.cons r (bB.take n rs)
theorem bB.drop {H:Hp}:∀{vs:List V}{ds:List D}(n:Nat),bB H vs ds->bB H (vs.drop n) (ds.drop n)
 | _,_,0,rs=>rs
 | _,_,_+1,.nil=>.nil
 | _,_,n+1,.cons _ rs=>bB.drop n rs
end L2
end
section
namespace HT
open PySem PySem.Spec PyProof.Rows
section
variable {prog:Program}{w:World}{A:Around}{E:Value->Shared->Prop}{s:Shared}
end
end HT
end
section
namespace L2
open PySem PySem.Spec PyProof.Rows
section
variable {X:Cx}
theorem bB.cX {H:Hp}{vs:List V}{ds:List D}{i:Int}{d:D}(r:bB H vs ds) (h:L2.cX ds i=some d):∃v,L2.cX vs i=some v/\Rep H v d:=by
 have hl:=r.length
 unfold L2.cX at h ⊢
 rw[hl]
 cases e:xA ds.length i with
 | none=>rw[e] at h;cases h
 | some j=>
  rw[e] at h
  exact r.get h
end
theorem ya {scope:Scope}{env:Env}{n:Str}{k:NameKind}(h:(relabel scope env).names.lookup n=some k):(n,k)∈(relabel scope env).names:=PySem.mem_of_lookup h
theorem jU {X:Cx}{x:Str}{scope:Scope}(h1:∀y∈scope.names,y.2≠.free) (h2:∀y∈scope.names,y.2≠.cell) (h3:scope.kind= .function) (h4:∀y∈scope.names,y.2= .local->scope.names.lookup y.1=some .local) (h5:scope.names.lookup x=some .local):
  iF X x [] [] scope []:=by
 refine⟨closureFor_none h1,h2,h3,h4,h5,fun n c h=>(by cases h),fun n h=>?_,by simp,rfl,fun j n h=>(by simp at h),fun n h=>(by simp at h)⟩
 have no:∀k,(k=NameKind.cell\/k=NameKind.free)->(relabel scope X.env).names.lookup n≠some k:=fun k hk e=>by
  have m:=ya e
  unfold relabel at m
  obtain⟨⟨n',k'⟩,hm,q⟩:=List.mem_map.mp m
  have z:(k' == NameKind.free)=false:=by simpa using h1 _ hm
  simp only[z,Bool.false_and,if_false] at q
  have q2:k'=k:=by
   have:=congrArg Prod.snd q
   simpa using this
  rcases hk with rfl | rfl
  ·exact h2 _ hm q2
  ·exact h1 _ hm q2
 rcases h with h | h
 ·exact absurd h (no _ (.inl rfl))
 ·exact absurd h (no _ (.inr rfl))
mutual
noncomputable def Yw (n:Nat):D->Prop
 | .str z=>z.length<=n
 | .tup ds=>ds.length<=n/\Fits n ds
 | .lst ds=>ds.length<=n/\Fits n ds
 | .dh=>True
 | .bl _=>True
 | .int _=>True
noncomputable def Fits (n:Nat):List D->Prop
 | []=>True
 | d :: ds=>Yw n d/\Fits n ds
end
theorem Fits.take {n:Nat}:∀{ds:List D}(k:Nat),Fits n ds->Fits n (ds.take k)
 | _,0,_=>True.intro
 | [],_+1,_=>True.intro
 | _ :: _,k+1,h=>⟨h.1,Fits.take k h.2⟩
theorem Fits.drop {n:Nat}:∀{ds:List D}(k:Nat),Fits n ds->Fits n (ds.drop k)
 | _,0,h=>h
 | [],_+1,_=>True.intro
 | _ :: _,k+1,h=>Fits.drop k h.2
noncomputable def W5:Str:="abcdefghijklmnopqrstuvwxyz"
noncomputable def sign (c:Nat):Bool:=!(Builtin.Str.occurrences W5 ⟨#[c]⟩ 0 W5.length 1).isEmpty
theorem lookup_some {α : Type} : ∀ {l : List (Str × α)} {n : Str}, n ∈ l.map (·.1) -> ∃ c, l.lookup n = some c
  | [],_,h=>by simp at h
  | (m, c) :: l, n, h => by
    rw[List.lookup_cons]
    cases e:n == m with
    | true=>exact⟨c,rfl⟩
    | false=>
      rcases List.mem_cons.mp h with h | h
      . have h:n=m:=h
        rw[h,beq_self_eq_true] at e
        cases e
      . exact lookup_some h
mutual
noncomputable def toPy:D->PyData
 | .dh=>.none
 | .bl b=>.bool b
 | .int i=>.int i
 | .str z=>.str z
 | .tup ds=>.tuple (gT ds)
 | .lst ds=>.list (gT ds)
noncomputable def gT:List D->List PyData
 | []=>[]
 | d :: ds=>toPy d :: gT ds
end
section
variable {X:Cx}{pins:List (Addr×Obj)}{σ:St}{H:Hp}{s:Shared}
end
mutual
theorem qX:∀d:D,(toPy d).hasDict=false
 | .dh=>rfl
 | .bl _=>rfl
 | .int _=>rfl
 | .str _=>rfl
 | .tup ds=>lM ds
 | .lst ds=>lM ds
theorem lM:∀ds:List D,PyData.hasDictAll (gT ds)=false
 | []=>rfl
 | d :: ds=>by
  show((toPy d).hasDict || PyData.hasDictAll (gT ds))=false
  rw[qX d,lM ds]
  rfl
end
inductive MO where
 | lst (ds:List D)
 | dct (kvs:List (Key×D))
 | cS (kvs:List (D×D))
 | ins (C:Addr) (kvs:List (Str×D))
inductive U where
 | t (d:D) | m (o:MO) | b (o:MO) | v (i:Nat) | s (ns:List Int) | f (a:Addr)
noncomputable abbrev SS:=List (Option U)
noncomputable def Sub (F H:Hp):Prop:=∀a o,F a=some o->H a=some o
noncomputable def jm {κ:Type}(F:Hp) (p:κ×V) (q:κ×D):Prop:=p.1=q.1/\Rep F p.2 q.2
noncomputable def At (F H:Hp) (a:Addr):MO->Prop
 | .lst ds=>∃vs,H a=some (.lst vs)/\bB F vs ds
 | .dct kvs=>∃ws,H a=some (.dK ws)/\Paired (jm F) ws kvs
 | .cS kvs=>∃ws,H a=some (.dT ws)/\Paired (jm F) ws kvs
 | .ins C kvs=>∃ws,(∃dx,H a=some (.ins C dx ws))/\Paired (jm F) ws kvs
noncomputable def gm:U->Bool
 | .m _=>true
 | .b _=>true
 | _=>false
noncomputable def cy (S:SS) (σ:St) (a:Addr):Prop:=∃(i:Nat) (u:U),S[i]? =some (some u)/\gm u=true/\σ[i]? =some (some (.ref a))
noncomputable def Jw (K:PySem.W.Frag) (H:Hp) (a:Addr) (ns:List Int):Prop:=
 (∃o,H a=some (.jA o (.lst (ns.map V.int))))\/∃(o:Obj) (its:Array Value) (n:Nat),K.lookup a=some o/\o.cls= .type "list"/\o.dict=none/\o.data= .seq its n/\its.size<=sizeLine/\Vals (ns.map V.int) its.toList
theorem Jw.sq {K:PySem.W.Frag}{H:Hp}{a:Addr}{ns:List Int}:Jw K H a ns->oW K H a (ns.map V.int)
 | .inl h=>.inl (.inr h)
 | .inr h=>.inr h
noncomputable def sS (K:PySem.W.Frag) (F H:Hp) (v:V):U->Prop
 | .t d=>Rep F v d
 | .m o=>∃a,v= .ref a/\F a=none/\At F H a o
 | .b o=>∃a,v= .ref a/\F a=none/\At F H a o
 | .v _=>False
 | .s ns=>∃a,v= .ref a/\Jw K H a ns
 | .f a=>v= .ref a
structure Ext (M:Addr->Prop) (F H F' H':Hp):Prop where
 le:∀b o,F b=some o->F' b=some o
 keep:∀b o,H b=some o->¬M b->H' b=some o
 ig:∀b o,H b=some o->¬M b->F b=none->F' b=none
 there:∀b o,H b=some o->∃o',H' b=some o'
 jA:∀b o u,H b=some (.jA o u)->H' b=some (.jA o u)
structure Base where
 P:List (Option Addr)
 F:Hp
 H:Hp
noncomputable def Base.M (B:Base) (a:Addr):Prop:=some a∈B.P
structure Rel (K:PySem.W.Frag) (B:Base) (S:SS) (σ:St) (F H:Hp):Prop where
 sub:Sub F H
 len:S.length=σ.length
 rep:∀(i:Nat) u,S[i]? =some (some u)->∃v,σ[i]? =some (some v)/\sS K F H v u
 yc:∀(i j:Nat) u w a,S[i]? =some (some u)->gm u=true->S[j]? =some (some w)->gm w=true->σ[i]? =some (some (.ref a))->σ[j]? =some (some (.ref a))->i=j
 own:∀(i:Nat) o a,S[i]? =some (some (.m o))->σ[i]? =some (some (.ref a))->B.H a=none
 bor:∀(i:Nat) o a,S[i]? =some (some (.b o))->σ[i]? =some (some (.ref a))->B.M a
 par:∀(i:Nat) a,B.P[i]? =some (some a)->σ[i]? =some (some (.ref a))/\∃o,S[i]? =some (some (.b o))
 ext:Ext B.M B.F B.H F H
structure Step (S S':SS) (σ:St) (F H F' H':Hp):Prop where
 ext:Ext (cy S σ) F H F' H'
 mu:∀a,cy S' σ a->cy S σ a
 slots:∀(i:Nat) u,S[i]? =some (some u)->∃u',S'[i]? =some (some u')
theorem Ext.refl (M:Addr->Prop) (F H:Hp):Ext M F H F H:=⟨fun _ _ h=>h,fun _ _ h _=>h,fun _ _ _ _ h=>h,fun _ o h=>⟨o,h⟩,fun _ _ _ h=>h⟩
theorem Ext.trans {M M':Addr->Prop}{F H F1 H1 F2 H2:Hp}(x:Ext M F H F1 H1) (y:Ext M' F1 H1 F2 H2) (s:∀b,M' b->M b\/H b=none):Ext M F H F2 H2 where
 le:=fun b o h=>y.le b o (x.le b o h)
 keep:=fun b o h n=>y.keep b o (x.keep b o h n) fun q=>(s b q).elim n fun z=>by rw[h] at z;cases z
 ig:=fun b o h n f=>y.ig b o (x.keep b o h n) (fun q=>(s b q).elim n fun z=>by rw[h] at z;cases z) (x.ig b o h n f)
 there:=fun b o h=>let⟨o',h'⟩:=x.there b o h;y.there b o' h'
 jA:=fun b o u h=>y.jA b o u (x.jA b o u h)
theorem Step.refl (S:SS) (σ:St) (F H:Hp):Step S S σ F H F H:=⟨Ext.refl _ _ _,fun _ h=>h,fun _ u h=>⟨u,h⟩⟩
theorem Step.trans {S S1 S2:SS}{σ:St}{F H F1 H1 F2 H2:Hp}(x:Step S S1 σ F H F1 H1) (y:Step S1 S2 σ F1 H1 F2 H2):Step S S2 σ F H F2 H2:=
 ⟨x.ext.trans y.ext fun b q=>.inl (x.mu b q),fun a q=>x.mu a (y.mu a q),fun i u h=>let⟨u',h'⟩:=x.slots i u h;y.slots i u' h'⟩
mutual
theorem Rep.le {F F':Hp}(g:∀b o,F b=some o->F' b=some o):∀{v:V}{d:D},Rep F v d->Rep F' v d
 | _,_,.dh=>.dh
 | _,_,.bl b=>.bl b
 | _,_,.int i=>.int i
 | _,_,.str z=>.str z
 | _,_,.tup e r=>.tup (g _ _ e) (bB.le g r)
 | _,_,.lst e r=>.lst (e.imp (g _ _) fun⟨o,h⟩=>⟨o,g _ _ h⟩) (bB.le g r)
theorem bB.le {F F':Hp}(g:∀b o,F b=some o->F' b=some o):∀{vs:List V}{ds:List D},bB F vs ds->bB F' vs ds
 | _,_,.nil=>.nil
 | _,_,.cons r rs=>.cons (Rep.le g r) (bB.le g rs)
end
theorem sU {κ:Type}{F F':Hp}(g:∀b o,F b=some o->F' b=some o){ws:List (κ×V)}{kvs:List (κ×D)}(r:Paired (jm F) ws kvs):Paired (jm F') ws kvs:=
 Paired.Ck r fun _ _ z=>⟨z.1,z.2.le g⟩
theorem At.le {F F' H H':Hp}{a:Addr}(g:∀b o,F b=some o->F' b=some o) (k:∀o,H a=some o->H' a=some o):∀{o:MO},At F H a o->At F' H' a o
 | .lst _,⟨vs,e,r⟩=>⟨vs,k _ e,r.le g⟩
 | .dct _,⟨ws,e,r⟩=>⟨ws,k _ e,sU g r⟩
 | .cS _,⟨ws,e,r⟩=>⟨ws,k _ e,sU g r⟩
 | .ins _ _,⟨ws,⟨dx,e⟩,r⟩=>⟨ws,⟨dx,k _ e⟩,sU g r⟩
theorem At.has {F H:Hp}{a:Addr}:∀{o:MO},At F H a o->∃u,H a=some u
 | .lst _,⟨_,e,_⟩=>⟨_,e⟩
 | .dct _,⟨_,e,_⟩=>⟨_,e⟩
 | .cS _,⟨_,e,_⟩=>⟨_,e⟩
 | .ins _ _,⟨_,⟨_,e⟩,_⟩=>⟨_,e⟩
noncomputable def jI (K:PySem.W.Frag) (B:Base) (S:SS) (σ:St) (H0 F H:Hp) (v:V):U->Prop
 | .t d=>Rep F v d
 | .m o=>∃a,v= .ref a/\H0 a=none/\F a=none/\At F H a o/\¬cy S σ a/\B.H a=none
 | .v i=>σ[i]? =some (some v)/\∃u,S[i]? =some (some u)
 | .b _=>False
 | .s ns=>∃a,v= .ref a/\Jw K H a ns
 | .f a=>v= .ref a
theorem PE.imp {X:Cx}{e:Expr}{t t':TE}(h:PE X e t) (k:∀σ H Q,t' σ H Q->t σ H Q):PE X e t':=fun pins s σ H Q I q=>h pins s σ H Q I (k σ H Q q)
theorem PT.imp {X:Cx}{e:Expr}{t t':TT}(h:PT X e t) (k:∀σ H Q,t' σ H Q->t σ H Q):PT X e t':=fun pins s σ H Q I q=>h pins s σ H Q I (k σ H Q q)
theorem PW.imp {X:Cx}{e:Expr}{t t':TT}(h:PW X e t) (k:∀σ H Q,t' σ H Q->t σ H Q):PW X e t':=fun w pins s σ H Q I q=>h w pins s σ H Q I (k σ H Q q)
theorem PA.imp {X:Cx}{e:List Expr}{t t':TA}(h:PA X e t) (k:∀σ H Q,t' σ H Q->t σ H Q):PA X e t':=fun p pins s σ H Q I q=>h p pins s σ H Q I (k σ H Q q)
theorem PS.imp {X:Cx}{e:Stmt}{t t':TS}(h:PS X e t) (k:∀D σ H,t' D σ H->t D σ H):PS X e t':=fun pins s σ H Q I q=>h pins s σ H Q I (k Q σ H q)
theorem xM.imp {X:Cx}{e:List Stmt}{t t':TS}(h:xM X e t) (k:∀D σ H,t' D σ H->t D σ H):xM X e t':=fun pins s σ H Q I q=>h pins s σ H Q I (k Q σ H q)
theorem PE.orelse {X:Cx}{e:Expr}{t:TE}(h:∀σ H Q,t σ H Q->∃t',PE X e t'/\t' σ H Q):PE X e t:=fun pins s σ H Q I q=>let⟨_,h1,h2⟩:=h σ H Q q;h1 pins s σ H Q I h2
theorem PS.orelse {X:Cx}{e:Stmt}{t:TS}(h:∀D σ H,t D σ H->∃t',PS X e t'/\t' D σ H):PS X e t:=fun pins s σ H Q I q=>let⟨_,h1,h2⟩:=h Q σ H q;h1 pins s σ H Q I h2
noncomputable abbrev GE:=SS->Option (U×SS)
noncomputable abbrev GD:=SS->Option (D×SS)
noncomputable abbrev GT:=SS->Option (Bool×SS)
noncomputable abbrev GA:=SS->Option (List D×SS)
inductive Out where
 | nx (S:SS) | rt (u:U) (S:SS) | bk (S:SS) | ct (S:SS)
noncomputable abbrev GS:=SS->Option Out
noncomputable def tE (K:PySem.W.Frag) (B:Base) (g:GE):TE:=fun σ H Q=>∃S F u S',Rel K B S σ F H/\g S=some (u,S')/\∀v F' H',Rel K B S' σ F' H'->Step S S' σ F H F' H'->jI K B S' σ H F' H' v u->Q v H'
noncomputable def tD (K:PySem.W.Frag) (B:Base) (g:GD):TE:=fun σ H Q=>∃S F d S',Rel K B S σ F H/\g S=some (d,S')/\∀v F' H',Rel K B S' σ F' H'->Step S S' σ F H F' H'->Rep F' v d->Q v H'
noncomputable def tQ (K:PySem.W.Frag) (B:Base) (g:GT):TT:=fun σ H Q=>∃S F b S',Rel K B S σ F H/\g S=some (b,S')/\∀F' H',Rel K B S' σ F' H'->Step S S' σ F H F' H'->Q b H'
noncomputable def W6 (K:PySem.W.Frag) (B:Base) (g:GA):TA:=fun σ H Q=>∃S F ds S',Rel K B S σ F H/\g S=some (ds,S')/\∀vs F' H',Rel K B S' σ F' H'->Step S S' σ F H F' H'->bB F' vs ds->Q vs H'
noncomputable def Bm (K:PySem.W.Frag) (B:Base) (F:Hp) (D:Ends):Out->Prop
 | .nx S=>∀σ' F' H',Rel K B S σ' F' H'->(∀b o,F b=some o->F' b=some o)->D.nx σ' H'
 | .bk S=>∀σ' F' H',Rel K B S σ' F' H'->(∀b o,F b=some o->F' b=some o)->D.bk σ' H'
 | .ct S=>∀σ' F' H',Rel K B S σ' F' H'->(∀b o,F b=some o->F' b=some o)->D.ct σ' H'
 | .rt u S=>∀v σ' F' H',Rel K B S σ' F' H'->(∀b o,F b=some o->F' b=some o)->jI K B S σ' B.H F' H' v u->D.rt v H'
noncomputable def tO (K:PySem.W.Frag) (B:Base) (g:GS):TS:=fun D σ H=>∃S F o,Rel K B S σ F H/\g S=some o/\Bm K B F D o
structure JE (X:Cx) (e:Expr) (g:GE):Prop where
 h:∀B,PE X e (tE X.K B g)
structure JD (X:Cx) (e:Expr) (g:GD):Prop where
 h:∀B,PE X e (tD X.K B g)
structure JT (X:Cx) (e:Expr) (g:GT):Prop where
 h:∀B,PT X e (tQ X.K B g)
structure JW (X:Cx) (e:Expr) (g:GT):Prop where
 h:∀B,PW X e (tQ X.K B g)
structure JA (X:Cx) (es:List Expr) (g:GA):Prop where
 h:∀B,PA X es (W6 X.K B g)
structure JS (X:Cx) (st:Stmt) (g:GS):Prop where
 h:∀B,PS X st (tO X.K B g)
structure JB (X:Cx) (st:List Stmt) (g:GS):Prop where
 h:∀B,xM X st (tO X.K B g)
noncomputable def fz:U->SS->Option (D×SS)
 | .t d,S=>some (d,S)
 | .m (.lst ds),S=>some (.lst ds,S)
 | .v i,S=>match S[i]? with
  | some (some (.t d))=>some (d,S)
  | some (some (.m (.lst ds)))=>some (.lst ds,S.set i (some (.t (.lst ds))))
  | _=>none
 | _,_=>none
theorem get_set {α:Type}{l:List α}{i j:Nat}{x y:α}(h:(l.set i x)[j]? =some y):(i=j/\x=y/\i < l.length)\/(i≠j/\l[j]? =some y):=by
 by_cases e:i=j
 ·subst e
  by_cases hl:i < l.length
  ·rw[List.getElem?_set_self hl] at h;exact .inl ⟨rfl,Option.some.inj h,hl⟩
  ·rw[List.getElem?_eq_none (by simpa using hl)] at h;cases h
 ·rw[List.getElem?_set_ne e] at h;exact .inr ⟨e,h⟩
theorem Sub.jA {F H:Hp}{a:Addr}{o:HO}(s:Sub F H) (h:H a=some o):Sub (upd F a o) H:=fun b u e=>by
 by_cases hb:b=a
 ·subst hb;rw[aV] at e;cases e;exact h
 ·rw[aE hb] at e;exact s b u e
theorem Sub.fresh {F H:Hp}{p:Addr}(s:Sub F H) (h:H p=Option.none):F p=Option.none:=by
 cases e:F p with
 | none=>rfl
 | some o=>have q:=s p o e;rw[h] at q;cases q
theorem mU {F:Hp}{a:Addr}{o:HO}(h:F a=none):∀b u,F b=some u->upd F a o b=some u:=fun b u e=>by rw[aE (bu e h)];exact e
theorem Jw.le {K:PySem.W.Frag}{H H':Hp}{a:Addr}{ns:List Int}(k:∀b o u,H b=some (.jA o u)->H' b=some (.jA o u)):Jw K H a ns->Jw K H' a ns
 | .inl ⟨o,h⟩=>.inl ⟨o,k _ _ _ h⟩
 | .inr h=>.inr h
theorem sS.le {K:PySem.W.Frag}{F F' H H':Hp}{v:V}(g:∀b o,F b=some o->F' b=some o) (kf:∀b o u,H b=some (.jA o u)->H' b=some (.jA o u)):∀{u:U},sS K F H v u->(∀a,gm u=true->v= .ref a->(∀o,H a=some o->H' a=some o)/\F' a=none)->sS K F' H' v u
 | .t _,h,_=>Rep.le g h
 | .m _,⟨a,e,_,h⟩,k=>let⟨k1,k2⟩:=k a rfl e;⟨a,e,k2,h.le g k1⟩
 | .b _,⟨a,e,_,h⟩,k=>let⟨k1,k2⟩:=k a rfl e;⟨a,e,k2,h.le g k1⟩
 | .v _,h,_=>h
 | .s _,⟨a,e,h⟩,_=>⟨a,e,h.le kf⟩
 | .f _,h,_=>h
theorem D5 {K : PySem.W.Frag} {B : Base} {S S' : SS} {σ : St} {H0 F0 F H : Hp} {v : V} {u : U} {d : D} {S0 : SS} (R : Rel K B S σ F H) (st : Step S0 S σ F0 H0 F H) (r : jI K B S σ H0 F H v u) (e : fz u S = some (d, S')) :
    ∃F',Rel K B S' σ F' H/\Step S0 S' σ F0 H0 F' H/\Rep F' v d:=by
  cases u with
  | t d'=>cases e;exact⟨F,R,st,r⟩
  | b o=>cases r
  | s o=>cases e
  | f o=>cases e
  | m o =>
    cases o with
    | dct kvs=>cases e
    | cS kvs=>cases e
    | ins C kvs=>cases e
    | lst ds=>
      cases e
      obtain⟨a,rfl,h0,hf,⟨vs,ha,rs⟩,nm,hB⟩:=r
      have g:=mU (o:=.lst vs) hf
      refine⟨upd F a (.lst vs),⟨R.sub.jA ha,R.len,fun i u h=>?_,R.yc,R.own,R.bor,R.par,?_⟩,⟨⟨fun b o h=>g b o (st.ext.le b o h),st.ext.keep,fun b o h n f=>?_,st.ext.there,st.ext.jA⟩,st.mu,st.slots⟩,.lst (.inl aV) (rs.le g)⟩
      . obtain⟨w,h1,h2⟩:=R.rep i u h
        refine⟨w,h1,h2.le g (fun _ _ _ z=>z) fun c hm hc=>⟨fun o q=>q,?_⟩⟩
        have hca:c≠a:=fun z=>nm ⟨i,u,h,hm,by rw[h1,hc,z]⟩
        rw[aE hca]
        cases u with
        | m o=>obtain⟨c',e',f',_⟩:=h2;rw[hc] at e';cases e';exact f'
        | b o=>obtain⟨c',e',f',_⟩:=h2;rw[hc] at e';cases e';exact f'
        | t d=>cases hm
        | v j=>cases hm
        | s j=>cases hm
        | f j=>cases hm
      . exact⟨fun b o h=>g b o (R.ext.le b o h),R.ext.keep,fun b o h n f=>by rw[aE (fun z=>by rw[z,hB] at h;cases h)];exact R.ext.ig b o h n f,R.ext.there,R.ext.jA⟩
      . rw[aE (fun z=>by rw[z,h0] at h;cases h)]
        exact st.ext.ig b o h n f
  | v i =>
    obtain⟨hv,u,hu⟩:=r
    unfold fz at e
    simp only[hu] at e
    cases u with
    | t d'=>
      cases e
      obtain⟨w,h1,h2⟩:=R.rep i _ hu
      rw[hv] at h1
      cases h1
      exact⟨F,R,st,h2⟩
    | b o=>cases e
    | v j=>cases e
    | s j=>cases e
    | f j=>cases e
    | m o =>
      cases o with
      | dct kvs=>cases e
      | cS kvs=>cases e
      | ins C kvs=>cases e
      | lst ds =>
        cases e
        obtain⟨w,h1,a,rfl,hf,⟨vs,ha,rs⟩⟩:=R.rep i _ hu
        have hiv:σ[i]? =some (some (.ref a)):=h1
        rw[hv] at h1
        cases h1
        have hB:=R.own i _ a hu hiv
        have g:=mU (o:=.lst vs) hf
        have back:∀j w,(S.set i (some (.t (.lst ds))))[j]? =some (some w)->gm w=true->i≠j/\S[j]? =some (some w):=fun j w h hm=>by
          rcases get_set h with⟨_,q,_⟩ | q
          . cases q;cases hm
          . exact q
        have mu:∀c,cy (S.set i (some (.t (.lst ds)))) σ c->cy S σ c:=fun c ⟨j,w,h,hm,z⟩=>⟨j,w,(back j w h hm).2,hm,z⟩
        refine⟨upd F a (.lst vs),⟨R.sub.jA ha,by rw[List.length_set];exact R.len,fun j u h=>?_,fun j k u w c h1 m1 h2 m2=>R.yc j k u w c (back j u h1 m1).2 m1 (back k w h2 m2).2 m2,fun j o c h=>R.own j o c (back j _ h rfl).2,fun j o c h=>R.bor j o c (back j _ h rfl).2,fun j c h=>?_,?_⟩,
          ⟨⟨fun b o h=>g b o (st.ext.le b o h),st.ext.keep,fun b o h n f=>?_,st.ext.there,st.ext.jA⟩,fun c q=>st.mu c (mu c q),fun j u h=>?_⟩,.lst (.inl aV) (rs.le g)⟩
        . rcases get_set h with⟨rfl,q,_⟩ | ⟨ne,q⟩
          . cases q
            exact⟨.ref a,hiv,.lst (.inl aV) (rs.le g)⟩
          . obtain⟨w,h1,h2⟩:=R.rep j u q
            refine⟨w,h1,h2.le g (fun _ _ _ z=>z) fun c hm hc=>⟨fun o q=>q,?_⟩⟩
            have hca:c≠a:=fun z=>ne (R.yc i j _ u a hu rfl q hm hiv (by rw[h1,hc,z]))
            rw[aE hca]
            cases u with
            | m o=>obtain⟨c',e',f',_⟩:=h2;rw[hc] at e';cases e';exact f'
            | b o=>obtain⟨c',e',f',_⟩:=h2;rw[hc] at e';cases e';exact f'
            | t d=>cases hm
            | v j=>cases hm
            | s j=>cases hm
            | f j=>cases hm
        . obtain⟨h1,o,h2⟩:=R.par j c h
          refine⟨h1,o,?_⟩
          have ne:i≠j:=fun z=>by subst z;rw[hu] at h2;cases h2
          rw[List.getElem?_set_ne ne]
          exact h2
        . exact⟨fun b o h=>g b o (R.ext.le b o h),R.ext.keep,fun b o h n f=>by rw[aE (fun z=>by rw[z,hB] at h;cases h)];exact R.ext.ig b o h n f,R.ext.there,R.ext.jA⟩
        . have hb:b≠a:=fun z=>n (st.mu b ⟨i,_,hu,rfl,by rw[z];exact hiv⟩)
          rw[aE hb]
          exact st.ext.ig b o h n f
        . obtain⟨u',h'⟩:=st.slots j u h
          by_cases hj:i=j
          . subst hj
            exact⟨.t (.lst ds),List.getElem?_set_self (List.getElem?_eq_some_iff.mp h').1⟩
          . exact⟨u',by rw[List.getElem?_set_ne hj];exact h'⟩
noncomputable def eF (g:GE):GD:=fun S=>(g S).bind fun p=>fz p.1 p.2
theorem JE.d {X:Cx}{e:Expr}{g:GE}(h:JE X e g):JD X e (eF g):=⟨fun B=>(h.h B).imp fun σ H Q ⟨S,F,d,S',R,hg,q⟩=>by
 unfold eF at hg
 cases e1:g S with
 | none=>rw[e1] at hg;cases hg
 | some p=>
  obtain⟨u,S1⟩:=p
  rw[e1] at hg
  refine⟨S,F,u,S1,R,e1,fun v F1 H1 R1 st1 r1=>?_⟩
  obtain⟨F2,R2,st2,r2⟩:=D5 R1 st1 r1 hg
  exact q v F2 H1 R2 st2 r2⟩
noncomputable def eT (g:GD):GE:=fun S=>(g S).map fun p=>(.t p.1,p.2)
theorem JD.e {X:Cx}{e:Expr}{g:GD}(h:JD X e g):JE X e (eT g):=⟨fun B=>(h.h B).imp fun σ H Q ⟨S,F,u,S',R,hg,q⟩=>by
 unfold eT at hg
 cases e1:g S with
 | none=>rw[e1] at hg;cases hg
 | some p=>
  obtain⟨d,S1⟩:=p
  rw[e1] at hg
  cases hg
  exact⟨S,F,d,S1,R,e1,fun v F1 H1 R1 st1 r1=>q v F1 H1 R1 st1 r1⟩⟩
structure iC (F H F' H':Hp):Prop where
 le:∀b o,F b=some o->F' b=some o
 same:∀b o,H b=some o->H' b=some o
 ig:∀b o,H b=some o->F b=none->F' b=none
theorem iC.refl (F H:Hp):iC F H F H:=⟨fun _ _ h=>h,fun _ _ h=>h,fun _ _ _ h=>h⟩
theorem iC.trans {F H F1 H1 F2 H2:Hp}(x:iC F H F1 H1) (y:iC F1 H1 F2 H2):iC F H F2 H2:=
 ⟨fun b o h=>y.le b o (x.le b o h),fun b o h=>y.same b o (x.same b o h),fun b o h f=>y.ig b o (x.same b o h) (x.ig b o h f)⟩
theorem iC.step {S:SS}{σ:St}{F H F' H':Hp}(n:iC F H F' H'):Step S S σ F H F' H':=
 ⟨⟨n.le,fun b o h _=>n.same b o h,fun b o h _ f=>n.ig b o h f,fun b o h=>⟨o,n.same b o h⟩,fun b o u h=>n.same b _ h⟩,fun _ h=>h,fun _ u h=>⟨u,h⟩⟩
theorem iC.obj {F H:Hp}{p:Addr}(h:H p=none) (o:HO):iC F H F (upd H p o):=
 ⟨fun _ _ q=>q,fun b u q=>by rw[aE (bu q h)];exact q,fun _ _ _ q=>q⟩
theorem Rd.same {H H':Hp}{a:Addr}{u:HO}(k:∀b o,H b=some o->H' b=some o):Rd H a u->Rd H' a u
 | .inl h=>.inl (k _ _ h)
 | .inr ⟨o,h⟩=>.inr ⟨o,k _ _ h⟩
theorem Sub.same {F H H':Hp}(s:Sub F H) (k:∀b o,H b=some o->H' b=some o):Sub F H':=fun a o e=>k a o (s a o e)
theorem Sub.sV {F H:Hp}{p:Addr}{o:HO}(s:Sub F H) (h:H p=none):Sub (upd F p o) (upd H p o):=fun b u e=>by
 by_cases hb:b=p
 ·subst hb;rw[aV] at e;cases e;exact aV
 ·rw[aE hb] at e;have q:=s b u e;rw[aE (bu q h)];exact q
theorem iC.root {F H:Hp}{p:Addr}(s:Sub F H) (h:H p=none) (o:HO):iC F H (upd F p o) (upd H p o):=
 ⟨mU (s.fresh h),fun b u q=>by rw[aE (bu q h)];exact q,fun b u q f=>by rw[aE (bu q h)];exact f⟩
theorem Rel.has {K:PySem.W.Frag}{B:Base}{S:SS}{σ:St}{F H:Hp}(R:Rel K B S σ F H){a:Addr}(m:cy S σ a):∃o,H a=some o:=by
 obtain⟨i,u,h,hm,hv⟩:=m
 obtain⟨v,h1,h2⟩:=R.rep i u h
 rw[hv] at h1
 cases h1
 cases u with
 | t d=>cases hm
 | v j=>cases hm
 | s j=>cases hm
 | f j=>cases hm
 | m o=>obtain⟨b,e,_,h⟩:=h2;cases e;exact h.has
 | b o=>obtain⟨b,e,_,h⟩:=h2;cases e;exact h.has
theorem Rel.new {K:PySem.W.Frag}{B:Base}{S:SS}{σ:St}{F H F' H':Hp}(R:Rel K B S σ F H) (n:iC F H F' H') (s:Sub F' H'):Rel K B S σ F' H' where
 sub:=s
 len:=R.len
 rep:=fun i u h=>by
  obtain⟨v,h1,h2⟩:=R.rep i u h
  refine⟨v,h1,h2.le n.le (fun b o u z=>n.same b _ z) fun a hm ha=>⟨fun o q=>n.same a o q,?_⟩⟩
  obtain⟨o,ho⟩:=R.has ⟨i,u,h,hm,by rw[h1,ha]⟩
  refine n.ig a o ho ?_
  cases u with
  | t d=>cases hm
  | v j=>cases hm
  | s j=>cases hm
  | f j=>cases hm
  | m o=>obtain⟨b,e,f,_⟩:=h2;rw[ha] at e;cases e;exact f
  | b o=>obtain⟨b,e,f,_⟩:=h2;rw[ha] at e;cases e;exact f
 yc:=R.yc
 own:=R.own
 bor:=R.bor
 par:=R.par
 ext:=⟨fun b o h=>n.le b o (R.ext.le b o h),fun b o h m=>n.same b o (R.ext.keep b o h m),fun b o h m f=>n.ig b o (R.ext.keep b o h m) (R.ext.ig b o h m f),fun b o h=>let⟨o',h'⟩:=R.ext.there b o h;⟨o',n.same b o' h'⟩,fun b o u h=>n.same b _ (R.ext.jA b o u h)⟩
noncomputable def D6 (H0 F H:Hp) (v:V):U->Prop
 | .t d=>Rep F v d
 | .m o=>∃a,v= .ref a/\H0 a=none/\F a=none/\At F H a o
 | _=>False
theorem none_of {H H':Hp}{a:Addr}(t:∀b o,H b=some o->∃o',H' b=some o') (h:H' a=none):H a=none:=by
 cases e:H a with
 | none=>rfl
 | some o=>obtain⟨o',h'⟩:=t a o e;rw[h] at h';cases h'
theorem D6.Lb {K:PySem.W.Frag}{B:Base}{S S0:SS}{σ:St}{H0 F0 F1 H1 F H:Hp}{v:V}{u:U}(R:Rel K B S σ F1 H1) (st:Step S0 S σ F0 H0 F1 H1) (r:D6 H1 F H v u):jI K B S σ H0 F H v u:=by
 cases u with
 | t d=>exact r
 | b o=>cases r
 | v i=>cases r
 | s i=>cases r
 | f i=>cases r
 | m o=>
  obtain⟨a,e,h0,f,h⟩:=r
  refine⟨a,e,none_of st.ext.there h0,f,h,fun m=>?_,none_of R.ext.there h0⟩
  obtain⟨o,ho⟩:=R.has m
  rw[h0] at ho
  cases ho
noncomputable def rP (f:List D->Option U):List V->Hp->VK->Prop:=fun xs H Q=>∃F ds u,Sub F H/\bB F xs ds/\f ds=some u/\∀v F' H',iC F H F' H'->Sub F' H'->D6 H F' H' v u->Q v H'
noncomputable def uZ:D->Bool
 | .tup _=>false
 | .lst _=>false
 | _=>true
noncomputable def toV:D->V
 | .bl b=>.bl b
 | .int i=>.int i
 | .str z=>.str z
 | _=>.dh
theorem yf {F:Hp}:∀{d:D},uZ d=true->Rep F (toV d) d
 | .dh,_=>.dh
 | .bl b,_=>.bl b
 | .int i,_=>.int i
 | .str z,_=>.str z
 | .tup _,h=>by cases h
 | .lst _,h=>by cases h
noncomputable def ao (i:Nat):GE:=fun S=>match S[i]? with
 | some (some (.t d))=>some (.t d,S)
 | some (some (.s d))=>some (.s d,S) | some (some (.f d))=>some (.f d,S)
 | some (some _)=>some (.v i,S)
 | _=>none
noncomputable def eC (d:D):GD:=fun S=>some (d,S)
noncomputable def aq:GA:=fun S=>some ([],S)
noncomputable def aa (g:GD) (ga:GA):GA:=fun S=>(g S).bind fun p=>(ga p.2).map fun q=>(p.1 :: q.1,q.2)
noncomputable def eP (f:List D->Option U) (ga:GA):GE:=fun S=>(ga S).bind fun p=>(f p.1).map fun u=>(u,p.2)
section
variable {X:Cx}{a b c e:Expr}{es:List Expr}{pos p p2:Pos}{x:Str}{g ga gb gc:GD}{gA:GA}{f f':List D->Option U}
theorem aj (i:Nat) (hN:X.N[i]? =some x:=by rfl) (hv:Dl X.env.scope x:=by first | exact Or.inl rfl | exact Or.inr (Or.inl rfl) | exact Or.inr (Or.inr rfl)) (hd:(x == ("__debug__":Str))=false:=by decide)
  (hcd:(x == ("__classdict__":Str))=false:=by decide):JE X (.Name x pos) (ao i):=⟨fun B=>(iQ hN hv hd hcd).imp fun σ H Q ⟨S,F,u,S',R,hg,q⟩=>by
 unfold ao at hg
 cases hs:S[i]? with
 | none=>rw[hs] at hg;cases hg
 | some o=>
  cases o with
  | none=>rw[hs] at hg;cases hg
  | some w=>
   rw[hs] at hg
   obtain⟨v,h1,h2⟩:=R.rep i w hs
   refine⟨v,h1,?_⟩
   cases w with
   | t d=>cases hg;exact q v F H R (Step.refl ..) h2
   | m o=>cases hg;exact q v F H R (Step.refl ..) ⟨h1,_,hs⟩
   | b o=>cases hg;exact q v F H R (Step.refl ..) ⟨h1,_,hs⟩
   | s j=>cases hg;exact q v F H R (Step.refl ..) h2
   | f j=>cases hg;exact q v F H R (Step.refl ..) h2
   | v j=>cases hg;exact q v F H R (Step.refl ..) ⟨h1,_,hs⟩⟩
theorem D7 {d:D}(hf:uZ d=true) (h:PE X e (tC (toV d))):JD X e (eC d):=⟨fun B=>h.imp fun σ H Q ⟨S,F,u,S',R,hg,q⟩=>by
 cases hg
 exact q _ F H R (Step.refl ..) (yf hf)⟩
theorem aB {i j}:JD X (.Constant (.int i) j pos) (eC (.int i)):=D7 rfl Kg
theorem D8 {i j}:JD X (.Constant (.bool i) j pos) (eC (.bl i)):=D7 rfl M5
theorem Lc {j}:JD X (.Constant .none j pos) (eC .dh):=D7 rfl Kh
theorem dN {i j}:JD X (.Constant (.str i) j pos) (eC (.str i)):=D7 rfl Kl
theorem aC:JA X [] aq:=⟨fun B=>oX.imp fun σ H Q ⟨S,F,u,S',R,hg,q⟩=>by
 cases hg
 exact q [] F H R (Step.refl ..) .nil⟩
theorem ah {α β:Type}{o:Option α}{f:α->Option β}{y:β}(h:o.bind f=some y):∃z,o=some z/\f z=some y:=by
 cases o with
 | none=>cases h
 | some z=>exact⟨z,rfl,h⟩
theorem au {α β:Type}{o:Option α}{f:α->β}{y:β}(h:o.map f=some y):∃z,o=some z/\f z=y:=by
 cases o with
 | none=>cases h
 | some z=>exact⟨z,rfl,Option.some.inj h⟩
theorem ak (h:JD X e g) (hr:JA X es gA) (hs:starEach (e :: es) X.env=(false,eval e X.env) :: starEach es X.env:=by rfl):JA X (e :: es) (aa g gA):=
 ⟨fun B=>(lI (h.h B) (hr.h B) hs).imp fun σ H Q ⟨S,F,u,S',R,hg,q⟩=>by
 obtain⟨⟨d,S1⟩,h1,hg⟩:=ah hg
 obtain⟨⟨ds,S2⟩,h2,hg⟩:=au hg
 cases hg
 exact⟨S,F,d,S1,R,h1,fun v F1 H1 R1 st1 r1=>⟨S1,F1,ds,S2,R1,h2,fun vs F2 H2 R2 st2 r2=>q _ F2 H2 R2 (st1.trans st2) (.cons (r1.le st2.ext.le) r2)⟩⟩⟩
theorem lN {K:PySem.W.Frag}{B:Base}{σ:St}{H:Hp}{Q:VK}{r:List V->Hp->VK->Prop}(hr:∀vs H1 Q1,rP f vs H1 Q1->r vs H1 Q1) (h:tE K B (eP f gA) σ H Q):W6 K B gA σ H fun vs H1=>r vs H1 Q:=by
 obtain⟨S,F,u,S',R,hg,q⟩:=h
 obtain⟨⟨ds,S1⟩,h1,hg⟩:=ah hg
 obtain⟨u',h2,hg⟩:=au hg
 cases hg
 exact⟨S,F,ds,S1,R,h1,fun vs F1 H1 R1 st1 r1=>hr _ _ _ ⟨F1,ds,_,R1.sub,r1,h2,fun v F2 H2 n s2 r2=>q v F2 H2 (R1.new n s2) (st1.trans n.step) (r2.Lb R1 st1)⟩⟩
theorem gU {id:String}(hc:jk X (.builtin id) (rP f)) (hg:Gl X x) (hm:X.mg x=none) (hv:bootBuiltins x=some (.builtin id)) (ha:JA X (e :: es) gA) (hn:x≠"__name__":=by decide) (hdb:(x == ("__debug__":Str))=false:=by decide)
  (he:starEach (e :: es) X.env=(false,eval e X.env) :: starEach es X.env:=by rfl) (hpl:(backTo pos (starEach es X.env)).any (·.1)=false:=by rfl):JE X (.Call (.Name x p) (e :: es) [] pos) (eP f gA):=
 ⟨fun B=>(mO hc hg hm hv (ha.h B) hn hdb he hpl).imp fun σ H Q h=>lN (fun _ _ _ z=>z) h⟩
theorem cG {T:String}(hc:jk X (.type T) (rP f)) (hg:Gl X x) (hm:X.mg x=none) (hv:bootBuiltins x=some (.type T)) (ha:JA X (e :: es) gA) (hn:x≠"__name__":=by decide) (hdb:(x == ("__debug__":Str))=false:=by decide)
  (he:starEach (e :: es) X.env=(false,eval e X.env) :: starEach es X.env:=by rfl) (hpl:(backTo pos (starEach es X.env)).any (·.1)=false:=by rfl):JE X (.Call (.Name x p) (e :: es) [] pos) (eP f gA):=
 ⟨fun B=>(Ct hc hg hm hv (ha.h B) hn hdb he hpl).imp fun σ H Q h=>lN (fun _ _ _ z=>z) h⟩
noncomputable abbrev zZ (X:Cx) (o:Value->Value->Sem Value) (f:List D->Option U):Prop:=vV X o (fun x y H Q=>rP f [x,y] H Q)
theorem pN {K:PySem.W.Frag}{B:Base}{σ:St}{H:Hp}{Q:VK}(h:tE K B (eP f (aa ga (aa gb aq))) σ H Q):MD (fun x y H Q=>rP f [x,y] H Q) (tD K B ga) (tD K B gb) σ H Q:=by
 obtain⟨S,F,u,S',R,hg,q⟩:=h
 obtain⟨⟨ds,S1⟩,h1,hg⟩:=ah hg
 obtain⟨u',h2,hg⟩:=au hg
 cases hg
 obtain⟨⟨d1,T1⟩,k1,h1⟩:=ah h1
 obtain⟨⟨ds2,T2⟩,k2,h1⟩:=au h1
 cases h1
 obtain⟨⟨d2,T3⟩,k3,k2⟩:=ah k2
 obtain⟨⟨ds3,T4⟩,k4,k2⟩:=au k2
 cases k2
 cases k4
 exact⟨S,F,d1,T1,R,k1,fun v1 F1 H1 R1 st1 r1=>⟨T1,F1,d2,_,R1,k3,fun v2 F2 H2 R2 st2 r2=>⟨F2,_,_,R2.sub,.cons (r1.le st2.ext.le) (.cons r2 .nil),h2,fun v F3 H3 n s3 r3=>q v F3 H3 (R2.new n s3) ((st1.trans st2).trans n.step) (r3.Lb R2 (st1.trans st2))⟩⟩⟩
theorem eY {op:Operator}(ho:zZ X (binaryOp op) f) (ha:JD X a ga) (hb:JD X b gb):JE X (.BinOp a op b pos) (eP f (aa ga (aa gb aq))):=
 ⟨fun B=>(Nj ho (ha.h B) (hb.h B)).imp fun σ H Q h=>pN h⟩
theorem qu {op:CmpOp}(ho:zZ X (compareOp op) f) (ha:JD X a ga) (hb:JD X b gb) (hm:behindInMarks op b=false:=by first | exact DH _ | rfl):JE X (.Compare a [op] [b] pos) (eP f (aa ga (aa gb aq))):=
 ⟨fun B=>(GP ho (ha.h B) (hb.h B) hm).imp fun σ H Q h=>pN h⟩
theorem pO (hr:DO X (fun x y H Q=>rP f [x,y] H Q)) (ha:JD X a ga) (hb:JD X b gb) (hs:su b):JE X (.Subscript a b pos) (eP f (aa ga (aa gb aq))):=
 ⟨fun B=>(Bh hr (ha.h B) (hb.h B) hs).imp fun σ H Q h=>pN h⟩
noncomputable def fE:List D->Option U:=fun ds=>if ds.length<=100000 then some (.t (.tup ds)) else none
noncomputable def gW:List D->Option U:=fun ds=>if ds.length<=100000 then some (.m (.lst ds)) else none
theorem kB {n:Nat}(h:n<=100000):n<=sizeLine:=Nat.le_trans h (by decide)
end
section
variable {X:Cx}{a b c e:Expr}{es:List Expr}{pos p p2:Pos}{x:Str}{g ga gb gc:GD}{gA:GA}{f f':List D->Option U}
theorem cz {x1}(h:JA X es gA):JE X (.Tuple es x1 pos) (eP fE gA):=
 ⟨fun B=>(KN (h.h B)).imp fun σ H Q z=>lN (r:=fun xs H1 Q=>xs.length<=sizeLine/\∀p,H1 p=none->Q (.ref p) (upd H1 p (.tup xs))) (fun vs H1 Q1 ⟨F,ds,u,sb,rs,hf,q⟩=>by
 unfold fE at hf
 split at hf
 ·rename_i hl
  cases hf
  refine⟨by rw[rs.length];exact kB hl,fun p hp=>?_⟩
  exact q _ _ _ (iC.root sb hp _) (sb.sV hp) (.tup aV (rs.le (mU (sb.fresh hp))))
 ·cases hf) z⟩
theorem fX (h:JA X es gA):JE X (.List es pos) (eP gW gA):=
 ⟨fun B=>(DI (h.h B)).imp fun σ H Q z=>lN (r:=fun xs H1 Q=>xs.length<=sizeLine/\∀p,H1 p=none->Q (.ref p) (upd H1 p (.lst xs))) (fun vs H1 Q1 ⟨F,ds,u,sb,rs,hf,q⟩=>by
 unfold gW at hf
 split at hf
 ·rename_i hl
  cases hf
  refine⟨by rw[rs.length];exact kB hl,fun p hp=>?_⟩
  exact q _ F _ (iC.obj hp _) (sb.same (iC.obj (F:=F) hp _).same) ⟨p,rfl,hp,sb.fresh hp,vs,aV,rs⟩
 ·cases hf) z⟩
noncomputable def qB (g:GD):GT:=fun S=>(g S).bind fun p=>match p.1 with
 | .bl k=>some (k,p.2)
 | _=>none
noncomputable def ux (g:GT):GT:=fun S=>(g S).map fun p=>(!p.1,p.2)
noncomputable def yg (g h:GT):GT:=fun S=>(g S).bind fun p=>if p.1 then h p.2 else some (false,p.2)
noncomputable def P8 (g h:GT):GT:=fun S=>(g S).bind fun p=>if p.1 then some (true,p.2) else h p.2
noncomputable def eQ (g:GT):GD:=fun S=>(g S).map fun p=>(.bl p.1,p.2)
theorem nO {S:SS}{k:Bool}{S':SS}(h:qB g S=some (k,S')):g S=some (.bl k,S'):=by
 obtain⟨⟨d,S1⟩,h1,h⟩:=ah h
 cases d <;> cases h
 exact h1
theorem oZ {F:Hp}{v:V}{k:Bool}(r:Rep F v (.bl k)):v= .bl k:=by cases r;rfl
theorem i9 {F:Hp}{v:V}{i:Int}(r:Rep F v (.int i)):v= .int i:=by cases r;rfl
theorem Bo {F:Hp}{v:V}{i:Str}(r:Rep F v (.str i)):v= .str i:=by cases r;rfl
theorem NT {K:PySem.W.Frag}{B:Base}{gE:GE}{σ:St}{H:Hp}{Q:VK}(h:tD K B (eF gE) σ H Q):tE K B gE σ H Q:=by
 obtain⟨S,F,d,S',R,hg,q⟩:=h
 obtain⟨⟨u,S1⟩,h1,hg⟩:=ah hg
 refine⟨S,F,u,S1,R,h1,fun v F1 H1 R1 st1 r1=>?_⟩
 obtain⟨F2,R2,st2,r2⟩:=D5 R1 st1 r1 hg
 exact q v F2 H1 R2 st2 r2
theorem fL {op:CmpOp}(ho:zZ X (compareOp op) f) (ha:JD X a ga) (hb:JD X b gb) (hm:behindInMarks op b=false:=by first | exact DH _ | rfl):JT X (.Compare a [op] [b] pos) (qB (eF (eP f (aa ga (aa gb aq))))):=
 ⟨fun B=>(GQ ho (ha.h B) (hb.h B) hm).imp fun σ H Q ⟨S,F,k,S',R,hg,q⟩=>pN (NT ⟨S,F,.bl k,S',R,nO hg,fun v F' H' R' st r=>⟨k,oZ r,q F' H' R' st⟩⟩)⟩
theorem Aa {q1:GT}(h:JT X a q1):JW X (.BoolOp .And [a] pos) q1:=⟨fun B=>pw_and1 (h.h B)⟩
theorem Ld {r:List Expr}{q1 q2:GT}(h:JT X a q1) (hr:JW X (.BoolOp .And (b :: r) pos) q2):JW X (.BoolOp .And (a :: b :: r) pos) (yg q1 q2):=
 ⟨fun B=>(pw_and (h.h B) (hr.h B)).imp fun σ H Q ⟨S,F,k,S',R,hg,q⟩=>by
 obtain⟨⟨d,S1⟩,h1,hg⟩:=ah hg
 refine⟨S,F,d,S1,R,h1,fun F1 H1 R1 st1=>?_⟩
 cases d with
 | true=>exact xZ ⟨S1,F1,k,S',R1,hg,fun F2 H2 R2 st2=>q F2 H2 R2 (st1.trans st2)⟩
 | false=>cases hg;exact xY (q F1 H1 R1 st1)⟩
theorem JW.t {q1:GT}(h:JW X e q1):JT X e q1:=⟨fun B=>(h.h B).pt⟩
theorem sW {op}(h:JD X a g):JD X (.BoolOp op [a] pos) (eQ (qB g)):=⟨fun B=>(Kn (h.h B)).imp fun σ H Q ⟨S,F,k,S',R,hg,q⟩=>by
 obtain⟨⟨d,S1⟩,h1,hg⟩:=au hg
 cases hg
 exact⟨S,F,.bl d,_,R,nO h1,q⟩⟩
theorem Ab {r:List Expr}{q2:GT}(h:JD X a g) (hr:JD X (.BoolOp .And (b :: r) pos) (eQ q2)):JD X (.BoolOp .And (a :: b :: r) pos) (eQ (yg (qB g) q2)):=
 ⟨fun B=>(Ko (h.h B) (hr.h B)).imp fun σ H Q ⟨S,F,k,S',R,hg,q⟩=>by
 obtain⟨⟨d,S1⟩,h1,hg⟩:=au hg
 cases hg
 obtain⟨⟨d1,S2⟩,h1,h2⟩:=ah h1
 refine⟨S,F,.bl d1,S2,R,nO h1,fun v F1 H1 R1 st1 r1=>⟨d1,oZ r1,?_⟩⟩
 cases d1 with
 | true=>
  have h2:q2 S2=some (d,S1):=h2
  exact xZ ⟨S2,F1,.bl d,S1,R1,by show(q2 S2).map _=_;rw[h2];rfl,fun v F2 H2 R2 st2 r2=>q v F2 H2 R2 (st1.trans st2) r2⟩
 | false=>cases h2;exact xY (q _ F1 H1 R1 st1 (.bl false))⟩
theorem Jx {r:List Expr}{q2:GT}(h:JD X a g) (hr:JD X (.BoolOp .Or (b :: r) pos) (eQ q2)):JD X (.BoolOp .Or (a :: b :: r) pos) (eQ (P8 (qB g) q2)):=
 ⟨fun B=>(M8 (h.h B) (hr.h B)).imp fun σ H Q ⟨S,F,k,S',R,hg,q⟩=>by
 obtain⟨⟨d,S1⟩,h1,hg⟩:=au hg
 cases hg
 obtain⟨⟨d1,S2⟩,h1,h2⟩:=ah h1
 refine⟨S,F,.bl d1,S2,R,nO h1,fun v F1 H1 R1 st1 r1=>⟨d1,oZ r1,?_⟩⟩
 cases d1 with
 | false=>
  have h2:q2 S2=some (d,S1):=h2
  exact xY ⟨S2,F1,.bl d,S1,R1,by show(q2 S2).map _=_;rw[h2];rfl,fun v F2 H2 R2 st2 r2=>q v F2 H2 R2 (st1.trans st2) r2⟩
 | true=>cases h2;exact xZ (q _ F1 H1 R1 st1 (.bl true))⟩
theorem Ac (h:JD X a g):JD X (.UnaryOp .Not a pos) (eQ (ux (qB g))):=⟨fun B=>(Kp (h.h B)).imp fun σ H Q ⟨S,F,k,S',R,hg,q⟩=>by
 obtain⟨⟨d,S1⟩,h1,hg⟩:=au hg
 cases hg
 obtain⟨⟨d1,S2⟩,h3,h2⟩:=au h1
 cases h2
 exact⟨S,F,.bl d1,_,R,nO h3,fun v F1 H1 R1 st1 r1=>⟨d1,oZ r1,q _ F1 H1 R1 st1 (.bl _)⟩⟩⟩
theorem jI.weak {K:PySem.W.Frag}{B:Base}{S:SS}{σ:St}{H0 H1 F H:Hp}{v:V}(t:∀b o,H0 b=some o->∃o',H1 b=some o'):∀{u:U},jI K B S σ H1 F H v u->jI K B S σ H0 F H v u
 | .t _,h=>h
 | .s _,h=>h
 | .f _,h=>h
 | .m _,⟨a,e,h0,h⟩=>⟨a,e,none_of t h0,h⟩
 | .v _,h=>h
 | .b _,h=>h
end
theorem dX {α:Type}{c:Prop}{i:Decidable c}{x w:α}(h:(@ite _ c i (some x) none)=some w):c/\x=w:=by
 by_cases hc:c
 ·rw[if_pos hc] at h;exact⟨hc,Option.some.inj h⟩
 ·rw[if_neg hc] at h;cases h
theorem kR {α:Type}{c:Prop}{i:Decidable c}{x:Option α}{w:α}(h:(@ite _ c i x none)=some w):c/\x=some w:=by
 by_cases hc:c
 ·rw[if_pos hc] at h;exact⟨hc,h⟩
 ·rw[if_neg hc] at h;cases h
theorem Jy {F:Hp}{x:V}{ds:List D}(r:bB F [x] ds):∃d,ds=[d]/\Rep F x d:=by
 cases r with
 | cons r rs=>cases rs;exact⟨_,rfl,r⟩
theorem u5 {F:Hp}{x y:V}{ds:List D}(r:bB F [x,y] ds):∃d e,ds=[d,e]/\Rep F x d/\Rep F y e:=by
 cases r with
 | cons r rs=>obtain⟨e,rfl,r2⟩:=Jy rs;exact⟨_,e,rfl,r,r2⟩
noncomputable def Gr (C:Int->Int->Bool) (h:Int->Int->D):List D->Option U
 | [.int i,.int j]=>if C i j then some (.t (h i j)) else none
 | _=>none
section
variable {X:Cx}
theorem sX {o:Value->Value->Sem Value}{C:Int->Int->Bool}{h:Int->Int->D}{r:R2}(hr:vV X o r) (k:∀i j H Q,C i j=true->Q (toV (h i j)) H->r (.int i) (.int j) H Q) (hf:∀i j,uZ (h i j)=true):zZ X o (Gr C h):=by
 intro pins s σ H x y v u Q I rx ry ⟨F,ds,w,sb,rs,hw,q⟩
 obtain⟨d,e,rfl,r1,r2⟩:=u5 rs
 cases r1 <;> cases r2 <;> try (simp[Gr] at hw;done)
 rename_i i j
 obtain⟨hc,rfl⟩:=dX hw
 exact hr pins s σ H _ _ v u Q I rx ry (k i j H Q hc (q _ F H (iC.refl ..) sb (yf (hf i j))))
noncomputable abbrev Ad:=Gr (fun _ _=>true) fun i j=>.bl (decide (i < j))
noncomputable abbrev MG:=Gr (fun _ _=>true) fun i j=>.bl (decide (j < i))
noncomputable abbrev MH:=Gr (fun _ _=>true) fun i j=>.bl (decide (j<=i))
noncomputable abbrev D9:=Gr (fun _ j=>decide (0 < j) && decide (j < 1073741824)) fun i j=>.int (i / j)
noncomputable abbrev yh:=Gr (fun _ j=>decide (0 < j)) fun i j=>.int (i % j)
noncomputable abbrev NU:=Gr (fun i j=>decide (0<=j) && (decide (j<=1000) && decide (i.natAbs < 2 ^ 64))) fun i j=>.int (i ^ j.toNat)
theorem v8:zZ X (compareOp .Lt) Ad:=sX Nl (fun i j H Q _ q=>⟨i,j,rfl,rfl,q⟩) fun _ _=>rfl
theorem Ae:zZ X (compareOp .Gt) MG:=sX Nm (fun i j H Q _ q=>⟨i,j,rfl,rfl,q⟩) fun _ _=>rfl
theorem Af:zZ X (compareOp .GtE) MH:=sX Nn (fun i j H Q _ q=>⟨i,j,rfl,rfl,q⟩) fun _ _=>rfl
theorem sy:zZ X (binaryOp .FloorDiv) D9:=sX GL (fun i j H Q c q=>⟨i,j,rfl,rfl,by simpa[Nk] using c,q⟩) fun _ _=>rfl
theorem lO:zZ X (binaryOp .Mod) yh:=sX KI (fun i j H Q c q=>⟨i,j,rfl,rfl,by simpa using c,q⟩) fun _ _=>rfl
theorem G8:zZ X (binaryOp .Pow) NU:=sX KJ (fun i j H Q c q=>⟨i,j,rfl,rfl,by
 simp only[Bool.and_eq_true,decide_eq_true_eq] at c
 exact⟨c.1,Int.le_trans c.2.1 (by decide),c.2.2⟩,q⟩) fun _ _=>rfl
theorem Sub.jV {F H:Hp}{v:V}{ds:List D}(s:Sub F H) (r:Rep F v (.tup ds)):∃a vs,v= .ref a/\F a=some (.tup vs)/\Rd H a (.tup vs)/\bB F vs ds:=by
 cases r with
 | tup e rs=>exact⟨_,_,rfl,e,Rd.of (s _ _ e),rs⟩
theorem Sub.jW {F H:Hp}{v:V}{ds:List D}(s:Sub F H) (r:Rep F v (.lst ds)):∃a vs,v= .ref a/\Rd F a (.lst vs)/\Rd H a (.lst vs)/\bB F vs ds:=by
 cases r with
 | lst e rs=>exact⟨_,_,rfl,e,e.imp (s _ _) fun⟨o,h⟩=>⟨o,s _ _ h⟩,rs⟩
theorem _root_.L2.Rd.Cy {pins:List (Addr×Obj)}{σ:St}{H:Hp}{s:Shared}(I:Inv X pins σ H s){l:Addr}{xs:List V}(h:Rd H l (.lst xs)):
  xs.length<=sizeLine/\∃its n,Vals xs its/\xs.length=its.length/\s.heap.get? l=some {cls:=.type "list",data:=.seq its.toArray n}:=by
 obtain⟨z,its,n,r,e⟩:=(h.ok I.hok:fG X.prog X.w H s.heap l (.lst xs))
 exact⟨z,its,n,r,r.length,e⟩
noncomputable def kr:List D->Option U
 | [.int i,.int j]=>some (.t (.int (i+j)))
 | [.str i,.str j]=>if i.length+j.length<=100000 then some (.t (.str (i++j))) else none
 | [.tup i,.tup j]=>if i.length+j.length<=100000 then some (.t (.tup (i++j))) else none
 | [.lst i,.lst j]=>if i.length+j.length<=100000 then some (.m (.lst (i++j))) else none
 | _=>none
theorem iG : zZ X (binaryOp .Add) kr := by
  intro pins s σ H x y v u Q I rx ry ⟨F,ds,w,sb,rs,hw,q⟩
  obtain⟨d,e,rfl,r1,r2⟩:=u5 rs
  cases d <;> cases e <;> try (simp[kr] at hw;done)
  . rename_i i j
    cases hw
    cases r1
    cases r2
    exact KG pins s σ H _ _ v u Q I rx ry ⟨i,j,rfl,rfl,q _ F H (iC.refl ..) sb (.int _)⟩
  . rename_i i j
    obtain⟨hl,rfl⟩:=dX hw
    cases r1
    cases r2
    exact zT pins s σ H _ _ v u Q I rx ry ⟨i,j,rfl,rfl,kB hl,q _ F H (iC.refl ..) sb (.str _)⟩
  . rename_i i j
    obtain⟨hl,rfl⟩:=dX hw
    have Yx:=r2
    have Yy:=r1
    obtain⟨a,xs,rfl,fa,ha,oA⟩:=sb.jV r1
    obtain⟨b,ys,rfl,fb,hb,CC⟩:=sb.jV r2
    by_cases hx:xs=[]
    . subst hx
      cases oA
      cases rx
      cases ry
      obtain⟨its,r1',p1,_⟩:=I.tuple (.inl ha)
      obtain⟨its2,r2',p2,_⟩:=I.tuple (.inl hb)
      cases r1'
      obtain⟨⟨cls,dd,data,sl⟩,ho,hc,n,hd⟩:=id p1
      obtain⟨⟨Rz,dd2,data2,sl2⟩,ho2,hc2,n2,hd2⟩:=id p2
      simp only at hc hd hc2 hd2
      subst hc hd hc2 hd2
      exact concat_meets ⟨_,ho,rfl⟩ ⟨_,ho2,rfl⟩ noFill_tuple_add seq_tuple_add PySem.F.slot_tuple_add PySem.F.entry_tuple_add (PySem.F.args_tuple_add_2 _ _)
        (tuple_addW0 a b _ _ n n2 dd dd2 sl sl2 (by simp)) ⟨ho,ho2,⟨.ref b,H,I,rfl,q _ F H (iC.refl ..) sb Yx⟩⟩
    . refine G3 pins s σ H (.ref a) (.ref b) v u Q I rx ry ⟨a,b,xs,ys,rfl,rfl,.inl ha,.inl hb,hx,?_,fun hy=>?_,fun hy p hp=>?_⟩
      . rw[oA.length,CC.length];exact kB hl
      . subst hy
        cases CC
        exact q _ F H (iC.refl ..) sb (by show Rep F (.ref a) (.tup (i++[]));rw[List.append_nil];exact Yy)
      . exact q _ _ _ (iC.root sb hp _) (sb.sV hp) (.tup aV ((oA.append CC).le (mU (sb.fresh hp))))
  . rename_i i j
    obtain⟨hl,rfl⟩:=dX hw
    obtain⟨a,xs,rfl,fa,ha,oA⟩:=sb.jW r1
    obtain⟨b,ys,rfl,fb,hb,CC⟩:=sb.jW r2
    cases rx
    cases ry
    obtain⟨z,its,n,r,hl1,e⟩:=Rd.Cy I ha
    obtain⟨z2,its2,n2,r2,hl2,e2⟩:=Rd.Cy I hb
    have hlen:xs.length+ys.length<=sizeLine:=by rw[oA.length,CC.length];exact kB hl
    refine PySem.P.add_list e e2 ?_ (by rw[List.size_toArray,List.size_toArray];omega)
    have ea:its.toArray++its2.toArray=(its++its2).toArray:=by simp
    rw[ea]
    have hp:H s.heap.objs.size=none:=I.fresh
    refine⟨.ref _,_,I.RC (t':=s.toks) (r.append r2) (by rw[List.length_append];omega),rfl,?_⟩
    exact q _ F _ (iC.obj hp _) (sb.same (iC.obj (F:=F) hp _).same) ⟨_,rfl,hp,sb.fresh hp,_,aV,oA.append CC⟩
noncomputable def Ag:List D->Option U:=Gr (fun i j=>(decide (-(2 ^ 64) < i) && decide (i < 2 ^ 64)) || (decide (-(2 ^ 64) < j) && decide (j < 2 ^ 64))) fun i j=>.int (i * j)
theorem pP:zZ X (binaryOp .Mult) Ag:=sX KH (fun i j H Q c q=>⟨i,j,rfl,rfl,by
 simp only[Bool.or_eq_true,Bool.and_eq_true,decide_eq_true_eq] at c
 exact c,q⟩) fun _ _=>rfl
noncomputable def sY:List D->Option U
 | [.tup ds,.int i]=>(cX ds i).map .t
 | [.lst ds,.int i]=>(cX ds i).map .t
 | [.str z,.int i]=>if z.length<=100000 then(cX z.cps.toList i).map fun c=>.t (.str ⟨#[c]⟩) else none
 | _=>none
theorem v9:DO X (fun x y H Q=>rP sY [x,y] H Q):=by
 intro value slice pins s σ H x y v u Q I rx ry ⟨F,ds,w,sb,rs,hw,q⟩ hsb
 obtain⟨d,e,rfl,r1,r2⟩:=u5 rs
 cases d <;> cases e <;> try (simp[sY] at hw;done)
 ·rename_i z i
  obtain⟨hl,hw⟩:=kR hw
  obtain⟨c,hc,hw⟩:=au hw
  subst hw
  cases r1
  cases r2
  exact DQ value slice pins s σ H _ _ v u Q I rx ry ⟨z,i,c,rfl,rfl,kB hl,hc,q _ F H (iC.refl ..) sb (.str _)⟩ hsb
 ·rename_i ds i
  obtain⟨c,hc,hw⟩:=au (show(cX ds i).map U.t=some w from hw)
  subst hw
  obtain⟨a,xs,rfl,fa,ha,oA⟩:=sb.jV r1
  cases r2
  obtain⟨w',h1,h2⟩:=oA.cX hc
  exact DP value slice pins s σ H _ _ v u Q I rx ry ⟨a,xs,i,w',rfl,rfl,.inl ha,h1,q _ F H (iC.refl ..) sb h2⟩ hsb
 ·rename_i ds i
  obtain⟨c,hc,hw⟩:=au (show(cX ds i).map U.t=some w from hw)
  subst hw
  obtain⟨a,xs,rfl,fa,ha,oA⟩:=sb.jW r1
  cases r2
  obtain⟨w',h1,h2⟩:=oA.cX hc
  exact vY value slice pins s σ H _ _ v u Q I rx ry ⟨a,xs,i,w',rfl,rfl,.inl ha,h1,q _ F H (iC.refl ..) sb h2⟩ hsb
noncomputable def uy:List D->Option U
 | [.tup ds]=>some (.t (.int ds.length))
 | [.lst ds]=>some (.t (.int ds.length))
 | [.str z]=>if z.length<=100000 then some (.t (.int z.length)) else none
 | _=>none
theorem qw:jk X (.builtin "len") (rP uy):=by
 intro pins s σ H xs us Q I r ⟨F,ds,w,sb,rs,hw,q⟩
 match xs,ds,rs with
 | [],[],_=>exact absurd hw (by simp[uy])
 | [x],_,rs=>
  obtain⟨d,rfl,r1⟩:=Jy rs
  cases d <;> try (simp[uy] at hw;done)
  ·rename_i z
   obtain⟨hl,rfl⟩:=dX hw
   cases r1
   exact pL pins s σ H _ us Q I r ⟨z,rfl,kB hl,q _ F H (iC.refl ..) sb (.int _)⟩
  ·cases hw
   obtain⟨a,xs,rfl,fa,ha,oA⟩:=sb.jV r1
   exact lK pins s σ H _ us Q I r ⟨a,xs,rfl,.inr (.inl ha),by rw[oA.length];exact q _ F H (iC.refl ..) sb (.int _)⟩
  ·cases hw
   obtain⟨a,xs,rfl,fa,ha,oA⟩:=sb.jW r1
   exact lK pins s σ H _ us Q I r ⟨a,xs,rfl,.inl (.inl ha),by rw[oA.length];exact q _ F H (iC.refl ..) sb (.int _)⟩
 | _ :: _ :: _,[],rs=>cases rs
 | _ :: _ :: _,[_],rs=>cases rs with | cons _ rs=>cases rs
 | _ :: _ :: _,_ :: _ :: _,_=>exact absurd hw (by simp[uy])
end
noncomputable def oB (i:Nat) (u:U) (S:SS):Option SS:=match S[i]? with
 | some (some (.b _))=>none
 | some _=>some (S.set i (some u))
 | none=>none
theorem CD {i:Nat}{u:U}{S S':SS}(h:oB i u S=some S'):S'=S.set i (some u)/\i < S.length/\∀o,S[i]?≠some (some (.b o)):=by
 unfold oB at h
 cases e:S[i]? with
 | none=>rw[e] at h;cases h
 | some w=>
  have hl:i < S.length:=(List.getElem?_eq_some_iff.mp e).1
  rw[e] at h
  cases w with
  | none=>cases h;exact⟨rfl,hl,fun o z=>by cases z⟩
  | some w=>
   cases w with
   | b o=>cases h
   | t d=>cases h;exact⟨rfl,hl,fun o z=>by cases z⟩
   | m d=>cases h;exact⟨rfl,hl,fun o z=>by cases z⟩
   | v d=>cases h;exact⟨rfl,hl,fun o z=>by cases z⟩
   | s d=>cases h;exact⟨rfl,hl,fun o z=>by cases z⟩
   | f d=>cases h;exact⟨rfl,hl,fun o z=>by cases z⟩
noncomputable def Jz (B:Base) (S:SS) (σ:St) (F H:Hp) (v:V):U->Prop
 | .t d=>Rep F v d
 | .m o=>∃a,v= .ref a/\F a=none/\At F H a o/\¬cy S σ a/\B.H a=none
 | _=>False
theorem Rel.put {K : PySem.W.Frag} {B : Base} {S S' : SS} {σ : St} {F H : Hp} {i : Nat} {u : U} {v : V} (R : Rel K B S σ F H) (h : oB i u S = some S') (p : Jz B S σ F H v u) : Rel K B S' (σ.set i (some v)) F H := by
  obtain⟨rfl,hl,nb⟩:=CD h
  have hl':i < σ.length:=by rw[<-R.len];exact hl
  have out:∀{j:Nat},i≠j->(σ.set i (some v))[j]? =σ[j]?:=fun ne=>List.getElem?_set_ne ne
  have sA:(σ.set i (some v))[i]? =some (some v):=List.getElem?_set_self hl'
  have JC:∀j w a,i≠j->S[j]? =some (some w)->gm w=true->gm u=true->σ[j]? =some (some (.ref a))->v≠.ref a:=fun j w a ne hj hm hu hv z=>by
    cases u with
    | t d=>cases hu
    | v k=>cases hu
    | s k=>cases hu
    | f k=>cases hu
    | b o=>exact p
    | m o=>
      obtain⟨c,e,_,_,nm,_⟩:=p
      rw[z] at e
      cases e
      exact nm ⟨j,w,hj,hm,hv⟩
  refine⟨R.sub,by rw[List.length_set,List.length_set];exact R.len,fun j w hj=>?_,fun j k w1 w2 a h1 m1 h2 m2 v1 v2=>?_,fun j o a hj hv=>?_,fun j o a hj hv=>?_,fun j a hj=>?_,R.ext⟩
  . rcases get_set hj with⟨rfl,q,_⟩ | ⟨ne,q⟩
    . cases q
      refine⟨v,sA,?_⟩
      cases u with
      | t d=>exact p
      | m o=>obtain⟨a,e,f,h,_⟩:=p;exact⟨a,e,f,h⟩
      | b o=>cases p
      | v k=>cases p
      | s k=>cases p
      | f k=>cases p
    . rw[out ne];exact R.rep j w q
  . rcases get_set h1 with⟨rfl,q1,_⟩ | ⟨ne1,q1⟩
    . rcases get_set h2 with⟨rfl,q2,_⟩ | ⟨ne2,q2⟩
      . rfl
      . cases q1
        rw[sA] at v1
        rw[out ne2] at v2
        cases v1
        exact absurd rfl (JC k w2 a ne2 q2 m2 m1 v2)
    . rcases get_set h2 with⟨rfl,q2,_⟩ | ⟨ne2,q2⟩
      . cases q2
        rw[sA] at v2
        rw[out ne1] at v1
        cases v2
        exact absurd rfl (JC j w1 a ne1 q1 m1 m2 v1)
      . rw[out ne1] at v1
        rw[out ne2] at v2
        exact R.yc j k w1 w2 a q1 m1 q2 m2 v1 v2
  . rcases get_set hj with⟨rfl,q,_⟩ | ⟨ne,q⟩
    . cases q
      rw[sA] at hv
      cases hv
      obtain⟨c,e,_,_,_,hB⟩:=p
      cases e
      exact hB
    . rw[out ne] at hv;exact R.own j o a q hv
  . rcases get_set hj with⟨rfl,q,_⟩ | ⟨ne,q⟩
    . cases q;cases p
    . rw[out ne] at hv;exact R.bor j o a q hv
  . obtain⟨h1,o,h2⟩:=R.par j a hj
    have ne:i≠j:=fun z=>by subst z;exact nb o h2
    exact⟨by rw[out ne];exact h1,o,by rw[List.getElem?_set_ne ne];exact h2⟩
noncomputable def kI:GS:=fun S=>some (.nx S)
noncomputable def aR (a b:GS):GS:=fun S=>(a S).bind fun o=>match o with
 | .nx S1=>b S1
 | o=>some o
noncomputable def bz (i:Nat) (g:GE):GS:=fun S=>(g S).bind fun p=>match p.1 with
 | .m o=>(oB i (.m o) p.2).map .nx
 | u=>(fz u p.2).bind fun q=>(oB i (.t q.1) q.2).map .nx
noncomputable def jo (g:GE):GS:=fun S=>(g S).map fun p=>.nx p.2
noncomputable def ff (g:GE):GS:=fun S=>(g S).bind fun p=>match p.1 with
 | .v i=>match p.2[i]? with
  | some (some (.t d))=>some (.rt (.t d) p.2)
  | some (some (.m o))=>some (.rt (.m o) (p.2.set i none))
  | _=>none
 | .s _=>none
 | .f _=>none
 | u=>some (.rt u p.2)
noncomputable def uz (q:GT) (a b:GS):GS:=fun S=>(q S).bind fun p=>if p.1 then a p.2 else b p.2
theorem Bm.mono {K:PySem.W.Frag}{B:Base}{F F1:Hp}{D:Ends}(g:∀b o,F b=some o->F1 b=some o):∀{o:Out},Bm K B F D o->Bm K B F1 D o
 | .nx _,h=>fun σ' F' H' R le=>h σ' F' H' R fun b o z=>le b o (g b o z)
 | .bk _,h=>fun σ' F' H' R le=>h σ' F' H' R fun b o z=>le b o (g b o z)
 | .ct _,h=>fun σ' F' H' R le=>h σ' F' H' R fun b o z=>le b o (g b o z)
 | .rt _ _,h=>fun v σ' F' H' R le=>h v σ' F' H' R fun b o z=>le b o (g b o z)
section
variable {X:Cx}{a b c e:Expr}{pos p p2:Pos}{x:Str}{st:Stmt}{rest b1 b2 body:List Stmt}{g:GE}{s1 s2:GS}{q1:GT}
theorem fY:JB X [] kI:=⟨fun B=>GH.imp fun D σ H ⟨S,F,o,R,h,k⟩=>by cases h;exact k σ F H R fun _ _ z=>z⟩
theorem az (h1:JS X st s1) (h2:JB X rest s2):JB X (st :: rest) (aR s1 s2):=⟨fun B=>(sM (h1.h B) (h2.h B)).imp fun D σ H ⟨S,F,o,R,h,k⟩=>by
 obtain⟨o1,e1,h⟩:=ah h
 refine⟨S,F,o1,R,e1,?_⟩
 cases o1 with
 | nx S1=>exact fun σ' F' H' R' le=>⟨S1,F',o,R',h,k.mono le⟩
 | rt u S1=>cases h;exact k
 | bk S1=>cases h;exact k
 | ct S1=>cases h;exact k⟩
theorem aZ (h1:JS X st s1):JB X [st] s1:=⟨fun B=>A6 (h1.h B)⟩
theorem jI.put {K:PySem.W.Frag}{B:Base}{S:SS}{σ:St}{H0 F H:Hp}{v:V}{o:MO}(r:jI K B S σ H0 F H v (.m o)):Jz B S σ F H v (.m o):=by
 obtain⟨a,e,_,f,h,n,hB⟩:=r
 exact⟨a,e,f,h,n,hB⟩
theorem Bp {i:Nat}{K:PySem.W.Frag}{B:Base}{D:Ends}{σ:St}{H:Hp}(h:tO K B (bz i g) D σ H):GK (tE K B g) (qV i) D σ H:=by
 obtain⟨S,F,o,R,h,k⟩:=h
 obtain⟨⟨u,S1⟩,h1,h⟩:=ah h
 refine⟨S,F,u,S1,R,h1,fun v F1 H1 R1 st1 r1=>?_⟩
 have go:(∀o',u≠.m o')->(fz u S1).bind (fun q=>(oB i (.t q.1) q.2).map Out.nx)=some o->D.nx (σ.set i (some v)) H1:=fun _ h=>by
  obtain⟨⟨d,S2⟩,h2,h⟩:=ah h
  obtain⟨S3,h3,h⟩:=au h
  subst h
  obtain⟨F2,R2,st2,r2⟩:=D5 R1 st1 r1 h2
  exact k _ F2 H1 (R2.put h3 r2) st2.ext.le
 cases u with
 | m o'=>
  obtain⟨S3,h3,h⟩:=au (show(oB i (.m o') S1).map Out.nx=some o from h)
  subst h
  exact k _ F1 H1 (R1.put h3 r1.put) st1.ext.le
 | t d=>exact go (fun _ z=>by cases z) h
 | b d=>exact go (fun _ z=>by cases z) h
 | s d=>exact go (fun _ z=>by cases z) h
 | f d=>exact go (fun _ z=>by cases z) h
 | v d=>exact go (fun _ z=>by cases z) h
theorem br {i:Nat}{pos':Pos}(hN:X.N.Nodup) (hi:X.N[i]? =some x) (hx:Loc X.env.scope x) (he:JE X e g) (hs:swapsWith e (some (.Name x pos')) pos.line X.env=pure false:=by rfl)
  (hf:X.fn x=true\/X.env.scope.names.lookup x=some .local:=by first | exact .inl rfl | exact .inr rfl | assumption):JS X (.Assign [.Name x pos'] e pos) (bz i g):=
 ⟨fun B=>(Ku hN hi hx (he.h B) hs hf).imp fun D σ H h=>Bp h⟩
theorem gC (he:JE X e g) (hs:swapsWith e none pos.line X.env=pure false:=by rfl):JS X (.Expr e pos) (jo g):=⟨fun B=>(A7 (he.h B) hs).imp fun D σ H ⟨S,F,o,R,h,k⟩=>by
 obtain⟨⟨u,S1⟩,h1,h⟩:=au h
 subst h
 exact⟨S,F,u,S1,R,h1,fun v F1 H1 R1 st1 r1=>k σ F1 H1 R1 st1.ext.le⟩⟩
theorem Rel.drop {K:PySem.W.Frag}{B:Base}{S:SS}{σ:St}{F H:Hp}{i:Nat}{o:MO}(R:Rel K B S σ F H) (h:S[i]? =some (some (.m o))):Rel K B (S.set i none) σ F H:=by
 have back:∀{j w},(S.set i none)[j]? =some (some w)->i≠j/\S[j]? =some (some w):=fun {j w} z=>by
  rcases get_set z with⟨_,q,_⟩ | q
  ·cases q
  ·exact q
 refine⟨R.sub,by rw[List.length_set];exact R.len,fun j w z=>R.rep j w (back z).2,fun j k w1 w2 a h1 m1 h2 m2=>R.yc j k w1 w2 a (back h1).2 m1 (back h2).2 m2,fun j o a z=>R.own j o a (back z).2,fun j o a z=>R.bor j o a (back z).2,fun j a z=>?_,R.ext⟩
 obtain⟨k1,o',k2⟩:=R.par j a z
 have ne:i≠j:=fun z=>by subst z;rw[h] at k2;cases k2
 exact⟨k1,o',by rw[List.getElem?_set_ne ne];exact k2⟩
theorem bW (he:JE X e g):JS X (.Return (some e) pos) (ff g):=⟨fun B=>(Kq (he.h B)).imp fun D σ H ⟨S,F,o,R,h,k⟩=>by
  obtain⟨⟨u,S1⟩,h1,h⟩:=ah h
  refine⟨S,F,u,S1,R,h1,fun v F1 H1 R1 st1 r1=>?_⟩
  cases u with
  | t d=>cases h;exact k v σ F1 H1 R1 st1.ext.le r1
  | b d=>cases h;cases r1
  | s d=>cases h
  | f d=>cases h
  | m o'=>cases h;exact k v σ F1 H1 R1 st1.ext.le (by obtain⟨a,e,h0,f,h,n,hB⟩:=r1;exact⟨a,e,hB,f,h,n,hB⟩)
  | v i =>
    obtain⟨hv,w,hw⟩:=r1
    dsimp only at h
    rw[hw] at h
    obtain⟨v',z1,z2⟩:=R1.rep i w hw
    rw[hv] at z1
    cases z1
    cases w with
    | t d=>cases h;exact k v σ F1 H1 R1 st1.ext.le z2
    | b d=>cases h
    | v d=>cases h
    | s d=>cases h
    | f d=>cases h
    | m o'=>
      cases h
      obtain⟨a,rfl,f,ha⟩:=z2
      have hB:=R1.own i o' a hw hv
      refine k _ σ F1 H1 (R1.drop hw) st1.ext.le ⟨a,rfl,hB,f,ha,fun⟨j,w,z,hm,hj⟩=>?_,hB⟩
      rcases get_set z with⟨_,q,_⟩ | ⟨ne,q⟩
      . cases q
      . exact ne (R1.yc i j _ w a hw rfl q hm hv hj)⟩
theorem iN (hc:JT X c q1) (ha:JB X b1 s1) (hb:JB X b2 s2):JS X (.If c b1 b2 pos) (uz q1 s1 s2):=⟨fun B=>(Nc (hc.h B) (ha.h B) (hb.h B)).imp fun D σ H ⟨S,F,o,R,h,k⟩=>by
 obtain⟨⟨d,S1⟩,h1,h⟩:=ah h
 refine⟨S,F,d,S1,R,h1,fun F1 H1 R1 st1=>?_⟩
 cases d with
 | true=>exact xZ ⟨S1,F1,o,R1,h,k.mono st1.ext.le⟩
 | false=>exact xY ⟨S1,F1,o,R1,h,k.mono st1.ext.le⟩⟩
noncomputable abbrev GB:=D->SS->Option SS
noncomputable def W7 (K:PySem.W.Frag) (B:Base) (bd:GB):TG:=fun v σ H Q=>∃S F d S',Rel K B S σ F H/\Rep F v d/\bd d S=some S'/\∀σ',Rel K B S' σ' F H->Q σ' H
structure JG (X:Cx) (tg:Expr) (bd:GB):Prop where
 h:∀B,PG X tg (W7 X.K B bd)
noncomputable abbrev Gs:=List D->SS->Option SS
noncomputable def R8 (K:PySem.W.Frag) (B:Base) (bd:Gs):GJ:=fun vs σ H Q=>∃S F ds S',Rel K B S σ F H/\bB F vs ds/\bd ds S=some S'/\∀σ',Rel K B S' σ' F H->Q σ' H
structure P9 (X:Cx) (Ea:List Expr) (bd:Gs):Prop where
 h:∀B,Jj X Ea (R8 X.K B bd)
theorem PG.imp {tg:Expr}{t t':TG}(h:PG X tg t) (k:∀v σ H Q,t' v σ H Q->t v σ H Q):PG X tg t':=fun pins s σ H v u Q I r q=>h pins s σ H v u Q I r (k v σ H Q q)
theorem Jj.imp {tg:List Expr}{t t':GJ}(h:Jj X tg t) (k:∀v σ H Q,t' v σ H Q->t v σ H Q):Jj X tg t':=fun pins s σ H v u Q I r q=>h pins s σ H v u Q I r (k v σ H Q q)
noncomputable def bName (i:Nat):GB:=fun d S=>oB i (.t d) S
theorem cT {i:Nat}(hN:X.N.Nodup) (hi:X.N[i]? =some x) (hx:Loc X.env.scope x) (hf:X.fn x=true\/X.env.scope.names.lookup x=some .local:=by first | exact .inl rfl | exact .inr rfl | assumption):JG X (.Name x pos) (bName i):=
 ⟨fun B=>(sf hN hi hx hf).imp fun v σ H Q ⟨S,F,d,S',R,r,h,k⟩=>k _ (R.put h r)⟩
noncomputable def o7:Gs:=fun ds S=>match ds with
 | []=>some S
 | _=>none
noncomputable def eZ (b:GB) (bs:Gs):Gs:=fun ds S=>match ds with
 | d :: r=>(b d S).bind fun S1=>bs r S1
 | []=>none
theorem pQ:P9 X [] o7:=⟨fun B=>A8.imp fun vs σ H Q ⟨S,F,ds,S',R,r,h,k⟩=>by
 cases r with
 | nil=>cases h;exact⟨rfl,k σ R⟩
 | cons _ _=>cases h⟩
theorem gX {tg:Expr}{Ea:List Expr}{bd:GB}{NV:Gs}(h1:JG X tg bd) (h2:P9 X Ea NV) (hs:(assignEach (tg :: Ea) X.env).map (·.2)=assign tg X.env :: (assignEach Ea X.env).map (·.2):=by rfl):P9 X (tg :: Ea) (eZ bd NV):=
 ⟨fun B=>(sN (h1.h B) (h2.h B) hs).imp fun vs σ H Q ⟨S,F,ds,S',R,r,h,k⟩=>by
 cases r with
 | nil=>cases h
 | cons r rs=>
  obtain⟨S1,e1,h⟩:=ah h
  exact⟨_,_,rfl,S,F,_,S1,R,r,e1,fun σ1 R1=>⟨S1,F,_,S',R1,rs,h,k⟩⟩⟩
noncomputable def oE (n:Nat) (bs:Gs):GB:=fun d S=>match d with
 | .tup ds=>if ds.length=n then bs ds S else none
 | _=>none
theorem sZ {Ea:List Expr}{k0:Nat}{NV:Gs}{n:Nat}(hc:X.calm=true) (h:P9 X Ea NV) (hn:(assignEach Ea X.env).length=n:=by rfl) (hst:(assignEach Ea X.env).findIdx? (·.1)=none:=by rfl):JG X (.Tuple Ea k0 pos) (oE n NV):=
 ⟨fun B=>(Dz hc (h.h B) hn hst).imp fun v σ H Q ⟨S,F,d,S',R,r,h,k⟩=>by
 cases d <;> try (cases h)
 rename_i ds
 unfold oE at h
 dsimp only at h
 split at h
 ·rename_i hl
  obtain⟨a,vs,rfl,fa,ha,rs⟩:=R.sub.jV r
  exact⟨a,vs,rfl,.inl ha,by rw[rs.length];exact hl,S,F,ds,S',R,rs,h,k⟩
 ·cases h⟩
noncomputable def Eb (bd:GB) (g:GD):GS:=fun S=>(g S).bind fun p=>(bd p.1 p.2).map .nx
theorem Ec {tg:Expr}{bd:GB}{gd:GD}(he:JD X e gd) (hg:JG X tg bd) (hs:swapsWithSole [tg] e pos.line X.env=pure false:=by rfl) (hw:swappedStores [tg] e X.env=pure none:=by rfl)
  (h1:(assignEach [tg] X.env).map (·.2)=[assign tg X.env]:=by rfl):JS X (.Assign [tg] e pos) (Eb bd gd):=
 ⟨fun B=>(DA (he.h B) (hg.h B) hs hw h1).imp fun D σ H ⟨S,F,o,R,h,k⟩=>by
 obtain⟨⟨d,S1⟩,e1,h⟩:=ah h
 obtain⟨S2,e2,h⟩:=au h
 subst h
 exact⟨S,F,d,S1,R,e1,fun v F1 H1 R1 st1 r1=>⟨S1,F1,d,S2,R1,r1,e2,fun σ' R2=>k σ' F1 H1 R2 st1.ext.le⟩⟩⟩
noncomputable def Walk (J:It) (F:Hp) (ds:List D):Prop:=∀F' H',(∀b o,F b=some o->F' b=some o)->Sub F' H'->∀i,(∀d,ds[i]? =some d->J.go i H'/\∀x H2,J.MC i H' x H2->H2=H'/\Rep F' x d)/\(ds.length<=i->J.stop i H')
noncomputable abbrev GI:=SS->Option (List D×SS)
noncomputable def R9 (K:PySem.W.Frag) (B:Base) (gi:GI):TI:=fun σ H R=>∃S F ds S',Rel K B S σ F H/\gi S=some (ds,S')/\∀J F' H',Rel K B S' σ F' H'->Step S S' σ F H F' H'->Walk J F' ds->R J H'
structure JI (X:Cx) (tg e:Expr) (gi:GI):Prop where
 h:∀B,PI X tg e (R9 X.K B gi)
theorem PI.orelse {tg:Expr}{wi:TI}(h:∀σ H R,wi σ H R->∃wi',PI X tg e wi'/\wi' σ H R):PI X tg e wi:=fun pins s σ H R I q=>let⟨_,h1,h2⟩:=h σ H R q;h1 pins s σ H R I h2
noncomputable def CF (g:GD):GI:=fun S=>(g S).bind fun p=>match p.1 with
 | .tup ds=>some (ds,p.2)
 | .lst ds=>some (ds,p.2)
 | _=>none
noncomputable def cU (g:GD):GI:=fun S=>(g S).bind fun p=>match p.1 with
 | .tup ds=>some (ds,p.2)
 | .lst ds=>some (ds,p.2)
 | .str z=>some (z.cps.toList.map fun c=>.str ⟨#[c]⟩,p.2)
 | _=>none
theorem u6 {K:PySem.W.Frag}{F:Hp}{a:Addr}{vs:List V}{ds:List D}(fa:Rd F a (.lst vs)) (rs:bB F vs ds):Walk (Ro K a) F ds:=fun F' H' le sb i=>by
 have ha:oW K H' a vs:=.inl (fa.imp (fun z=>sb a _ (le _ _ z)) fun⟨o,z⟩=>⟨o,sb a _ (le _ _ z)⟩)
 refine⟨fun d hd=>?_,fun hl=>⟨vs,ha,by rw[rs.length];exact hl⟩⟩
 obtain⟨v,h1,h2⟩:=rs.get hd
 refine⟨⟨vs,v,ha,h1⟩,fun x H2 y=>⟨y.1,?_⟩⟩
 have:=y.2 vs ha
 rw[h1] at this
 cases this
 exact h2.le le
theorem yi {K:PySem.W.Frag}{F:Hp}{a:Addr}{vs:List V}{ds:List D}(fa:F a=some (.tup vs)) (rs:bB F vs ds):Walk (Rp K a) F ds:=fun F' H' le sb i=>by
 have ha:vU K H' a vs:=.inl (Rd.of (sb a _ (le _ _ fa)))
 refine⟨fun d hd=>?_,fun hl=>⟨vs,ha,by rw[rs.length];exact hl⟩⟩
 obtain⟨v,h1,h2⟩:=rs.get hd
 refine⟨⟨vs,v,ha,h1⟩,fun x H2 y=>⟨y.1,?_⟩⟩
 have:=y.2 vs ha
 rw[h1] at this
 cases this
 exact h2.le le
theorem Ed {F:Hp}{z:Str}:Walk (R6 z) F (z.cps.toList.map fun c=>.str ⟨#[c]⟩):=fun F' H' le sb i=>by
 refine⟨fun d hd=>?_,fun hl=>(show z.cps.size<=i by simpa using hl)⟩
 rw[List.getElem?_map] at hd
 obtain⟨c,hc,rfl⟩:=au hd
 have hc':z.cps[i]? =some c:=by rw[<-Array.getElem?_toList];exact hc
 refine⟨(Array.getElem?_eq_some_iff.mp hc').1,fun x H2 y=>⟨y.1,?_⟩⟩
 obtain⟨c2,k1,rfl⟩:=y.2
 rw[hc'] at k1
 cases k1
 exact .str _
theorem Ef {tg:Expr}{gd:GD}(h:JD X e gd):JI X tg e (CF gd):=⟨fun B=>PI.orelse fun σ H R0 ⟨S,F,ds,S',R,hg,k⟩=>by
 obtain⟨⟨d,S1⟩,h1,hg⟩:=ah hg
 cases d <;> try (cases hg)
 ·refine⟨_,DE (h.h B),S,F,_,_,R,h1,fun v F1 H1 R1 st1 r1=>?_⟩
  obtain⟨a,vs,rfl,fa,ha,rs⟩:=R1.sub.jV r1
  exact⟨a,rfl,⟨vs,.inl ha⟩,k _ F1 H1 R1 st1 (yi fa rs)⟩
 ·refine⟨_,A9 (h.h B),S,F,_,_,R,h1,fun v F1 H1 R1 st1 r1=>?_⟩
  obtain⟨a,vs,rfl,fa,ha,rs⟩:=R1.sub.jW r1
  exact⟨a,rfl,⟨vs,.inl ha⟩,k _ F1 H1 R1 st1 (u6 fa rs)⟩⟩
theorem dw {gd:GD}(h:JD X e gd):JI X (.Name x pos) e (cU gd):=⟨fun B=>PI.orelse fun σ H R0 ⟨S,F,ds,S',R,hg,k⟩=>by
 obtain⟨⟨d,S1⟩,h1,hg⟩:=ah hg
 cases d <;> try (cases hg)
 ·refine⟨_,La (h.h B),S,F,_,_,R,h1,fun v F1 H1 R1 st1 r1=>?_⟩
  exact⟨_,Bo r1,k _ F1 H1 R1 st1 Ed⟩
 ·refine⟨_,DE (h.h B),S,F,_,_,R,h1,fun v F1 H1 R1 st1 r1=>?_⟩
  obtain⟨a,vs,rfl,fa,ha,rs⟩:=R1.sub.jV r1
  exact⟨a,rfl,⟨vs,.inl ha⟩,k _ F1 H1 R1 st1 (yi fa rs)⟩
 ·refine⟨_,A9 (h.h B),S,F,_,_,R,h1,fun v F1 H1 R1 st1 r1=>?_⟩
  obtain⟨a,vs,rfl,fa,ha,rs⟩:=R1.sub.jW r1
  exact⟨a,rfl,⟨vs,.inl ha⟩,k _ F1 H1 R1 st1 (u6 fa rs)⟩⟩
noncomputable def mD (lo:Int) (n:Nat):List D:=(List.range n).map fun(k:Nat)=>D.int (lo+(k:Int))
noncomputable def iO (gA:GA):GI:=fun S=>(gA S).bind fun p=>match p.1 with
 | [.int j]=>if j < 1000000/\-1000000 < j then some (mD 0 j.toNat,p.2) else none
 | _=>none
theorem Eg {F:Hp}{lo:Int}{n:Nat}:Walk (PY lo n) F (mD lo n):=fun F' H' le sb i=>by
 refine⟨fun d hd=>?_,fun hl=>(show n<=i by simpa[mD] using hl)⟩
 unfold mD at hd
 rw[List.getElem?_map] at hd
 obtain⟨c,hc,rfl⟩:=au hd
 obtain⟨hl,e⟩:=List.getElem?_eq_some_iff.mp hc
 rw[List.getElem_range] at e
 subst e
 refine⟨show i < n by simpa using hl,fun x H2 y=>⟨y.1,?_⟩⟩
 rw[y.2]
 exact .int _
theorem jN {tg : Expr} {gA : GA} (hg : Gl X "range") (hm : X.mg "range" = none) (ha : JA X [a] gA) (hs : starEach [a] X.env = [(false, eval a X.env)] := by rfl) : JI X tg (.Call (.Name "range" p) [a] [] pos) (iO gA) :=
  ⟨fun B=>PI.orelse fun σ H R0 ⟨S,F,ds,S',R,hg',k⟩=>by
  obtain⟨⟨d,S1⟩,h1,hg'⟩:=ah hg'
  refine⟨_,Cr hg hm (ha.h B) hs,S,F,d,S1,R,h1,fun vs F1 H1 R1 st1 r1=>?_⟩
  dsimp only at hg'
  split at hg'
  . split at hg'
    . rename_i j hj
      cases hg'
      cases r1 with
      | cons r rs=>
        cases rs
        exact⟨j,by rw[i9 r],by omega,by omega,k _ F1 H1 R1 st1 Eg⟩
    . cases hg'
  . cases hg'⟩
noncomputable def loop (bd:GB) (body:GS):List D->SS->Option Out
 | [],S=>some (.nx S)
 | d :: ds,S=>(bd d S).bind fun S1=>(body S1).bind fun o=>match o with
  | .nx S2=>loop bd body ds S2
  | .ct S2=>loop bd body ds S2
  | .bk S2=>some (.nx S2)
  | .rt u S2=>some (.rt u S2)
noncomputable def jX (bd:GB) (gi:GI) (body:GS):GS:=fun S=>(gi S).bind fun p=>loop bd body p.1 p.2
theorem mV {tg iter:Expr}{bd:GB}{gi:GI}(hp:PassesOwn (model X.prog X.w) X.A X.env X.xe) (hc:X.calm=true) (hi:JI X tg iter gi) (hg:JG X tg bd) (hb:JB X body s1) (hs:∀x,foldedSetIterable iter X.env x=pure x:=by intro _;rfl):
  JS X (.For tg iter body [] pos) (jX bd gi s1):=⟨fun B=>(zS hp hc (hi.h B) (hg.h B) (hb.h B) hs).imp fun D σ H ⟨S,F,o,R,h,k⟩=>by
 obtain⟨⟨ds,S1⟩,h1,h⟩:=ah h
 refine⟨S,F,ds,S1,R,h1,fun J F1 H1 R1 st1 w=>?_⟩
 refine⟨fun i m σ' H'=>∃S' F',Rel X.K B S' σ' F' H'/\(∀b o,F1 b=some o->F' b=some o)/\i<=ds.length/\m=ds.length - i/\loop bd s1 (ds.drop i) S'=some o,⟨_,S1,F1,R1,fun _ _ z=>z,Nat.zero_le _,rfl,h⟩,?_⟩
 rintro i m σ' H' ⟨S',F',R',le,hl,rfl,cD⟩
 have w':=w F' H' le R'.sub i
 by_cases hlt:i < ds.length
 ·have hd:ds[i]? =some ds[i]:=List.getElem?_eq_getElem hlt
  obtain⟨go,yl⟩:=w'.1 _ hd
  rw[List.drop_eq_getElem_cons hlt] at cD
  obtain⟨S2,e2,cD⟩:=ah cD
  obtain⟨o2,e3,cD⟩:=ah cD
  refine .inr ⟨go,_,fun σ2 H2 n=>⟨ds.length - (i+1),by omega,n⟩,fun x H2 y=>?_⟩
  obtain⟨rfl,rx⟩:=yl x H2 y
  refine⟨S',F',_,S2,R',rx,e2,fun σ3 R3=>⟨S2,F',o2,R3,e3,?_⟩⟩
  cases o2 with
  | nx S3=>exact fun xB F4 H4 R4 rS=>⟨S3,F4,R4,fun b o z=>rS b o (le b o z),hlt,rfl,cD⟩
  | ct S3=>exact fun xB F4 H4 R4 rS=>⟨S3,F4,R4,fun b o z=>rS b o (le b o z),hlt,rfl,cD⟩
  | bk S3=>cases cD;exact fun xB F4 H4 R4 rS=>k xB F4 H4 R4 fun b o z=>rS b o (le b o (st1.ext.le b o z))
  | rt u S3=>cases cD;exact fun v xB F4 H4 R4 rS=>k v xB F4 H4 R4 fun b o z=>rS b o (le b o (st1.ext.le b o z))
 ·have e:i=ds.length:=by omega
  subst e
  rw[List.drop_length] at cD
  cases cD
  exact .inl ⟨w'.2 (Nat.le_refl _),k σ' F' H' R' fun b o z=>le b o (st1.ext.le b o z)⟩⟩
noncomputable def iH (q:GT) (body:GS):Nat->SS->Option Out
 | 0,_=>none
 | n+1,S=>(q S).bind fun p=>if p.1 then(body p.2).bind fun o=>match o with
  | .nx S2=>iH q body n S2
  | .ct S2=>iH q body n S2
  | .bk S2=>some (.nx S2)
  | .rt u S2=>some (.rt u S2)
 else some (.nx p.2)
noncomputable def iR (fuel:Nat) (q:GT) (body:GS):GS:=fun S=>iH q body fuel S
theorem kT {fuel:Nat}(hp:PassesOwn (model X.prog X.w) X.A X.env X.xe) (hc:JT X c q1) (hb:JB X body s1):JS X (.While c body [] pos) (iR fuel q1 s1):=⟨fun B=>(DB hp (hc.h B) (hb.h B)).imp fun D σ H ⟨S,F,o,R,h,k⟩=>by
 refine⟨fun m σ' H'=>∃S' F',Rel X.K B S' σ' F' H'/\(∀b o,F b=some o->F' b=some o)/\iH q1 s1 m S'=some o,⟨fuel,S,F,R,fun _ _ z=>z,h⟩,?_⟩
 rintro m σ' H' ⟨S',F',R',le,h⟩
 cases m with
 | zero=>cases h
 | succ m=>
  obtain⟨⟨d,S1⟩,h1,h⟩:=ah h
  refine⟨S',F',d,S1,R',h1,fun F1 H1 R1 st1=>?_⟩
  cases d with
  | false=>
   cases h
   exact xY (k σ' F1 H1 R1 fun b o z=>st1.ext.le b o (le b o z))
  | true=>
   obtain⟨o2,e3,h⟩:=ah (show(s1 S1).bind _=some o from h)
   refine xZ ⟨_,fun σ2 H2 n=>⟨m,Nat.lt_succ_self m,n⟩,S1,F1,o2,R1,e3,?_⟩
   have NW:∀b o,F b=some o->F1 b=some o:=fun b o z=>st1.ext.le b o (le b o z)
   cases o2 with
   | nx S3=>exact fun xB F4 H4 R4 rS=>⟨S3,F4,R4,fun b o z=>rS b o (NW b o z),h⟩
   | ct S3=>exact fun xB F4 H4 R4 rS=>⟨S3,F4,R4,fun b o z=>rS b o (NW b o z),h⟩
   | bk S3=>cases h;exact fun xB F4 H4 R4 rS=>k xB F4 H4 R4 fun b o z=>rS b o (NW b o z)
   | rt u S3=>cases h;exact fun v xB F4 H4 R4 rS=>k v xB F4 H4 R4 fun b o z=>rS b o (NW b o z)⟩
end
noncomputable def MI:U->MO->Option U
 | .m _,o=>some (.m o)
 | .b _,o=>some (.b o)
 | _,_=>none
noncomputable def MJ:U->Option MO
 | .m o=>some o
 | .b o=>some o
 | _=>none
noncomputable def jq (S:SS) (i:Nat) (f:MO->Option (D×MO)):Option (D×SS):=match S[i]? with
 | some (some (.m o))=>(f o).map fun r=>(r.1,S.set i (some (.m r.2)))
 | some (some (.b o))=>(f o).map fun r=>(r.1,S.set i (some (.b r.2)))
 | _=>none
theorem At.NX {F H:Hp}{a:Addr}{o:MO}{ob:Obj}{u:HO}(h:At F H a o):H a≠some (.jA ob u):=fun z=>by
 cases o with
 | lst ds=>obtain⟨vs,e,_⟩:=h;rw[z] at e;cases e
 | dct ds=>obtain⟨vs,e,_⟩:=h;rw[z] at e;cases e
 | cS ds=>obtain⟨vs,e,_⟩:=h;rw[z] at e;cases e
 | ins C ds=>obtain⟨vs,⟨dx,e⟩,_⟩:=h;rw[z] at e;cases e
theorem sS.cy {K:PySem.W.Frag}{F H:Hp}{v:V}{u:U}(r:sS K F H v u) (hm:gm u=true):∃a o,v= .ref a/\F a=none/\MJ u=some o/\At F H a o:=by
 cases u with
 | t d=>cases hm
 | v d=>cases hm
 | s d=>cases hm
 | f d=>cases hm
 | m o=>obtain⟨a,e,f,h⟩:=r;exact⟨a,o,e,f,rfl,h⟩
 | b o=>obtain⟨a,e,f,h⟩:=r;exact⟨a,o,e,f,rfl,h⟩
theorem Rel.write {K : PySem.W.Frag} {B : Base} {S : SS} {σ : St} {F H : Hp} {i : Nat} {u u' : U} {a : Addr} {ho : HO} {o : MO} (R : Rel K B S σ F H) (hS : S[i]? = some (some u)) (hu : MI u o = some u') (hv : σ[i]? = some (some (.ref a))) (ha : At F (upd H a ho) a o) :
    Rel K B (S.set i (some u')) σ F (upd H a ho)/\Step S (S.set i (some u')) σ F H F (upd H a ho):=by
  have hm:gm u=true/\gm u'=true:=by cases u <;> cases hu <;> exact⟨rfl,rfl⟩
  have NY:F a=none/\∀b ob w,H b=some (.jA ob w)->b≠a:=by
    obtain⟨v,h1,h2⟩:=R.rep i u hS
    rw[hv] at h1
    cases h1
    obtain⟨b,_,e,f,_,k⟩:=h2.cy hm.1
    cases e
    exact⟨f,fun b ob w z e=>k.NX (by rw[e] at z;exact z)⟩
  have NZ:=NY.1
  have JF:∀b ob w,H b=some (.jA ob w)->upd H a ho b=some (.jA ob w):=fun b ob w z=>by rw[aE (NY.2 b ob w z)];exact z
  have Yz:L2.cy S σ a:=⟨i,u,hS,hm.1,hv⟩
  have hl:i < S.length:=(List.getElem?_eq_some_iff.mp hS).1
  have kb:∀{j w},(S.set i (some u'))[j]? =some (some w)->(i=j/\u'=w)\/(i≠j/\S[j]? =some (some w)):=fun {j w} z=>by
    rcases get_set z with⟨e,q,_⟩ | q
    . exact .inl ⟨e,Option.some.inj q⟩
    . exact .inr q
  have orig:∀{j w},(S.set i (some u'))[j]? =some (some w)->gm w=true->∃w0,S[j]? =some (some w0)/\gm w0=true:=fun {j w} z hw=>by
    rcases kb z with⟨rfl,rfl⟩ | ⟨_,q⟩
    . exact⟨u,hS,hm.1⟩
    . exact⟨w,q,hw⟩
  have keepR:∀b o,b≠a->Rd H b o->Rd (upd H a ho) b o:=fun b o ne r=>by
    rcases r with r | ⟨ob,r⟩
    . exact .inl (by rw[aE ne];exact r)
    . exact .inr ⟨ob,by rw[aE ne];exact r⟩
  refine⟨⟨fun b o z=>by rw[aE (fun e=>by rw[e,NZ] at z;cases z)];exact R.sub b o z,by rw[List.length_set];exact R.len,fun j w z=>?_,fun j k w1 w2 c z1 m1 z2 m2=>?_,fun j o' c z hc=>?_,fun j o' c z hc=>?_,fun j c z=>?_,?_⟩,⟨?_,fun c ⟨j,w,z,hw,hc⟩=>?_,fun j w z=>?_⟩⟩
  . rcases kb z with⟨rfl,rfl⟩ | ⟨ne,q⟩
    . refine⟨.ref a,hv,?_⟩
      cases u <;> cases hu
      . exact⟨a,rfl,NZ,ha⟩
      . exact⟨a,rfl,NZ,ha⟩
    . obtain⟨v,h1,h2⟩:=R.rep j w q
      refine⟨v,h1,?_⟩
      by_cases hw:gm w=true
      . obtain⟨c,o',rfl,f,e,h⟩:=h2.cy hw
        have hca:c≠a:=fun z=>ne (R.yc i j u w a hS hm.1 q hw hv (by rw[h1,z]))
        have h':At F (upd H a ho) c o':=h.le (fun _ _ z=>z) fun o z=>by rw[aE hca];exact z
        cases w <;> cases hw <;> cases e
        . exact⟨c,rfl,f,h'⟩
        . exact⟨c,rfl,f,h'⟩
      . cases w with
        | t d=>exact h2
        | v d=>exact h2
        | s d=>obtain⟨c,e,h⟩:=h2;exact⟨c,e,h.le JF⟩
        | f d=>exact h2
        | m o=>exact absurd rfl hw
        | b o=>exact absurd rfl hw
  . obtain⟨Sa,q1,n1⟩:=orig z1 m1
    obtain⟨Sd,q2,n2⟩:=orig z2 m2
    exact R.yc j k Sa Sd c q1 n1 q2 n2
  . rcases kb z with⟨rfl,rfl⟩ | ⟨_,q⟩
    . cases u <;> cases hu
      exact R.own _ _ c hS hc
    . exact R.own j o' c q hc
  . rcases kb z with⟨rfl,rfl⟩ | ⟨_,q⟩
    . cases u <;> cases hu
      exact R.bor _ _ c hS hc
    . exact R.bor j o' c q hc
  . obtain⟨k1,o',k2⟩:=R.par j c z
    refine⟨k1,?_⟩
    by_cases e:i=j
    . subst e
      rw[hS] at k2
      cases k2
      cases hu
      exact⟨o,List.getElem?_set_self hl⟩
    . exact⟨o',by rw[List.getElem?_set_ne e];exact k2⟩
  . refine⟨R.ext.le,fun b o z n=>?_,R.ext.ig,fun b o z=>?_,fun b o w z=>JF b o w (R.ext.jA b o w z)⟩
    . have hb:b≠a:=fun e=>by
        subst e
        cases u with
        | m o'=>rw[R.own i o' b hS hv] at z;cases z
        | b o'=>exact n (R.bor i o' b hS hv)
        | t d=>cases hu
        | v d=>cases hu
        | s d=>cases hu
        | f d=>cases hu
      rw[aE hb]
      exact R.ext.keep b o z n
    . by_cases hb:b=a
      . exact⟨ho,by rw[hb,aV]⟩
      . rw[aE hb];exact R.ext.there b o z
  . refine⟨fun _ _ z=>z,fun b o z n=>?_,fun _ _ _ _ z=>z,fun b o z=>?_,JF⟩
    . rw[aE (fun e=>n (by rw[e];exact Yz))];exact z
    . by_cases hb:b=a
      . exact⟨ho,by rw[hb,aV]⟩
      . exact⟨o,by rw[aE hb];exact z⟩
  . obtain⟨w0,q,n⟩:=orig z hw
    exact⟨j,w0,q,n,hc⟩
  . by_cases e:i=j
    . subst e;exact⟨u',List.getElem?_set_self hl⟩
    . exact⟨w,by rw[List.getElem?_set_ne e];exact z⟩
theorem ve {S S':SS}{i:Nat}{f:MO->Option (D×MO)}{d:D}(h:jq S i f=some (d,S')):∃u u' o o',S[i]? =some (some u)/\gm u=true/\MJ u=some o/\f o=some (d,o')/\MI u o'=some u'/\S'=S.set i (some u'):=by
 unfold jq at h
 split at h
 ·rename_i o e
  obtain⟨⟨d',o'⟩,h1,h⟩:=au h
  cases h
  exact⟨_,_,o,o',e,rfl,rfl,h1,rfl,rfl⟩
 ·rename_i o e
  obtain⟨⟨d',o'⟩,h1,h⟩:=au h
  cases h
  exact⟨_,_,o,o',e,rfl,rfl,h1,rfl,rfl⟩
 ·cases h
noncomputable def Se (r:V->List V->Hp->VK->Prop) (h:List D->MO->Option (D×MO)):Prop:=
 ∀F H a vs xs ds args res o',Sub F H->H a=some (.lst vs)->F a=none->bB F vs ds->bB F xs args->h args (.lst ds)=some (res,o')->
  ∀Q:VK,(∀rv ho,Rep F rv res->At F (upd H a ho) a o'->Q rv (upd H a ho))->r (.ref a) xs H Q
noncomputable def fH:MO->Bool
 | .lst _=>true
 | _=>false
noncomputable def xC (S:SS) (i:Nat):Bool:=match S[i]? with
 | some (some (.m (.lst _)))=>true
 | some (some (.b (.lst _)))=>true
 | _=>false
theorem Le {K:PySem.W.Frag}{B:Base}{S:SS}{σ:St}{F H:Hp}{i:Nat}(R:Rel K B S σ F H) (h:xC S i=true):∃u a vs ds,S[i]? =some (some u)/\gm u=true/\MJ u=some (.lst ds)/\σ[i]? =some (some (.ref a))/\F a=none/\H a=some (.lst vs)/\bB F vs ds:=by
 unfold xC at h
 split at h
 ·rename_i ds e
  obtain⟨v,k1,a,rfl,f,vs,k2,k3⟩:=R.rep i _ e
  exact⟨_,a,vs,ds,e,rfl,rfl,k1,f,k2,k3⟩
 ·rename_i ds e
  obtain⟨v,k1,a,rfl,f,vs,k2,k3⟩:=R.rep i _ e
  exact⟨_,a,vs,ds,e,rfl,rfl,k1,f,k2,k3⟩
 ·cases h
noncomputable def eM (i:Nat) (h:List D->MO->Option (D×MO)) (gA:GA):GD:=fun S=>if xC S i then(gA S).bind fun p=>jq p.2 i (h p.1) else none
theorem Eh {K:PySem.W.Frag}{B:Base}{S:SS}{σ:St}{F H:Hp}{i:Nat}{a:Addr}{u:U}{ds:List D}(R:Rel K B S σ F H) (hS:S[i]? =some (some u)) (hm:gm u=true) (hi:MJ u=some (.lst ds)) (hv:σ[i]? =some (some (.ref a))):F a=none/\∃vs,H a=some (.lst vs)/\bB F vs ds:=by
 obtain⟨v,k1,k2⟩:=R.rep i u hS
 rw[hv] at k1
 cases k1
 obtain⟨b,o2,e1,f,e2,k⟩:=k2.cy hm
 cases e1
 rw[hi] at e2
 cases e2
 exact⟨f,k⟩
section
variable {X:Cx}{a b c e:Expr}{es:List Expr}{pos p p2 apos cpos px:Pos}{x name:Str}{g ga gb gc:GD}{gA:GA}{id:String}
theorem gD {i:Nat}{r:V->List V->Hp->VK->Prop}{h:List D->MO->Option (D×MO)}(slot:Slot "list" name id) (hty:typeOf (.builtin id)=pure (.type "method_descriptor")) (hm:RA X id r) (hh:Se r h) (hl:∀args o,fH o=false->h args o=none) (ha:JA X (e :: es) gA)
  (hN:X.N[i]? =some x:=by rfl) (hv:Dl X.env.scope x:=by first | exact Or.inl rfl | exact Or.inr (Or.inl rfl) | exact Or.inr (Or.inr rfl))
  (hbase:attributeBase (.Name x px) name X.env (eval (.Name x px) X.env)=eval (.Name x px) X.env:=by rfl)
  (hfew:((backTo cpos (starEach (e :: es) X.env)).all (fun x=>!x.1) && (backToKw cpos (keywordEach [] X.env)).all (fun x=>x.1.isSome)
   && decide ((e :: es).length+([]:List Keyword).length+(if([]:List Keyword).isEmpty then 0 else 1) < 30))=true:=by rfl)
  (hline:(apos.endLine == cpos.line)=true:=by rfl) (hs:starEach (e :: es) X.env=(false,eval e X.env) :: starEach es X.env:=by rfl) (hplain:(backTo cpos (starEach es X.env)).any (·.1)=false:=by rfl)
  (hd:(x == ("__debug__":Str))=false:=by decide) (hcd:(x == ("__classdict__":Str))=false:=by decide):
  JD X (.Call (.Attribute (.Name x px) name apos) (e :: es) [] cpos) (eM i h gA):=
 ⟨fun B=>(Js PySem.F.plainAttrs_list slot hty hm (iQ hN hv hd hcd) (ha.h B) hbase hfew hline hs hplain).imp fun σ H Q ⟨S,F,d,S',R,hg,q⟩=>by
 unfold eM at hg
 split at hg
 ·rename_i hL
  obtain⟨⟨args,S1⟩,h1,hg⟩:=ah hg
  obtain⟨u,u',o,o',hS,N3,hio,hf,N4,rfl⟩:=ve hg
  obtain⟨u0,a,W0,ds0,_,_,_,hv0,_,hH,_⟩:=Le R hL
  cases o with
  | dct kvs=>rw[hl _ _ rfl] at hf;cases hf
  | cS kvs=>rw[hl _ _ rfl] at hf;cases hf
  | ins C kvs=>rw[hl _ _ rfl] at hf;cases hf
  | lst ds=>
   refine⟨.ref a,hv0,.inl ⟨rfl,W0,oW.of hH⟩,S,F,args,S1,R,h1,fun xs F1 H1 R1 st1 r1=>?_⟩
   obtain⟨hf1,vs,YA,rs⟩:=Eh R1 hS N3 hio hv0
   refine hh F1 H1 a vs xs ds args d o' R1.sub YA hf1 rs r1 hf Q fun rv ho rr ha=>?_
   obtain⟨R2,st2⟩:=R1.write hS N4 hv0 ha
   exact q rv F1 _ R2 (st1.trans st2) rr
 ·cases hg⟩
noncomputable def hAppend:List D->MO->Option (D×MO)
 | [d],.lst ds=>if ds.length < 100000 then some (.dh,.lst (ds++[d])) else none
 | _,_=>none
theorem dP : Se Bj hAppend := by
  intro F H a vs xs ds args res o' sb hH fa rs rx hw Q q
  unfold hAppend at hw
  split at hw
  . rename_i d ds' e2
    cases e2
    split at hw
    . rename_i hl
      cases hw
      cases rx with
      | cons r rr=>
        cases rr
        exact⟨a,vs,_,rfl,rfl,hH,by rw[rs.length];exact Nat.lt_of_lt_of_le hl (by decide),q .dh _ .dh ⟨_,aV,rs.append (.cons r .nil)⟩⟩
    . cases hw
  . cases hw
theorem bB.dropLast {F:Hp}{vs:List V}{ds:List D}(r:bB F vs ds):bB F vs.dropLast ds.dropLast:=by
 rw[List.dropLast_eq_take,List.dropLast_eq_take,r.length]
 exact r.take _
end
theorem jI.step {K:PySem.W.Frag}{B:Base}{S S':SS}{σ:St}{H0 F H F' H':Hp}{v:V}{u:U}(r:jI K B S σ H0 F H v u) (st:Step S S' σ F H F' H'):jI K B S' σ H0 F' H' v u:=by
 cases u with
 | t d=>exact r.le st.ext.le
 | b o=>exact r
 | v i=>obtain⟨h1,u,h2⟩:=r;exact⟨h1,st.slots i u h2⟩
 | s i=>obtain⟨a,e,h⟩:=r;exact⟨a,e,h.le st.ext.jA⟩
 | f i=>exact r
 | m o=>
  obtain⟨a,e,h0,f,h,n,hB⟩:=r
  obtain⟨ho,hh⟩:=h.has
  exact⟨a,e,h0,st.ext.ig a ho hh n f,h.le st.ext.le fun o z=>st.ext.keep a o z n,fun m=>n (st.mu a m),hB⟩
noncomputable abbrev GU:=SS->Option (List U×SS)
noncomputable def YB (K:PySem.W.Frag) (B:Base) (gu:GU):TA:=fun σ H Q=>∃S F us S',Rel K B S σ F H/\gu S=some (us,S')/\∀vs F' H',Rel K B S' σ F' H'->Step S S' σ F H F' H'->Paired (fun v u=>jI K B S' σ H F' H' v u) vs us->Q vs H'
structure JU (X:Cx) (es:List Expr) (gu:GU):Prop where
 h:∀B,PA X es (YB X.K B gu)
 len:∀S us S',gu S=some (us,S')->us.length=es.length
noncomputable def bX:GU:=fun S=>some ([],S)
noncomputable def bg (g:GD) (gu:GU):GU:=fun S=>(g S).bind fun p=>(gu p.2).map fun q=>(.t p.1 :: q.1,q.2)
noncomputable def gY (g:GE) (gu:GU):GU:=fun S=>(g S).bind fun p=>(gu p.2).map fun q=>(p.1 :: q.1,q.2)
section
variable {X:Cx}{e:Expr}{es:List Expr}{g:GD}{ge:GE}{gu:GU}
theorem bT:JU X [] bX:=⟨fun B=>oX.imp fun σ H Q ⟨S,F,us,S',R,hg,q⟩=>by
 cases hg
 exact q [] F H R (Step.refl ..) .nil,fun S us S' h=>by cases h;rfl⟩
theorem aY (h:JD X e g) (hr:JU X es gu) (hs:starEach (e :: es) X.env=(false,eval e X.env) :: starEach es X.env:=by rfl):JU X (e :: es) (bg g gu):=
 ⟨fun B=>(lI (h.h B) (hr.h B) hs).imp fun σ H Q ⟨S,F,us,S',R,hg,q⟩=>by
 obtain⟨⟨d,S1⟩,h1,hg⟩:=ah hg
 obtain⟨⟨Lf,S2⟩,h2,hg⟩:=au hg
 cases hg
 exact⟨S,F,d,S1,R,h1,fun v F1 H1 R1 st1 r1=>⟨S1,F1,Lf,S2,R1,h2,fun vs F2 H2 R2 st2 r2=>q _ F2 H2 R2 (st1.trans st2) (.cons (r1.le st2.ext.le) (Paired.Ck r2 fun _ _ z=>z.weak st1.ext.there))⟩⟩,
 fun S us S' hg=>by
  obtain⟨⟨d,S1⟩,h1,hg⟩:=ah hg
  obtain⟨⟨Lf,S2⟩,h2,hg⟩:=au hg
  cases hg
  show Lf.length+1=es.length+1
  rw[hr.len _ _ _ h2]⟩
theorem iI (h:JE X e ge) (hr:JU X es gu) (hs:starEach (e :: es) X.env=(false,eval e X.env) :: starEach es X.env:=by rfl):JU X (e :: es) (gY ge gu):=
 ⟨fun B=>(lI (h.h B) (hr.h B) hs).imp fun σ H Q ⟨S,F,us,S',R,hg,q⟩=>by
 obtain⟨⟨d,S1⟩,h1,hg⟩:=ah hg
 obtain⟨⟨Lf,S2⟩,h2,hg⟩:=au hg
 cases hg
 exact⟨S,F,d,S1,R,h1,fun v F1 H1 R1 st1 r1=>⟨S1,F1,Lf,S2,R1,h2,fun vs F2 H2 R2 st2 r2=>q _ F2 H2 R2 (st1.trans st2) (.cons (r1.step st2) (Paired.Ck r2 fun _ _ z=>z.weak st1.ext.there))⟩⟩,
 fun S us S' hg=>by
  obtain⟨⟨d,S1⟩,h1,hg⟩:=ah hg
  obtain⟨⟨Lf,S2⟩,h2,hg⟩:=au hg
  cases hg
  show Lf.length+1=es.length+1
  rw[hr.len _ _ _ h2]⟩
end
noncomputable def resolve (S:SS):U->Option U
 | .t d=>some (.t d)
 | .v i=>match S[i]? with
  | some (some (.m o))=>some (.b o)
  | some (some (.b o))=>some (.b o)
  | _=>none
 | .m o=>some (.b o)
 | .b _=>none
 | .s ns=>some (.s ns)
 | .f a=>some (.f a)
noncomputable def cA (S:SS):List U->Option (List U)
 | []=>some []
 | u :: us=>(resolve S u).bind fun w=>(cA S us).map fun ws=>w :: ws
noncomputable def slotsOf:List U->List Nat
 | []=>[]
 | .v i :: us=>i :: slotsOf us
 | _ :: us=>slotsOf us
noncomputable def cN:List U->Nat
 | []=>0
 | .m _ :: us=>cN us+1
 | _ :: us=>cN us
noncomputable def wb:List U->List MO->SS->Option SS
 | [],[],S=>some S
 | .v i :: us,o :: outs,S=>match S[i]? with
  | some (some (.m _))=>wb us outs (S.set i (some (.m o)))
  | some (some (.b _))=>wb us outs (S.set i (some (.b o)))
  | _=>none
 | .m _ :: us,_ :: outs,S=>wb us outs S
 | .t _ :: us,outs,S=>wb us outs S
 | .s _ :: us,outs,S=>wb us outs S
 | .f _ :: us,outs,S=>wb us outs S
 | _,_,_=>none
noncomputable abbrev FM:=List U->Option (U×List MO)
noncomputable def bA (f:FM) (gu:GU):GE:=fun S=>(gu S).bind fun p=>
 if(slotsOf p.1).Nodup/\cN p.1<=1 then(cA p.2 p.1).bind fun us=>(f us).bind fun r=>(wb p.1 r.2 p.2).map fun S2=>(r.1,S2) else none
noncomputable def Ei (K:PySem.W.Frag) (F H:Hp) (v:V):U->Prop
 | .s ns=>∃a,v= .ref a/\Jw K H a ns
 | .f a=>v= .ref a
 | .t d=>Rep F v d
 | .b o=>∃a,v= .ref a/\F a=none/\At F H a o
 | _=>False
noncomputable def addrs:List V->List U->List Addr
 | .ref a :: vs,.b _ :: us=>a :: addrs vs us
 | _ :: vs,_ :: us=>addrs vs us
 | _,_=>[]
structure Post (F H F' H':Hp) (as:List Addr) (outs:List MO):Prop where
 sub:Sub F' H'
 ext:Ext (fun a=>a∈as) F H F' H'
 out:Paired (fun a o=>F' a=none/\At F' H' a o) as outs
noncomputable def spT (K:PySem.W.Frag) (n:Nat) (f:FM):Sp:=fun vs H Q _=>vs.length=n/\∃F us r outs,Sub F H/\Paired (Ei K F H) vs us/\(addrs vs us).Nodup/\f us=some (r,outs)/\∀v F' H',Post F H F' H' (addrs vs us) outs->D6 H F' H' v r->Q v H'
section
variable {K:PySem.W.Frag}{B:Base}{S S1 S2:SS}{σ:St}{H0 F H F' H':Hp}
theorem nP {i:Nat}{w:U}(h:resolve S (.v i)=some w):∃u o,S[i]? =some (some u)/\gm u=true/\MJ u=some o/\w= .b o:=by
 unfold resolve at h
 dsimp only at h
 split at h
 ·rename_i o e;cases h;exact⟨_,o,e,rfl,rfl,rfl⟩
 ·rename_i o e;cases h;exact⟨_,o,e,rfl,rfl,rfl⟩
 ·cases h
theorem pR (R:Rel K B S σ F H):∀{vs:List V}{us ws:List U},Paired (fun v u=>jI K B S σ H0 F H v u) vs us->cA S us=some ws->Paired (Ei K F H) vs ws
 | _,_,_,.nil,h=>by cases h;exact .nil
 | _,_,_,@Paired.cons _ _ _ v u vs us r rs,h=>by
  obtain⟨w,h1,h⟩:=ah h
  obtain⟨ws,h2,h⟩:=au h
  subst h
  refine .cons ?_ (pR R rs h2)
  cases u with
  | t d=>cases h1;exact r
  | s d=>cases h1;exact r
  | f d=>cases h1;exact r
  | b o=>cases h1
  | m o=>cases h1;obtain⟨a,e,_,f,k,_⟩:=r;exact⟨a,e,f,k⟩
  | v i=>
   obtain⟨u,o,hu,hm,hi,rfl⟩:=nP h1
   obtain⟨hv,_⟩:=r
   obtain⟨v',k1,k2⟩:=R.rep i u hu
   rw[hv] at k1
   cases k1
   obtain⟨a,o2,e,f,e2,k⟩:=k2.cy hm
   rw[hi] at e2
   cases e2
   exact⟨a,e,f,k⟩
theorem pS (R : Rel K B S σ F H) : ∀ {vs : List V} {us ws : List U}, Paired (fun v u => jI K B S σ H0 F H v u) vs us -> cA S us = some ws -> ∀ a ∈ addrs vs ws,
    (∃i u,i∈slotsOf us/\S[i]? =some (some u)/\gm u=true/\σ[i]? =some (some (.ref a)))\/(0 < cN us/\H0 a=none/\B.H a=none/\¬cy S σ a)
  | _,_,_,.nil,h,a,ha=>by cases h;cases ha
  | _,_,_,@Paired.cons _ _ _ v u vs us r rs,h,a,ha=>by
    obtain⟨w,h1,h⟩:=ah h
    obtain⟨ws,h2,h⟩:=au h
    subst h
    have ih:=pS R rs h2
    cases u with
    | t d=>
      cases h1
      have ha:a∈addrs vs ws:=by cases v <;> exact ha
      exact ih a ha
    | s d=>
      cases h1
      have ha:a∈addrs vs ws:=by cases v <;> exact ha
      exact ih a ha
    | f d=>
      cases h1
      have ha:a∈addrs vs ws:=by cases v <;> exact ha
      exact ih a ha
    | b o=>cases h1
    | m o =>
      cases h1
      obtain⟨c,rfl,k0,f,k,n,hB⟩:=r
      rcases List.mem_cons.mp (show a∈c :: addrs vs ws from ha) with rfl | ha
      . exact .inr ⟨Nat.succ_pos _,k0,hB,n⟩
      . rcases ih a ha with z | ⟨_,z⟩
        . exact .inl z
        . exact .inr ⟨Nat.succ_pos _,z⟩
    | v i =>
      obtain⟨u,o,hu,hm,hi,rfl⟩:=nP h1
      obtain⟨hv,_⟩:=r
      obtain⟨v',k1,k2⟩:=R.rep i u hu
      rw[hv] at k1
      cases k1
      obtain⟨c,o2,rfl,f,e2,k⟩:=k2.cy hm
      rcases List.mem_cons.mp (show a∈c :: addrs vs ws from ha) with rfl | ha
      . exact .inl ⟨i,u,List.mem_cons_self,hu,hm,hv⟩
      . rcases ih a ha with⟨j,w,z,z2⟩ | z
        . exact .inl ⟨j,w,List.mem_cons_of_mem _ z,z2⟩
        . exact .inr z
theorem dY (R : Rel K B S σ F H) : ∀ {vs : List V} {us ws : List U}, Paired (fun v u => jI K B S σ H0 F H v u) vs us -> cA S us = some ws -> (slotsOf us).Nodup -> cN us <= 1 -> (addrs vs ws).Nodup
  | _,_,_,.nil,h,_,_=>by cases h;exact List.nodup_nil
  | _,_,_,@Paired.cons _ _ _ v u vs us r rs,h,nd,fr=>by
    obtain⟨w,h1,h⟩:=ah h
    obtain⟨ws,h2,h⟩:=au h
    subst h
    cases u with
    | t d=>
      cases h1
      have:=dY R rs h2 nd fr
      cases v <;> exact this
    | s d=>
      cases h1
      have:=dY R rs h2 nd fr
      cases v <;> exact this
    | f d=>
      cases h1
      have:=dY R rs h2 nd fr
      cases v <;> exact this
    | b o=>cases h1
    | m o=>
      cases h1
      have fr0:cN us=0:=by have:cN us+1<=1:=fr;omega
      obtain⟨c,rfl,k0,f,k,n,hB⟩:=r
      refine List.nodup_cons.mpr ⟨fun hc=>?_,dY R rs h2 nd (by omega)⟩
      rcases pS R rs h2 c hc with⟨j,w,_,z1,z2,z3⟩ | ⟨z,_⟩
      . exact n ⟨j,w,z1,z2,z3⟩
      . omega
    | v i =>
      obtain⟨u,o,hu,hm,hi,rfl⟩:=nP h1
      obtain⟨hv,_⟩:=r
      obtain⟨v',k1,k2⟩:=R.rep i u hu
      rw[hv] at k1
      cases k1
      obtain⟨c,o2,rfl,f,e2,k⟩:=k2.cy hm
      obtain⟨Sg,JH⟩:=List.nodup_cons.mp (show(i :: slotsOf us).Nodup from nd)
      refine List.nodup_cons.mpr ⟨fun hc=>?_,dY R rs h2 JH fr⟩
      rcases pS R rs h2 c hc with⟨j,w,z0,z1,z2,z3⟩ | ⟨_,_,_,z⟩
      . have:=R.yc i j u w c hu hm z1 z2 hv z3
        subst this
        exact Sg z0
      . exact z ⟨i,u,hu,hm,hv⟩
theorem nQ (R : Rel K B S σ F H) (P : Addr -> MO -> Prop) : ∀ {vs : List V} {us ws : List U} {outs : List MO} {S1 S2 : SS}, Paired (fun v u => jI K B S σ H0 F H v u) vs us -> cA S us = some ws -> wb us outs S1 = some S2 -> (slotsOf us).Nodup -> Paired P (addrs vs ws) outs ->
    S2.length=S1.length/\(∀j,j∉slotsOf us->S2[j]? =S1[j]?)/\∀j∈slotsOf us,∃u u' o a,S1[j]? =some (some u)/\MI u o=some u'/\S2[j]? =some (some u')/\σ[j]? =some (some (.ref a))/\P a o
  | _,_,_,_,_,_,.nil,h,hw,_,hp=>by
    cases h
    cases hp
    cases hw
    exact⟨rfl,fun _ _=>rfl,fun j hj=>by cases hj⟩
  | _, _, _, outs, S1, S2, @Paired.cons _ _ _ v u vs us r rs, h, hw, nd, hp => by
    obtain⟨w,h1,h⟩:=ah h
    obtain⟨ws,h2,h⟩:=au h
    subst h
    cases u with
    | t d =>
      cases h1
      have hp:Paired P (addrs vs ws) outs:=by cases v <;> exact hp
      have hw:wb us outs S1=some S2:=by
        cases outs <;> exact hw
      have ih:=nQ R P rs h2 hw nd hp
      exact ih
    | s d =>
      cases h1
      have hp:Paired P (addrs vs ws) outs:=by cases v <;> exact hp
      have hw:wb us outs S1=some S2:=by
        cases outs <;> exact hw
      have ih:=nQ R P rs h2 hw nd hp
      exact ih
    | f d =>
      cases h1
      have hp:Paired P (addrs vs ws) outs:=by cases v <;> exact hp
      have hw:wb us outs S1=some S2:=by
        cases outs <;> exact hw
      have ih:=nQ R P rs h2 hw nd hp
      exact ih
    | b o=>cases h1
    | m o =>
      cases h1
      obtain⟨c,rfl,k0,f,k,n,hB⟩:=r
      cases hp with
      | cons p1 p2=>
        have ih:=nQ R P rs h2 (show wb us _ S1=some S2 from hw) nd p2
        exact ih
    | v i =>
      obtain⟨u0,o0,hu,hm,hi,rfl⟩:=nP h1
      obtain⟨hv,_⟩:=r
      obtain⟨v',k1,k2⟩:=R.rep i u0 hu
      rw[hv] at k1
      cases k1
      obtain⟨c,o2,rfl,f,e2,k⟩:=k2.cy hm
      obtain⟨Sg,JH⟩:=List.nodup_cons.mp (show(i :: slotsOf us).Nodup from nd)
      cases hp with
      | @cons _ o _ outs p1 p2 =>
        have go : ∀ u u', S1[i]? = some (some u) -> MI u o = some u' -> wb us outs (S1.set i (some u')) = some S2 -> S2.length = S1.length /\ (∀ j, j ∉ i :: slotsOf us -> S2[j]? = S1[j]?) /\ ∀ j ∈ i :: slotsOf us, ∃ u u' o a, S1[j]? = some (some u) /\ MI u o = some u' /\ S2[j]? = some (some u') /\ σ[j]? = some (some (.ref a)) /\ P a o := fun u u' e1 e2 hw => by
          obtain⟨l,out,sA⟩:=nQ R P rs h2 hw JH p2
          refine⟨by rw[l,List.length_set],fun j hj=>?_,fun j hj=>?_⟩
          . rw[out j fun z=>hj (List.mem_cons_of_mem _ z),List.getElem?_set_ne fun z=>hj (by rw[z];exact List.mem_cons_self)]
          . by_cases e:i=j
            . subst e
              exact⟨u,u',o,c,e1,e2,by rw[out i Sg];exact List.getElem?_set_self (List.getElem?_eq_some_iff.mp e1).1,hv,p1⟩
            . rcases List.mem_cons.mp hj with z | z
              . exact absurd z.symm e
              . obtain⟨w,w',o',a',q1,q2,q3,q4,q5⟩:=sA j z
                rw[List.getElem?_set_ne e] at q1
                exact⟨w,w',o',a',q1,q2,q3,q4,q5⟩
        unfold wb at hw
        split at hw
        . rename_i o' e;exact go _ _ e rfl hw
        . rename_i o' e;exact go _ _ e rfl hw
        . cases hw
end
theorem lP {K : PySem.W.Frag} {B : Base} {S0 S S2 : SS} {σ : St} {F0 H0 F H F' H' : Hp} {vs : List V} {us ws : List U} {outs : List MO} (R : Rel K B S σ F H) (st : Step S0 S σ F0 H0 F H) (rr : Paired (fun v u => jI K B S σ H0 F H v u) vs us) (hr : cA S us = some ws) (hw : wb us outs S = some S2) (nd : (slotsOf us).Nodup) (p : Post F H F' H' (addrs vs ws) outs) :
    Rel K B S2 σ F' H'/\Step S0 S2 σ F0 H0 F' H'/\∀a,cy S2 σ a->cy S σ a:=by
  obtain⟨hl,out,sA⟩:=nQ R (fun a o=>F' a=none/\At F' H' a o) rr hr hw nd p.out
  have YC:∀{u:U}{o:MO}{u':U},MI u o=some u'->gm u=true/\gm u'=true/\MJ u'=some o:=fun {u o u'} h=>by cases u <;> cases h <;> exact⟨rfl,rfl,rfl⟩
  have orig:∀{j w},S2[j]? =some (some w)->gm w=true->∃w0,S[j]? =some (some w0)/\gm w0=true:=fun {j w} z hm=>by
    by_cases hj:j∈slotsOf us
    . obtain⟨u,u',o,a,q1,q2,q3,q4,q5⟩:=sA j hj
      exact⟨u,q1,(YC q2).1⟩
    . rw[out j hj] at z;exact⟨w,z,hm⟩
  have mu:∀a,cy S2 σ a->cy S σ a:=fun a ⟨j,w,z,hm,hv⟩=>let⟨w0,q,n⟩:=orig z hm;⟨j,w0,q,n,hv⟩
  have Bq:=pS R rr hr
  refine⟨⟨p.sub,by rw[hl];exact R.len,fun j w z=>?_,fun j k w1 w2 c z1 m1 z2 m2=>?_,fun j o a z hv=>?_,fun j o a z hv=>?_,fun j a z=>?_,?_⟩,⟨⟨?_,?_,?_,?_,fun b o u z=>p.ext.jA b o u (st.ext.jA b o u z)⟩,fun a m=>st.mu a (mu a m),fun j u z=>?_⟩,mu⟩
  . by_cases hj:j∈slotsOf us
    . obtain⟨u,u',o,a,q1,q2,q3,q4,q5,q6⟩:=sA j hj
      rw[q3] at z
      cases z
      refine⟨.ref a,q4,?_⟩
      cases u <;> cases q2
      . exact⟨a,rfl,q5,q6⟩
      . exact⟨a,rfl,q5,q6⟩
    . rw[out j hj] at z
      obtain⟨v,h1,h2⟩:=R.rep j w z
      refine⟨v,h1,h2.le p.ext.le p.ext.jA fun a hm ha=>?_⟩
      have hna:a∉addrs vs ws:=fun hc=>by
        rcases Bq a hc with⟨i,u,q0,q1,q2,q3⟩ | ⟨_,_,_,q⟩
        . have:=R.yc i j u w a q1 q2 z hm q3 (by rw[h1,ha])
          subst this
          exact hj q0
        . exact q ⟨j,w,z,hm,by rw[h1,ha]⟩
      obtain⟨c,o,e,f,_,k⟩:=h2.cy hm
      rw[ha] at e
      cases e
      obtain⟨ho,hh⟩:=k.has
      exact⟨fun o q=>p.ext.keep a o q hna,p.ext.ig a ho hh hna f⟩
  . obtain⟨Sa,q1,n1⟩:=orig z1 m1
    obtain⟨Sd,q2,n2⟩:=orig z2 m2
    exact R.yc j k Sa Sd c q1 n1 q2 n2
  . by_cases hj:j∈slotsOf us
    . obtain⟨u,u',o',a',q1,q2,q3,q4,q5⟩:=sA j hj
      rw[q3] at z
      cases z
      cases u <;> cases q2
      exact R.own j _ a q1 hv
    . rw[out j hj] at z;exact R.own j o a z hv
  . by_cases hj:j∈slotsOf us
    . obtain⟨u,u',o',a',q1,q2,q3,q4,q5⟩:=sA j hj
      rw[q3] at z
      cases z
      cases u <;> cases q2
      exact R.bor j _ a q1 hv
    . rw[out j hj] at z;exact R.bor j o a z hv
  . obtain⟨k1,o,k2⟩:=R.par j a z
    refine⟨k1,?_⟩
    by_cases hj:j∈slotsOf us
    . obtain⟨u,u',o',a',q1,q2,q3,q4,q5⟩:=sA j hj
      rw[k2] at q1
      cases q1
      cases q2
      exact⟨_,q3⟩
    . exact⟨o,by rw[out j hj];exact k2⟩
  . refine R.ext.trans p.ext fun b hb=>?_
    rcases Bq b hb with⟨i,u,q0,q1,q2,q3⟩ | ⟨_,_,q,_⟩
    . cases u with
      | t d=>cases q2
      | v d=>cases q2
      | s d=>cases q2
      | f d=>cases q2
      | m o=>exact .inr (R.own i o b q1 q3)
      | b o=>exact .inl (R.bor i o b q1 q3)
    . exact .inr q
  . exact fun b o h=>p.ext.le b o (st.ext.le b o h)
  . intro b o h n
    refine p.ext.keep b o (st.ext.keep b o h n) fun hb=>?_
    rcases Bq b hb with⟨i,u,q0,q1,q2,q3⟩ | ⟨_,q,_⟩
    . exact n (st.mu b ⟨i,u,q1,q2,q3⟩)
    . rw[h] at q;cases q
  . intro b o h n f
    refine p.ext.ig b o (st.ext.keep b o h n) (fun hb=>?_) (st.ext.ig b o h n f)
    rcases Bq b hb with⟨i,u,q0,q1,q2,q3⟩ | ⟨_,q,_⟩
    . exact n (st.mu b ⟨i,u,q1,q2,q3⟩)
    . rw[h] at q;cases q
  . intro b o h
    obtain⟨o',h'⟩:=st.ext.there b o h
    exact p.ext.there b o' h'
  . obtain⟨u',h'⟩:=st.slots j u z
    by_cases hj:j∈slotsOf us
    . obtain⟨_,u2,_,_,_,_,q3,_⟩:=sA j hj
      exact⟨u2,q3⟩
    . exact⟨u',by rw[out j hj];exact h'⟩
section
variable {X:Cx}{e:Expr}{es:List Expr}{gu:GU}{x:Str}{p pos:Pos}{f:FM}{fa:Addr}{fd:FuncData}{ps:List Str}{k n:Nat}
theorem bH (F:cF X.prog X.w X.K X.mg X.base jB k fa fd ps (spT X.K n f)) (hr:kQ k X.A) (hg:Gl X x) (hm:X.mg x=some (.ref fa)) (hk:PySem.W.keepIn X.K (.ref fa)=true) (hb:Binds X.K fd ps []) (ha:JU X (e :: es) gu) (hn:(e :: es).length=n:=by rfl)
  (hdb:(x == ("__debug__":Str))=false:=by decide) (he:starEach (e :: es) X.env=(false,eval e X.env) :: starEach es X.env:=by rfl) (hpl:(backTo pos (starEach es X.env)).any (·.1)=false:=by rfl):
  JE X (.Call (.Name x p) (e :: es) [] pos) (bA f gu):=⟨fun B=>(GV F hr hg hm hk hb .nil NK (ha.h B) hdb he hpl).imp fun σ H Q ⟨S,F0,u,S',R,hg,q⟩=>by
 obtain⟨⟨us,S1⟩,h1,hg⟩:=ah hg
 dsimp only at hg
 split at hg
 ·rename_i hc
  obtain⟨ws,h2,hg⟩:=ah hg
  obtain⟨⟨r,outs⟩,h3,hg⟩:=ah hg
  obtain⟨S2,h4,hg⟩:=au hg
  cases hg
  refine⟨S,F0,us,S1,R,h1,fun vs F1 H1 R1 st1 rr=>?_⟩
  show spT X.K n f (vs++[]) H1 Q E0
  rw[List.append_nil]
  have hlen:vs.length=n:=by rw[rr.length,ha.len _ _ _ h1];exact hn
  refine⟨hlen,F1,ws,r,outs,R1.sub,pR R1 rr h2,dY R1 rr h2 hc.1 hc.2,h3,fun v F2 H2 po rn=>?_⟩
  obtain⟨R2,st2,mu⟩:=lP R1 st1 rr h2 h4 hc.1 po
  refine q v F2 H2 R2 st2 ?_
  cases r with
  | t d=>exact rn
  | b o=>cases rn
  | v i=>cases rn
  | s i=>cases rn
  | f i=>cases rn
  | m o=>
   obtain⟨a,e,h0,f,h⟩:=rn
   refine⟨a,e,none_of st1.ext.there h0,f,h,fun m=>?_,none_of R1.ext.there h0⟩
   obtain⟨o',ho⟩:=R1.has (mu a m)
   rw[h0] at ho
   cases ho
 ·cases hg⟩
end
noncomputable def aK:List U->SS->Option (List MO)
 | [],_=>some []
 | .b _ :: us,some (.b o) :: S=>(aK us S).map fun os=>o :: os
 | .b _ :: _,_=>none
 | _ :: us,_ :: S=>aK us S
 | _ :: _,[]=>none
noncomputable def bG (n:Nat) (g:GS):FM:=fun us=>(g (us.map some++List.replicate (n - us.length) none)).bind fun o=>match o with
 | .rt (.t d) S=>(aK us S).map fun os=>(.t d,os)
 | .rt (.m o) S=>(aK us S).map fun os=>(.m o,os)
 | .nx S=>(aK us S).map fun os=>(.t .dh,os)
 | _=>none
noncomputable def lent:List V->List U->List (Option Addr)
 | .ref a :: vs,.b _ :: us=>some a :: lent vs us
 | _ :: vs,_ :: us=>none :: lent vs us
 | _,_=>[]
theorem mW:∀(vs:List V) (us:List U) (a:Addr),some a∈lent vs us↔a∈addrs vs us
 | [],us,a=>by cases us <;> simp[lent,addrs]
 | v :: vs,[],a=>by cases v <;> simp[lent,addrs]
 | v :: vs,u :: us,a=>by
  have ih:=mW vs us a
  cases v <;> cases u <;> simp[lent,addrs,ih]
theorem yj:∀{vs:List V}{us:List U}{i:Nat}{a:Addr},(lent vs us)[i]? =some (some a)->vs[i]? =some (.ref a)/\∃o,us[i]? =some (.b o)
 | [],us,i,a,h=>by cases us <;> simp[lent] at h
 | v :: vs,[],i,a,h=>by cases v <;> simp[lent] at h
 | v :: vs,u :: us,0,a,h=>by
  cases v <;> cases u <;> simp[lent] at h
  subst h
  exact⟨rfl,_,rfl⟩
 | v :: vs,u :: us,i+1,a,h=>by
  have h':(lent vs us)[i]? =some (some a):=by cases v <;> cases u <;> simpa[lent] using h
  simpa using yj h'
theorem wc {K:PySem.W.Frag}:∀{F H:Hp}{vs:List V}{us:List U}{i:Nat}{o:MO},Paired (Ei K F H) vs us->us[i]? =some (.b o)->∃a,vs[i]? =some (.ref a)/\(lent vs us)[i]? =some (some a)/\F a=none/\At F H a o
 | _,_,_,_,_,_,.nil,h=>by simp at h
 | _,_,_,_,0,o,@Paired.cons _ _ _ v u vs us r rs,h=>by
  simp at h
  subst h
  obtain⟨a,rfl,f,k⟩:=r
  exact⟨a,rfl,rfl,f,k⟩
 | _,_,_,_,i+1,o,@Paired.cons _ _ _ v u vs us r rs,h=>by
  obtain⟨a,h1,h2,h3⟩:=wc (i:=i) rs (by simpa using h)
  refine⟨a,by simpa using h1,?_,h3⟩
  cases v <;> cases u <;> simpa[lent] using h2
theorem vf : ∀ {vs : List V} {us : List U} {i j : Nat} {a : Addr}, (addrs vs us).Nodup -> (lent vs us)[i]? = some (some a) -> (lent vs us)[j]? = some (some a) -> i = j
  | [],us,i,j,a,_,h,_=>by cases us <;> simp[lent] at h
  | v :: vs,[],i,j,a,_,h,_=>by cases v <;> simp[lent] at h
  | v :: vs, u :: us, i, j, a, nd, h1, h2 => by
    have ih:∀{i j},(addrs vs us).Nodup->(lent vs us)[i]? =some (some a)->(lent vs us)[j]? =some (some a)->i=j:=fun {i j}=>vf (i:=i) (j:=j)
    by_cases Sh:∃c o,v= .ref c/\u= .b o
    . obtain⟨c,o,rfl,rfl⟩:=Sh
      obtain⟨n1,n2⟩:=List.nodup_cons.mp (show(c :: addrs vs us).Nodup from nd)
      cases i with
      | zero=>
        cases j with
        | zero=>rfl
        | succ j=>
          have e1:c=a:=by simpa[lent] using h1
          have e2:(lent vs us)[j]? =some (some a):=by simpa[lent] using h2
          subst e1
          exact absurd ((mW vs us c).mp (List.mem_of_getElem? e2)) n1
      | succ i=>
        have e1:(lent vs us)[i]? =some (some a):=by simpa[lent] using h1
        cases j with
        | zero=>
          have e2:c=a:=by simpa[lent] using h2
          subst e2
          exact absurd ((mW vs us c).mp (List.mem_of_getElem? e1)) n1
        | succ j=>exact congrArg Nat.succ (ih n2 e1 (by simpa[lent] using h2))
    . have e1:lent (v :: vs) (u :: us)=none :: lent vs us:=by cases v <;> cases u <;> first | rfl | exact absurd ⟨_,_,rfl,rfl⟩ Sh
      have e2:addrs (v :: vs) (u :: us)=addrs vs us:=by cases v <;> cases u <;> first | rfl | exact absurd ⟨_,_,rfl,rfl⟩ Sh
      rw[e1] at h1 h2
      rw[e2] at nd
      cases i with
      | zero=>simp at h1
      | succ i=>
        cases j with
        | zero=>simp at h2
        | succ j=>exact congrArg Nat.succ (ih nd (by simpa using h1) (by simpa using h2))
theorem o8 {α β:Type}{P:α->β->Prop}:∀{l:List α}{r:List β}{i:Nat}{y:β},Paired P l r->r[i]? =some y->∃x,l[i]? =some x/\P x y
 | _,_,_,_,.nil,h=>by simp at h
 | _,_,0,_,.cons p _,h=>by simp at h;subst h;exact⟨_,rfl,p⟩
 | _,_,i+1,_,.cons _ ps,h=>by
  obtain⟨x,h1,h2⟩:=o8 (i:=i) ps (by simpa using h)
  exact⟨x,by simpa using h1,h2⟩
theorem nR {K:PySem.W.Frag}{F H:Hp}{vs:List V}{us:List U}{n:Nat}(sb:Sub F H) (ar:Paired (Ei K F H) vs us) (nd:(addrs vs us).Nodup) (N:List Str) (hN:N.length=n):
  Rel K ⟨lent vs us,F,H⟩ (us.map some++List.replicate (n - us.length) none) (start N vs) F H:=by
 have hl:vs.length=us.length:=ar.length
 have gS:∀{i:Nat}{u:U},(us.map some++List.replicate (n - us.length) none)[i]? =some (some u)->us[i]? =some u:=fun {i u} h=>by
  rw[List.getElem?_append] at h
  split at h
  ·rw[List.getElem?_map] at h
   obtain⟨w,h1,h2⟩:=au h
   cases h2
   exact h1
  ·rw[List.getElem?_replicate] at h
   split at h <;> cases h
 have Si:∀{i:Nat}{v:V},vs[i]? =some v->(start N vs)[i]? =some (some v):=fun {i v} h=>by
  unfold start
  have hi:=(List.getElem?_eq_some_iff.mp h).1
  rw[List.getElem?_append_left (by simpa using hi),List.getElem?_map,h]
  rfl
 have vb:∀{i:Nat}{v w:V},vs[i]? =some v->(start N vs)[i]? =some (some w)->v=w:=fun {i v w} h k=>by
  rw[Si h] at k
  cases k
  rfl
 have G9:∀{i:Nat}{u:U},us[i]? =some u->gm u=true->∃o a,u= .b o/\vs[i]? =some (.ref a)/\(lent vs us)[i]? =some (some a)/\F a=none/\At F H a o:=fun {i u} h hm=>by
  obtain⟨v,h1,h2⟩:=o8 ar h
  cases u with
  | t d=>cases hm
  | v d=>cases hm
  | s d=>cases hm
  | f d=>cases hm
  | m o=>cases h2
  | b o=>obtain⟨a,k1,k2,k3,k4⟩:=wc ar h;exact⟨o,a,rfl,k1,k2,k3,k4⟩
 refine⟨sb,?_,fun i u h=>?_,fun i j u w a h1 m1 h2 m2 v1 v2=>?_,fun i o a h hv=>?_,fun i o a h hv=>?_,fun i a h=>?_,Ext.refl ..⟩
 ·unfold start;simp[hl,hN]
 ·obtain⟨v,h1,h2⟩:=o8 ar (gS h)
  refine⟨v,Si h1,?_⟩
  cases u with
  | t d=>exact h2
  | s d=>exact h2
  | f d=>exact h2
  | v d=>cases h2
  | m o=>cases h2
  | b o=>exact h2
 ·obtain⟨_,a1,_,k1,k2,_⟩:=G9 (gS h1) m1
  obtain⟨_,a2,_,l1,l2,_⟩:=G9 (gS h2) m2
  have e1:=vb k1 v1
  have e2:=vb l1 v2
  cases e1
  cases e2
  exact vf nd k2 l2
 ·obtain⟨_,_,e,_⟩:=G9 (gS h) rfl
  cases e
 ·obtain⟨_,a1,_,k1,k2,_⟩:=G9 (gS h) rfl
  have e1:=vb k1 hv
  cases e1
  exact List.mem_of_getElem? k2
 ·obtain⟨k1,o,k2⟩:=yj h
  refine⟨Si k1,o,?_⟩
  have hi:=(List.getElem?_eq_some_iff.mp k2).1
  rw[List.getElem?_append_left (by simpa using hi),List.getElem?_map,k2]
  rfl
theorem we {F' H' : Hp} : ∀ {vs : List V} {us : List U} {S : SS} {os : List MO}, aK us S = some os -> vs.length = us.length -> (∀ (i : Nat) (o : MO) (a : Addr), (lent vs us)[i]? = some (some a) -> S[i]? = some (some (.b o)) -> F' a = none /\ At F' H' a o) -> (∀ (i : Nat) (o : MO), us[i]? = some (.b o) -> ∃ a, vs[i]? = some (.ref a)) ->
    Paired (fun a o=>F' a=none/\At F' H' a o) (addrs vs us) os
  | [],[],S,os,h,_,_,_=>by cases S <;> (simp[aK] at h;subst h;exact .nil)
  | [],_ :: _,_,_,_,l,_,_=>by cases l
  | _ :: _,[],_,_,_,l,_,_=>by cases l
  | v :: vs, u :: us, S, os, h, l, k, kb => by
    have l':vs.length=us.length:=by simpa using l
    have kb':∀(i:Nat) (o:MO),us[i]? =some (.b o)->∃a,vs[i]? =some (.ref a):=fun i o z=>by simpa using kb (i+1) o (by simpa using z)
    by_cases hu:∃o,u= .b o
    . obtain⟨o,rfl⟩:=hu
      obtain⟨a,ha⟩:=kb 0 o rfl
      have ha:v= .ref a:=by simpa using ha
      subst ha
      cases S with
      | nil=>simp[aK] at h
      | cons s S=>
        cases s with
        | none=>simp[aK] at h
        | some s=>
          cases s with
          | b o'=>
            obtain⟨os',h1,h2⟩:=au (show(aK us S).map (fun os=>o' :: os)=some os from h)
            subst h2
            exact .cons (k 0 o' a rfl rfl) (we h1 l' (fun i o a z1 z2=>k (i+1) o a (by simpa[lent] using z1) (by simpa using z2)) kb')
          | t d=>simp[aK] at h
          | m d=>simp[aK] at h
          | v d=>simp[aK] at h
          | s d=>simp[aK] at h
          | f d=>simp[aK] at h
    . cases S with
      | nil=>cases u <;> first | (simp[aK] at h;done) | exact absurd ⟨_,rfl⟩ hu
      | cons s S=>
        have h':aK us S=some os:=by cases u <;> first | exact absurd ⟨_,rfl⟩ hu | simpa[aK] using h
        have e2:addrs (v :: vs) (u :: us)=addrs vs us:=by cases v <;> cases u <;> first | rfl | exact absurd ⟨_,rfl⟩ hu
        have e1:lent (v :: vs) (u :: us)=none :: lent vs us:=by cases v <;> cases u <;> first | rfl | exact absurd ⟨_,rfl⟩ hu
        rw[e2]
        exact we h' l' (fun i o a z1 z2=>k (i+1) o a (by rw[e1];simpa using z1) (by simpa using z2)) kb'
theorem post_of {K:PySem.W.Frag}{F0 H:Hp}{vs:List V}{us:List U}(ar:Paired (Ei K F0 H) vs us) (S':SS) (σ':St) (F' H':Hp) (os:List MO) (R':Rel K ⟨lent vs us,F0,H⟩ S' σ' F' H') (ho':aK us S'=some os):Post F0 H F' H' (addrs vs us) os:=by
 refine⟨R'.sub,⟨R'.ext.le,fun b o z n=>R'.ext.keep b o z fun m=>n ((mW vs us b).mp m),fun b o z n=>R'.ext.ig b o z fun m=>n ((mW vs us b).mp m),R'.ext.there,R'.ext.jA⟩,we ho' ar.length (fun i o a z1 z2=>?_) fun i o z=>?_⟩
 ·obtain⟨k1,o2,k2⟩:=R'.par i a z1
  obtain⟨v,j1,j2⟩:=R'.rep i _ z2
  rw[k1] at j1
  cases j1
  obtain⟨c,e,f,k⟩:=j2
  cases e
  exact⟨f,k⟩
 ·obtain⟨a,h1,_⟩:=wc ar z
  exact⟨a,h1⟩
section
variable {P:Program}{w:World}{K:PySem.W.Frag}{mg:Str->Option Value}{base:Heap}
theorem vg {x qual:Str}{st:Stmt}{f:Addr}{fd:FuncData}{N ps:List Str}{k:Nat}{fm:FM}{g:GS}(F:qW K x qual st f fd) (Sc:cj N ps (aJ st))
  (hb:∀(cdv:Value) (A:Around) (outer:List Env) (s:Shared) (H:Hp) (E:XK),kQ k (A.deeper (envOfC qual (aJ st) s.heap.objs.size f cdv))->JB (zU jB P w K mg base N qual (aJ st) f cdv A outer s H E).M9 (bQ st) g)
  (hf:∀us r,fm us=some r->bG N.length g us=some r):cF P w K mg base jB (k+1) f fd ps (spT K ps.length fm):=by
 refine F.ok Sc (fun vs H Q E h=>h.1) fun cdv A outer s H vs Q E hr h=>?_
 obtain⟨hlen,F0,us,r,outs,sb,ar,nd,hfm,q⟩:=h
 have hrun:=hf us (r,outs) hfm
 have J:=hb cdv A outer s H E hr
 refine⟨_,J.h ⟨lent vs us,F0,H⟩,?_⟩
 have R0:=nR sb ar nd N rfl
 obtain⟨o,ho,hrun⟩:=ah hrun
 refine⟨_,F0,o,R0,ho,?_⟩
 have post:=post_of ar
 cases o with
 | bk S'=>cases hrun
 | ct S'=>cases hrun
 | nx S'=>
  obtain⟨os,h1,h2⟩:=au (show(aK us S').map _=some (r,outs) from hrun)
  cases h2
  exact fun σ' F' H' R' le=>q .dh F' H' (post S' σ' F' H' outs R' h1) .dh
 | rt u S'=>
  cases u with
  | b o=>cases hrun
  | v i=>cases hrun
  | s i=>cases hrun
  | f i=>cases hrun
  | t d=>
   obtain⟨os,h1,h2⟩:=au (show(aK us S').map _=some (r,outs) from hrun)
   cases h2
   exact fun v σ' F' H' R' le rr=>q v F' H' (post S' σ' F' H' outs R' h1) rr
  | m o=>
   obtain⟨os,h1,h2⟩:=au (show(aK us S').map _=some (r,outs) from hrun)
   cases h2
   exact fun v σ' F' H' R' le rr=>q v F' H' (post S' σ' F' H' outs R' h1) (by obtain⟨a,e,h0,f,h,n,hB⟩:=rr;exact⟨a,e,hB,f,h⟩)
end
noncomputable def fM (S:SS) (i:Nat):Option U:=match S[i]? with
 | some (some (.t d))=>some (.t d)
 | some (some (.s d))=>some (.s d)
 | some (some (.f d))=>some (.f d)
 | some (some (.m _))=>some (.v i)
 | some (some (.b _))=>some (.v i)
 | _=>none
noncomputable def bL (S:SS):List Nat->Option (List U)
 | []=>some []
 | i :: cap=>(fM S i).bind fun u=>(bL S cap).map fun us=>u :: us
noncomputable def aO:GT:=fun S=>some (true,S)
noncomputable def aW (cap:List Nat) (q:GT) (g:GD):List D->SS->List D->Option (List D×SS)
  | [],S,acc=>some (acc,S)
  | d :: ds, S, acc => (bL S cap).bind fun us =>
    if(slotsOf us).Nodup/\cN us<=1 then(cA S us).bind fun ws=>(q (some (.t d) :: ws.map some)).bind fun p=>
      if p.1 then(g p.2).bind fun r=>(aK (.t d :: ws) r.2).bind fun outs=>(wb us outs S).bind fun S'=>aW cap q g ds S' (acc++[r.1])
      else(aK (.t d :: ws) p.2).bind fun outs=>(wb us outs S).bind fun S'=>aW cap q g ds S' acc
    else none
noncomputable def bO (cap:List Nat) (gi:GI) (q:GT) (g:GD):GE:=fun S=>(gi S).bind fun p=>if p.1.length<=100000 then(aW cap q g p.1 p.2 []).map fun r=>(.m (.lst r.1),r.2) else none
structure N5 (X:Cx) (es:List Expr) (q:GT):Prop where
 h:∀B,G6 X es (tQ X.K B q)
theorem cB {X:Cx}:N5 X [] aO:=⟨fun B pins s σ H Q I ⟨S,F,b,S',R,hg,q⟩=>by cases hg;exact Bl pins s σ H Q I (q F H R (Step.refl ..))⟩
theorem wg {K:PySem.W.Frag}{B:Base}{S:SS}{σ:St}{F H:Hp}(R:Rel K B S σ F H):∀{cap:List Nat}{us:List U},bL S cap=some us->∃vs:List V,bS cap σ=vs.map some/\Paired (fun v u=>jI K B S σ H F H v u) vs us
  | [],us,h=>by cases h;exact⟨[],rfl,.nil⟩
  | i :: cap, us, h => by
    obtain⟨u,h1,h⟩:=ah h
    obtain⟨us',h2,h⟩:=au h
    subst h
    obtain⟨vs,k1,k2⟩:=wg R h2
    have one:∀w,S[i]? =some (some w)->∃v,σ[i]? =some (some v)/\sS K F H v w:=R.rep i
    unfold fM at h1
    have fin:∀v,σ[i]? =some (some v)->jI K B S σ H F H v u->∃vs:List V,bS (i :: cap) σ=vs.map some/\Paired (fun v u=>jI K B S σ H F H v u) vs (u :: us'):=fun v e r=>
      ⟨v :: vs,by show(σ[i]?).join :: bS cap σ=_;rw[e,k1];rfl,.cons r k2⟩
    split at h1
    . rename_i d e
      cases h1
      obtain⟨v,e1,r⟩:=one _ e
      exact fin v e1 r
    . rename_i d e
      cases h1
      obtain⟨v,e1,r⟩:=one _ e
      exact fin v e1 r
    . rename_i d e
      cases h1
      obtain⟨v,e1,r⟩:=one _ e
      exact fin v e1 r
    . rename_i o e
      cases h1
      obtain⟨v,e1,r⟩:=one _ e
      exact fin v e1 ⟨e1,_,e⟩
    . rename_i o e
      cases h1
      obtain⟨v,e1,r⟩:=one _ e
      exact fin v e1 ⟨e1,_,e⟩
    . cases h1
theorem mX {K:PySem.W.Frag}{B:Base}{S:SS}{σ:St}{F H:Hp}(R:Rel K B S σ F H) (d:D){us ws:List U}(h:cA S us=some ws):cA S (.t d :: us)=some (.t d :: ws):=by
 show(some (U.t d)).bind _=_
 show(cA S us).map _=_
 rw[h]
 rfl
theorem ym {K : PySem.W.Frag} {B : Base} {cap : List Nat} {gi : GI} {q : GT} {g : GD} {σ : St} {H : Hp} {Q : VK} (h : tE K B (bO cap gi q g) σ H Q) : P7 (R9 K B gi) cap (fun σ H Q => ∃ B, tQ K B q σ H Q) (fun σ H Q => ∃ B, tD K B g σ H Q) σ H Q := by
  obtain⟨x,_⟩:∃x:Str,True:=⟨"",trivial⟩
  obtain⟨S,F,u,S',R,hg,k⟩:=h
  obtain⟨⟨ds,S1⟩,h1,hg⟩:=ah hg
  dsimp only at hg
  split at hg
  . rename_i hlen
    obtain⟨⟨res,Sf⟩,h2,hg⟩:=au hg
    cases hg
    refine⟨S,F,ds,S1,R,h1,fun J F1 H1 R1 st1 w=>?_⟩
    refine⟨fun i m ys H'=>∃S2 F2 acc,Rel K B S2 σ F2 H'/\Step S S2 σ F H F2 H'/\(∀b o,F1 b=some o->F2 b=some o)/\bB F2 ys acc/\acc.length<=i/\i<=ds.length/\m=ds.length - i/\aW cap q g (ds.drop i) S2 acc=some (res,Sf),
      ⟨_,S1,F1,[],R1,st1,fun _ _ z=>z,.nil,Nat.le_refl _,Nat.zero_le _,rfl,h2⟩,?_⟩
    rintro i m ys H' ⟨S2,F2,acc,R2,st2,le,ry,ha,hl,rfl,cD⟩
    refine⟨by rw[ry.length];exact Nat.lt_of_le_of_lt (Nat.le_trans ha (Nat.le_trans hl hlen)) (by decide),?_⟩
    have w':=w F2 H' le R2.sub i
    by_cases hlt:i < ds.length
    . have hd:ds[i]? =some ds[i]:=List.getElem?_eq_getElem hlt
      obtain⟨go,yl⟩:=w'.1 _ hd
      rw[List.drop_eq_getElem_cons hlt] at cD
      refine .inr ⟨go,fun xv H3 y=>?_⟩
      obtain⟨rfl,rx⟩:=yl xv H3 y
      obtain⟨us,e1,cD⟩:=ah cD
      skip
      split at cD
      . rename_i hnd
        obtain⟨ws,e2,cD⟩:=ah cD
        obtain⟨⟨bk,T1⟩,e3,cD⟩:=ah cD
        obtain⟨vs,k1,k2⟩:=wg R2 e1
        have rr:Paired (fun v u=>jI K B S2 σ H3 F2 H3 v u) (xv :: vs) (.t ds[i] :: us):=.cons rx k2
        have er:=mX R2 ds[i] e2
        have ar:=pR R2 rr er
        have nd:=dY R2 rr er hnd.1 hnd.2
        have R3:=nR (n:=ws.length+1) R2.sub ar nd (List.replicate (ws.length+1) x) (by simp)
        have hvl:vs.length=ws.length:=by have:=ar.length;simpa using this
        have es:start (List.replicate (ws.length+1) x) (xv :: vs)=some xv :: bS cap σ:=by
          unfold start;rw[k1];simp[hvl]
        have eS:(U.t ds[i] :: ws).map some++List.replicate (ws.length+1 - (U.t ds[i] :: ws).length) none=some (U.t ds[i]) :: ws.map some:=by simp
        rw[es,eS] at R3
        have back:∀(T2:SS) (F3 H4:Hp) (outs:List MO) (S3:SS),Rel K ⟨lent (xv :: vs) (U.t ds[i] :: ws),F2,H3⟩ T2 (some xv :: bS cap σ) F3 H4->aK (U.t ds[i] :: ws) T2=some outs->wb us outs S2=some S3->Rel K B S3 σ F3 H4/\Step S S3 σ F H F3 H4/\(∀b o,F2 b=some o->F3 b=some o):=fun T2 F3 H4 outs S3 RT ho hw=>by
          have po:=post_of ar T2 _ F3 H4 outs RT ho
          obtain⟨Ra,vh,_⟩:=lP (S0:=S2) (F0:=F2) (H0:=H3) R2 (Step.refl ..) rr er (show wb (U.t ds[i] :: us) outs S2=some S3 by cases outs <;> exact hw) hnd.1 po
          exact⟨Ra,st2.trans vh,vh.ext.le⟩
        refine⟨_,_,F2,bk,T1,R3,e3,fun F3 H4 JJ N6=>?_⟩
        cases bk with
        | true=>
          obtain⟨⟨yd,T2⟩,e4,cD⟩:=ah (show(g T1).bind _=_ from cD)
          obtain⟨outs,e5,cD⟩:=ah cD
          obtain⟨S3,e6,cD⟩:=ah cD
          refine xZ ⟨_,T1,F3,yd,T2,JJ,e4,fun yv F4 H5 N7 N8 N9=>?_⟩
          obtain⟨Ra,vh,yp⟩:=back T2 F4 H5 outs S3 N7 e5 e6
          refine⟨ds.length - (i+1),by omega,S3,F4,acc++[yd],Ra,vh,fun b o z=>yp b o (le b o z),(ry.le yp).append (.cons N9 .nil),by simp;omega,hlt,rfl,cD⟩
        | false=>
          obtain⟨outs,e5,cD⟩:=ah (show(aK (U.t ds[i] :: ws) T1).bind _=_ from cD)
          obtain⟨S3,e6,cD⟩:=ah cD
          obtain⟨Ra,vh,yp⟩:=back T1 F3 H4 outs S3 JJ e5 e6
          exact xY ⟨ds.length - (i+1),by omega,S3,F3,acc,Ra,vh,fun b o z=>yp b o (le b o z),ry.le yp,by omega,hlt,rfl,cD⟩
      . cases cD
    . have e:i=ds.length:=by omega
      subst e
      rw[List.drop_length] at cD
      cases cD
      refine .inl ⟨w'.2 (Nat.le_refl _),fun p hp=>?_⟩
      have n:=iC.obj (F:=F2) hp (.lst ys)
      refine k (.ref p) F2 _ (R2.new n (R2.sub.same n.same)) (st2.trans n.step) ⟨p,rfl,none_of st2.ext.there hp,R2.sub.fresh hp,⟨ys,aV,ry⟩,fun m=>?_,none_of R2.ext.there hp⟩
      obtain⟨o,ho⟩:=R2.has m
      rw[hp] at ho
      cases ho
  . cases hg
theorem dZ {X:Cx}{elt iter:Expr}{ifs:List Expr}{x:Str}{px pos:Pos}{scope:Scope}{cl:List (Str×Addr)}{bJ:List Str}{cap:List Nat}{gi:GI}{q:GT}{g:GD}(T:iF X x bJ cap scope cl) (hc:X.calm=true) (hi:JI X (.Name x px) iter gi)
  (ht:∀C s H fp,N5 (cJ X (x :: bJ) scope cl C s H fp) ifs q) (he:∀C s H fp,JD (cJ X (x :: bJ) scope cl C s H fp) elt g)
  (hs:∀x,foldedSetIterable iter X.env x=pure x:=by intro _;rfl):JE X (.ListComp elt [⟨.Name x px,iter,ifs,0⟩] scope pos) (bO cap gi q g):=⟨fun B=>by
 exact(D3 (tc:=fun σ H Q=>∃B,tQ X.K B q σ H Q) (te:=fun σ H Q=>∃B,tD X.K B g σ H Q) T hc (hi.h B) (fun C s H fp pins s' σ H' Q I ⟨B',z⟩=>(ht C s H fp).h B' pins s' σ H' Q I z) (fun C s H fp pins s' σ H' Q I ⟨B',z⟩=>(he C s H fp).h B' pins s' σ H' Q I z) hs).imp fun σ H Q h=>ym h⟩
theorem pT {X:Cx}{elt iter:Expr}{ifs:List Expr}{x y:Str}{px pos py spos:Pos}{scope:Scope}{cl:List (Str×Addr)}{bJ:List Str}{cap:List Nat}{gi:GI}{q:GT}{g:GD}{i:Nat}(hN:X.N.Nodup) (hy:X.N[i]? =some y) (hx:Loc X.env.scope y) (T:iF X x bJ cap scope cl) (hc:X.calm=true) (hi:JI X (.Name x px) iter gi)
  (ht:∀C s H fp,N5 (cJ X (x :: bJ) scope cl C s H fp) ifs q) (he:∀C s H fp,JD (cJ X (x :: bJ) scope cl C s H fp) elt g)
  (hsw:swapsWith (.ListComp elt [⟨.Name x px,iter,ifs,0⟩] scope pos) (some (.Name y py)) spos.line X.env=pure true:=by rfl) (hf:X.fn y=true\/X.env.scope.names.lookup y=some .local:=by first | exact .inl rfl | exact .inr rfl | assumption)
  (hs:∀x,foldedSetIterable iter X.env x=pure x:=by intro _;rfl):JS X (.Assign [.Name y py] (.ListComp elt [⟨.Name x px,iter,ifs,0⟩] scope pos) spos) (bz i (bO cap gi q g)):=⟨fun B=>
 (x9 (tc:=fun σ H Q=>∃B,tQ X.K B q σ H Q) (te:=fun σ H Q=>∃B,tD X.K B g σ H Q) T hc (hi.h B) (fun C s H fp pins s' σ H' Q I ⟨B',z⟩=>(ht C s H fp).h B' pins s' σ H' Q I z) (fun C s H fp pins s' σ H' Q I ⟨B',z⟩=>(he C s H fp).h B' pins s' σ H' Q I z) hs hN hy hx hsw hf).imp fun D σ H h=>ym (Bp h)⟩
mutual
noncomputable def wj:D->D->Bool
 | .dh,.dh=>true
 | .bl a,.bl b=>a == b
 | .int a,.int b=>a == b
 | .bl a,.int b=>(if a then 1 else 0) == b
 | .int a,.bl b=>a == (if b then 1 else 0)
 | .str a,.str b=>a == b
 | .tup a,.tup b=>o9 a b
 | .lst a,.lst b=>o9 a b
 | _,_=>false
noncomputable def o9:List D->List D->Bool
 | [],[]=>true
 | a :: as,b :: bs=>wj a b && o9 as bs
 | _,_=>false
end
mutual
noncomputable def iS:D->Nat
 | .tup ds=>gj ds+1
 | .lst ds=>gj ds+1
 | _=>0
noncomputable def gj:List D->Nat
 | []=>0
 | d :: ds=>max (iS d) (gj ds)
end
mutual
theorem tu:∀d:D,wj d d=true
 | .dh=>rfl
 | .bl a=>by simp[wj]
 | .int a=>by simp[wj]
 | .str a=>by simp[wj]
 | .tup a=>by unfold wj;exact kU a
 | .lst a=>by unfold wj;exact kU a
theorem kU:∀ds:List D,o9 ds ds=true
 | []=>rfl
 | d :: ds=>by unfold o9;rw[tu d,kU ds];rfl
end
noncomputable def mY (as bs:List D) (j:Nat):Bool:=match as[j]?,bs[j]? with
 | some a,some b=>wj a b
 | _,_=>true
theorem tw (n:Nat) (e:Nat->Bool):(List.range (n+1)).all e=(e 0 && (List.range n).all fun j=>e (j+1)):=by
 rw[List.range_succ_eq_map,List.all_cons,List.all_map]
 rfl
theorem mZ:∀{as bs:List D},as.length≠bs.length->o9 as bs=false
 | [],[],h=>absurd rfl h
 | [],_ :: _,_=>rfl
 | _ :: _,[],_=>rfl
 | a :: as,b :: bs,h=>by
  unfold o9
  rw[mZ (as:=as) (bs:=bs) (fun z=>h (by simp[z])),Bool.and_false]
theorem jY:∀{as bs:List D},as.length=bs.length->(List.range as.length).all (mY as bs)=o9 as bs
 | [],[],_=>rfl
 | [],_ :: _,h=>by cases h
 | _ :: _,[],h=>by cases h
 | a :: as,b :: bs,h=>by
  have h':as.length=bs.length:=by simpa using h
  show(List.range (as.length+1)).all _=_
  rw[tw]
  unfold o9
  have ih:=jY h'
  have e:(fun j=>mY (a :: as) (b :: bs) (j+1))=mY as bs:=by funext j;simp[mY]
  rw[e,ih]
  rfl
theorem Hf {F:Hp}{a:Addr}{vs ws:List V}(h:Rd F a (.lst vs)) (h':Rd F a (.lst ws)):vs=ws:=by
 rcases h with e1 | ⟨o,e1⟩ <;> rcases h' with e2 | ⟨o',e2⟩ <;> (rw[e1] at e2;cases e2) <;> rfl
mutual
theorem Rep.uniq {F:Hp}:∀{v:V}{d e:D},Rep F v d->Rep F v e->d=e
 | _,_,_,.dh,r=>by cases r;rfl
 | _,_,_,.bl b,r=>by cases r;rfl
 | _,_,_,.int b,r=>by cases r;rfl
 | _,_,_,.str b,r=>by cases r;rfl
 | _,_,_,.tup e1 r1,r=>by
  cases r with
  | tup e2 r2=>rw[e1] at e2;cases e2;rw[bB.uniq r1 r2]
  | lst e2 r2=>rcases e2 with e2 | ⟨o,e2⟩ <;> (rw[e1] at e2;cases e2)
 | _,_,_,.lst e1 r1,r=>by
  cases r with
  | tup e2 r2=>rcases e1 with e1 | ⟨o,e1⟩ <;> (rw[e1] at e2;cases e2)
  | lst e2 r2=>rcases e1 with e1 | ⟨o,e1⟩ <;> rcases e2 with e2 | ⟨o',e2⟩ <;> (rw[e1] at e2;cases e2) <;> rw[bB.uniq r1 r2]
theorem bB.uniq {F:Hp}:∀{vs:List V}{ds es:List D},bB F vs ds->bB F vs es->ds=es
 | _,_,_,.nil,r=>by cases r;rfl
 | _,_,_,.cons r1 s1,r=>by
  cases r with
  | cons r2 s2=>rw[Rep.uniq r1 r2,bB.uniq s1 s2]
end
section
variable {X:Cx}{pins:List (Addr×Obj)}{σ:St}{F H:Hp}{s:Shared}
theorem Sub.isTup (I:Inv X pins σ H s) (sb:Sub F H){a:Addr}{vs:List V}(h:F a=some (.tup vs)):∃its:List Value,Vals vs its/\s.heap.IsTuple a its.toArray:=by
 obtain⟨its,rv,p,_⟩:=I.tuple (.inl (Rd.of (sb a _ h)))
 exact⟨its,rv,p⟩
theorem Sub.fH (I:Inv X pins σ H s) (sb:Sub F H){a:Addr}{vs:List V}(h:Rd F a (.lst vs)):∃its:List Value,Vals vs its/\s.heap.IsList a its.toArray:=by
 obtain⟨its,rv,p,_⟩:=I.list (.inl (h.imp (sb a _) fun⟨o,z⟩=>⟨o,sb a _ z⟩))
 exact⟨its,rv,p.isList⟩
noncomputable def jd (A:Around) (s:Shared) (its bM:List Value) (ds es:List D):Prop:=∀j (h1:j < its.toArray.size) (h2:j < bM.toArray.size),SeqAt.EqAt A.in1 s its.toArray[j] bM.toArray[j] (mY ds es j)
theorem Br {n m:Nat}(h:n=m) (e:Nat->Bool):((List.range (min n m)).all e && n == m)=(List.range n).all e:=by
 subst h;simp
theorem pU {A:Around}{ca cb:Addr}{fW bM:List Value}{ds es:List D}(hu:A.units < cLine) (pa:s.heap.IsTuple ca fW.toArray) (pb:s.heap.IsTuple cb bM.toArray) (la:fW.length=ds.length) (lb:bM.length=es.length) (h:jd A s fW bM ds es):
  SeqAt.RcAt A s (.ref ca) (.ref cb) (o9 ds es):=by
 have q:=SeqAt.RcAt.tuples (e:=mY ds es) pa pb hu h
 rw[List.size_toArray,List.size_toArray,la,lb] at q
 by_cases hl:ds.length=es.length
 ·rw[Br hl,jY hl] at q;exact q
 ·rw[mZ hl]
  have:(ds.length == es.length)=false:=by simpa using hl
  rw[this,Bool.and_false] at q
  exact q
theorem tF {A:Around}{ca cb:Addr}{fW bM:List Value}{ds es:List D}(hu:A.units < cLine) (pa:s.heap.IsTuple ca fW.toArray) (pb:s.heap.IsTuple cb bM.toArray) (la:fW.length=ds.length) (lb:bM.length=es.length) (h:jd A s fW bM ds es):
  SeqAt.RcNeAt A s (.ref ca) (.ref cb) (!o9 ds es):=by
 have q:=SeqAt.RcNeAt.tuples (e:=mY ds es) pa pb hu h
 rw[List.size_toArray,List.size_toArray,la,lb] at q
 by_cases hl:ds.length=es.length
 ·rw[Br hl,jY hl] at q;exact q
 ·rw[mZ hl]
  have:(ds.length == es.length)=false:=by simpa using hl
  rw[this,Bool.and_false] at q
  exact q
theorem qY {A:Around}{ca cb:Addr}{fW bM:List Value}{ds es:List D}(hu:A.units < cLine) (pa:s.heap.IsList ca fW.toArray) (pb:s.heap.IsList cb bM.toArray) (la:fW.length=ds.length) (lb:bM.length=es.length) (h:jd A s fW bM ds es):
  SeqAt.RcAt A s (.ref ca) (.ref cb) (o9 ds es):=by
 by_cases hl:ds.length=es.length
 ·have q:=SeqAt.RcAt.lists (e:=mY ds es) pa pb (by rw[List.size_toArray,List.size_toArray,la,lb];exact hl) hu h
  rw[List.size_toArray,la,jY hl] at q;exact q
 ·rw[mZ hl]
  exact SeqAt.RcAt.lists_lengths pa pb (by rw[List.size_toArray,List.size_toArray,la,lb];simpa using hl) hu
theorem uA {A:Around}{ca cb:Addr}{fW bM:List Value}{ds es:List D}(hu:A.units < cLine) (pa:s.heap.IsList ca fW.toArray) (pb:s.heap.IsList cb bM.toArray) (la:fW.length=ds.length) (lb:bM.length=es.length) (h:jd A s fW bM ds es):
  SeqAt.RcNeAt A s (.ref ca) (.ref cb) (!o9 ds es):=by
 by_cases hl:ds.length=es.length
 ·have q:=SeqAt.RcNeAt.lists (e:=mY ds es) pa pb (by rw[List.size_toArray,List.size_toArray,la,lb];exact hl) hu h
  rw[List.size_toArray,la,jY hl] at q;exact q
 ·rw[mZ hl]
  exact SeqAt.RcNeAt.lists_lengths pa pb (by rw[List.size_toArray,List.size_toArray,la,lb];simpa using hl) hu
theorem dQ {α:Type}(l:List α) (j:Nat) (h:j < l.toArray.size):l[j]? =some l.toArray[j]:=by
 have z:j < l.length:=by simpa using h
 simp[z]
mutual
theorem Oa (I : Inv X pins σ H s) (sb : Sub F H) : ∀ (d : D) {e : D} {A : Around} {x y : V} {u w' : Value}, Rep F x d -> Rep F y e -> RelV x u -> RelV y w' -> A.units + iS d < cLine -> SeqAt.EqAt A s u w' (wj d e) := fun d {e A x y u w'} r1 r2 rx ry hu => by
  cases r1 with
  | dh=>
    cases rx
    cases r2 with
    | dh=>cases ry;exact SeqAt.EqAt.same _
    | bl b=>cases ry;exact SeqAt.EqAt.none_bool b
    | int b=>obtain⟨tb,rfl⟩:=ry;exact SeqAt.EqAt.none_int b tb
    | str b=>obtain⟨tb,rfl⟩:=ry;exact SeqAt.EqAt.none_str b tb
    | @tup cb m5 kW eb rb=>cases ry;obtain⟨bM,jr,pb⟩:=sb.isTup I eb;exact SeqAt.EqAt.none_tuple pb (by omega)
    | @lst cb m5 kW eb rb=>cases ry;obtain⟨bM,jr,pb⟩:=sb.fH I eb;exact SeqAt.EqAt.none_list pb (by omega)
  | bl a=>
    cases rx
    cases r2 with
    | dh=>cases ry;exact SeqAt.EqAt.bool_none a
    | bl b=>cases ry;exact SeqAt.EqAt.bool_bool a b
    | int b=>obtain⟨tb,rfl⟩:=ry;exact SeqAt.EqAt.bool_int a b tb
    | str b=>obtain⟨tb,rfl⟩:=ry;exact SeqAt.EqAt.bool_str a b tb
    | @tup cb m5 kW eb rb=>cases ry;obtain⟨bM,jr,pb⟩:=sb.isTup I eb;exact SeqAt.EqAt.bool_tuple a pb (by omega)
    | @lst cb m5 kW eb rb=>cases ry;obtain⟨bM,jr,pb⟩:=sb.fH I eb;exact SeqAt.EqAt.bool_list a pb (by omega)
  | int a=>
    obtain⟨ta,rfl⟩:=rx
    cases r2 with
    | dh=>cases ry;exact SeqAt.EqAt.int_none a ta
    | bl b=>cases ry;exact SeqAt.EqAt.int_bool a ta b
    | int b=>obtain⟨tb,rfl⟩:=ry;exact SeqAt.EqAt.int_int a ta b tb
    | str b=>obtain⟨tb,rfl⟩:=ry;exact SeqAt.EqAt.int_str a ta b tb
    | @tup cb m5 kW eb rb=>cases ry;obtain⟨bM,jr,pb⟩:=sb.isTup I eb;exact SeqAt.EqAt.int_tuple a ta pb (by omega)
    | @lst cb m5 kW eb rb=>cases ry;obtain⟨bM,jr,pb⟩:=sb.fH I eb;exact SeqAt.EqAt.int_list a ta pb (by omega)
  | str a=>
    obtain⟨ta,rfl⟩:=rx
    cases r2 with
    | dh=>cases ry;exact SeqAt.EqAt.str_none a ta
    | bl b=>cases ry;exact SeqAt.EqAt.str_bool a ta b
    | int b=>obtain⟨tb,rfl⟩:=ry;exact SeqAt.EqAt.str_int a ta b tb
    | str b=>obtain⟨tb,rfl⟩:=ry;exact SeqAt.EqAt.str_str a ta b tb
    | @tup cb m5 kW eb rb=>cases ry;obtain⟨bM,jr,pb⟩:=sb.isTup I eb;exact SeqAt.EqAt.str_tuple a ta pb (by omega)
    | @lst cb m5 kW eb rb=>cases ry;obtain⟨bM,jr,pb⟩:=sb.fH I eb;exact SeqAt.EqAt.str_list a ta pb (by omega)
  | @tup ca Ob oF ea ra=>
    cases rx;obtain⟨fW,yq,pa⟩:=sb.isTup I ea
    cases r2 with
    | dh=>cases ry;exact SeqAt.EqAt.tuple_none pa (by omega)
    | bl b=>cases ry;exact SeqAt.EqAt.tuple_bool b pa (by omega)
    | int b=>obtain⟨tb,rfl⟩:=ry;exact SeqAt.EqAt.tuple_int b tb pa (by omega)
    | str b=>obtain⟨tb,rfl⟩:=ry;exact SeqAt.EqAt.tuple_str b tb pa (by omega)
    | @tup cb m5 kW eb rb=>cases ry;obtain⟨bM,jr,pb⟩:=sb.isTup I eb;exact(by
      have hd:A.units+(gj oF+1) < cLine:=hu
      have items:jd A s fW bM oF kW:=fun j h1 h2=>jZ I sb oF (A:=A.in1) ra rb yq jr (by show A.units+1+gj oF < cLine;omega) (dQ fW j h1) (dQ bM j h2)
      by_cases hc:ca=cb
      . subst hc
        rw[ea] at eb
        cases eb
        obtain rfl:=bB.uniq ra rb
        show SeqAt.EqAt A s _ _ (o9 oF oF)
        rw[kU]
        exact SeqAt.EqAt.same _
      . exact SeqAt.EqAt.of_refs hc (pU (by omega) pa pb (yq.length.symm.trans ra.length) (jr.length.symm.trans rb.length) items))
    | @lst cb m5 kW eb rb=>cases ry;obtain⟨bM,jr,pb⟩:=sb.fH I eb;exact SeqAt.EqAt.tuple_list pa pb (by omega)
  | @lst ca Ob oF ea ra=>
    cases rx;obtain⟨fW,yq,pa⟩:=sb.fH I ea
    cases r2 with
    | dh=>cases ry;exact SeqAt.EqAt.list_none pa (by omega)
    | bl b=>cases ry;exact SeqAt.EqAt.list_bool b pa (by omega)
    | int b=>obtain⟨tb,rfl⟩:=ry;exact SeqAt.EqAt.list_int b tb pa (by omega)
    | str b=>obtain⟨tb,rfl⟩:=ry;exact SeqAt.EqAt.list_str b tb pa (by omega)
    | @tup cb m5 kW eb rb=>cases ry;obtain⟨bM,jr,pb⟩:=sb.isTup I eb;exact SeqAt.EqAt.list_tuple pa pb (by omega)
    | @lst cb m5 kW eb rb=>cases ry;obtain⟨bM,jr,pb⟩:=sb.fH I eb;exact(by
      have hd:A.units+(gj oF+1) < cLine:=hu
      have items:jd A s fW bM oF kW:=fun j h1 h2=>jZ I sb oF (A:=A.in1) ra rb yq jr (by show A.units+1+gj oF < cLine;omega) (dQ fW j h1) (dQ bM j h2)
      by_cases hc:ca=cb
      . subst hc
        obtain rfl:=Hf ea eb
        obtain rfl:=bB.uniq ra rb
        show SeqAt.EqAt A s _ _ (o9 oF oF)
        rw[kU]
        exact SeqAt.EqAt.same _
      . exact SeqAt.EqAt.of_refs hc (qY (by omega) pa pb (yq.length.symm.trans ra.length) (jr.length.symm.trans rb.length) items))
theorem jZ (I : Inv X pins σ H s) (sb : Sub F H) : ∀ (ds : List D) {es : List D} {A : Around} {vs ws : List V} {us us' : List Value} {j : Nat} {u w' : Value}, bB F vs ds -> bB F ws es -> Vals vs us -> Vals ws us' -> A.units + gj ds < cLine -> us[j]? = some u -> us'[j]? = some w' -> SeqAt.EqAt A s u w' (mY ds es j) := fun ds {es A vs ws us us' j u w'} r1 r2 v1 v2 hu h1 h2 => by
  cases r1 with
  | nil=>cases v1;simp at h1
  | @cons v d vs ds r rs =>
    cases v1 with
    | cons q qs=>
      cases r2 with
      | nil=>cases v2;simp at h2
      | @cons w e ws es r' rs'=>
        cases v2 with
        | cons q' YD=>
          have hd:A.units+max (iS d) (gj ds) < cLine:=hu
          cases j with
          | zero=>
            simp at h1 h2
            subst h1 h2
            exact Oa I sb d r r' q q' (by omega)
          | succ j=>
            simp at h1 h2
            have:=jZ I sb ds (A:=A) rs rs' qs YD (j:=j) (by omega) h1 h2
            simpa[mY] using this
end
end
section
variable {X:Cx}{pins:List (Addr×Obj)}{σ:St}{F H:Hp}{s:Shared}
theorem Oc (I:Inv X pins σ H s) (sb:Sub F H){d e:D}{A:Around}{x y:V}{u w':Value}(r1:Rep F x d) (r2:Rep F y e) (rx:RelV x u) (ry:RelV y w') (hu:A.units+iS d < cLine):SeqAt.RcAt A s u w' (wj d e):=by
 cases r1 with
 | dh=>
  cases rx
  cases r2 with
  | dh=>cases ry;exact SeqAt.RcAt.none_none
  | bl b=>cases ry;exact SeqAt.RcAt.none_bool b
  | int b=>obtain⟨tb,rfl⟩:=ry;exact SeqAt.RcAt.none_int b tb
  | str b=>obtain⟨tb,rfl⟩:=ry;exact SeqAt.RcAt.none_str b tb
  | @tup cb m5 kW eb rb=>cases ry;obtain⟨bM,jr,pb⟩:=sb.isTup I eb;exact SeqAt.RcAt.none_tuple pb (by omega)
  | @lst cb m5 kW eb rb=>cases ry;obtain⟨bM,jr,pb⟩:=sb.fH I eb;exact SeqAt.RcAt.none_list pb (by omega)
 | bl a=>
  cases rx
  cases r2 with
  | dh=>cases ry;exact SeqAt.RcAt.bool_none a
  | bl b=>cases ry;exact SeqAt.RcAt.bool_bool a b
  | int b=>obtain⟨tb,rfl⟩:=ry;exact SeqAt.RcAt.bool_int a b tb
  | str b=>obtain⟨tb,rfl⟩:=ry;exact SeqAt.RcAt.bool_str a b tb
  | @tup cb m5 kW eb rb=>cases ry;obtain⟨bM,jr,pb⟩:=sb.isTup I eb;exact SeqAt.RcAt.bool_tuple a pb (by omega)
  | @lst cb m5 kW eb rb=>cases ry;obtain⟨bM,jr,pb⟩:=sb.fH I eb;exact SeqAt.RcAt.bool_list a pb (by omega)
 | int a=>
  obtain⟨ta,rfl⟩:=rx
  cases r2 with
  | dh=>cases ry;exact SeqAt.RcAt.int_none a ta
  | bl b=>cases ry;exact SeqAt.RcAt.int_bool a ta b
  | int b=>obtain⟨tb,rfl⟩:=ry;exact SeqAt.RcAt.int_int a ta b tb
  | str b=>obtain⟨tb,rfl⟩:=ry;exact SeqAt.RcAt.int_str a ta b tb
  | @tup cb m5 kW eb rb=>cases ry;obtain⟨bM,jr,pb⟩:=sb.isTup I eb;exact SeqAt.RcAt.int_tuple a ta pb (by omega)
  | @lst cb m5 kW eb rb=>cases ry;obtain⟨bM,jr,pb⟩:=sb.fH I eb;exact SeqAt.RcAt.int_list a ta pb (by omega)
 | str a=>
  obtain⟨ta,rfl⟩:=rx
  cases r2 with
  | dh=>cases ry;exact SeqAt.RcAt.str_none a ta
  | bl b=>cases ry;exact SeqAt.RcAt.str_bool a ta b
  | int b=>obtain⟨tb,rfl⟩:=ry;exact SeqAt.RcAt.str_int a ta b tb
  | str b=>obtain⟨tb,rfl⟩:=ry;exact SeqAt.RcAt.str_str a ta b tb
  | @tup cb m5 kW eb rb=>cases ry;obtain⟨bM,jr,pb⟩:=sb.isTup I eb;exact SeqAt.RcAt.str_tuple a ta pb (by omega)
  | @lst cb m5 kW eb rb=>cases ry;obtain⟨bM,jr,pb⟩:=sb.fH I eb;exact SeqAt.RcAt.str_list a ta pb (by omega)
 | @tup ca Ob oF ea ra=>
  cases rx;obtain⟨fW,yq,pa⟩:=sb.isTup I ea
  cases r2 with
  | dh=>cases ry;exact SeqAt.RcAt.tuple_none pa (by omega)
  | bl b=>cases ry;exact SeqAt.RcAt.tuple_bool b pa (by omega)
  | int b=>obtain⟨tb,rfl⟩:=ry;exact SeqAt.RcAt.tuple_int b tb pa (by omega)
  | str b=>obtain⟨tb,rfl⟩:=ry;exact SeqAt.RcAt.tuple_str b tb pa (by omega)
  | @tup cb m5 kW eb rb=>cases ry;obtain⟨bM,jr,pb⟩:=sb.isTup I eb;exact(by
   have hd:A.units+(gj oF+1) < cLine:=hu
   have items:jd A s fW bM oF kW:=fun j h1 h2=>jZ I sb oF (A:=A.in1) ra rb yq jr (by show A.units+1+gj oF < cLine;omega) (dQ fW j h1) (dQ bM j h2)
   exact pU (by omega) pa pb (yq.length.symm.trans ra.length) (jr.length.symm.trans rb.length) items)
  | @lst cb m5 kW eb rb=>cases ry;obtain⟨bM,jr,pb⟩:=sb.fH I eb;exact SeqAt.RcAt.tuple_list pa pb (by omega)
 | @lst ca Ob oF ea ra=>
  cases rx;obtain⟨fW,yq,pa⟩:=sb.fH I ea
  cases r2 with
  | dh=>cases ry;exact SeqAt.RcAt.list_none pa (by omega)
  | bl b=>cases ry;exact SeqAt.RcAt.list_bool b pa (by omega)
  | int b=>obtain⟨tb,rfl⟩:=ry;exact SeqAt.RcAt.list_int b tb pa (by omega)
  | str b=>obtain⟨tb,rfl⟩:=ry;exact SeqAt.RcAt.list_str b tb pa (by omega)
  | @tup cb m5 kW eb rb=>cases ry;obtain⟨bM,jr,pb⟩:=sb.isTup I eb;exact SeqAt.RcAt.list_tuple pa pb (by omega)
  | @lst cb m5 kW eb rb=>cases ry;obtain⟨bM,jr,pb⟩:=sb.fH I eb;exact(by
   have hd:A.units+(gj oF+1) < cLine:=hu
   have items:jd A s fW bM oF kW:=fun j h1 h2=>jZ I sb oF (A:=A.in1) ra rb yq jr (by show A.units+1+gj oF < cLine;omega) (dQ fW j h1) (dQ bM j h2)
   exact qY (by omega) pa pb (yq.length.symm.trans ra.length) (jr.length.symm.trans rb.length) items)
theorem Hg (I:Inv X pins σ H s) (sb:Sub F H){d e:D}{A:Around}{x y:V}{u w':Value}(r1:Rep F x d) (r2:Rep F y e) (rx:RelV x u) (ry:RelV y w') (hu:A.units+iS d < cLine):SeqAt.RcNeAt A s u w' (!wj d e):=by
 cases r1 with
 | dh=>
  cases rx
  cases r2 with
  | dh=>cases ry;exact SeqAt.RcNeAt.none_none
  | bl b=>cases ry;exact SeqAt.RcNeAt.none_bool b
  | int b=>obtain⟨tb,rfl⟩:=ry;exact SeqAt.RcNeAt.none_int b tb
  | str b=>obtain⟨tb,rfl⟩:=ry;exact SeqAt.RcNeAt.none_str b tb
  | @tup cb m5 kW eb rb=>cases ry;obtain⟨bM,jr,pb⟩:=sb.isTup I eb;exact SeqAt.RcNeAt.none_tuple pb (by omega)
  | @lst cb m5 kW eb rb=>cases ry;obtain⟨bM,jr,pb⟩:=sb.fH I eb;exact SeqAt.RcNeAt.none_list pb (by omega)
 | bl a=>
  cases rx
  cases r2 with
  | dh=>cases ry;exact SeqAt.RcNeAt.bool_none a
  | bl b=>cases ry;exact SeqAt.RcNeAt.bool_bool a b
  | int b=>obtain⟨tb,rfl⟩:=ry;exact SeqAt.RcNeAt.bool_int a b tb
  | str b=>obtain⟨tb,rfl⟩:=ry;exact SeqAt.RcNeAt.bool_str a b tb
  | @tup cb m5 kW eb rb=>cases ry;obtain⟨bM,jr,pb⟩:=sb.isTup I eb;exact SeqAt.RcNeAt.bool_tuple a pb (by omega)
  | @lst cb m5 kW eb rb=>cases ry;obtain⟨bM,jr,pb⟩:=sb.fH I eb;exact SeqAt.RcNeAt.bool_list a pb (by omega)
 | int a=>
  obtain⟨ta,rfl⟩:=rx
  cases r2 with
  | dh=>cases ry;exact SeqAt.RcNeAt.int_none a ta
  | bl b=>cases ry;exact SeqAt.RcNeAt.int_bool a ta b
  | int b=>obtain⟨tb,rfl⟩:=ry;exact SeqAt.RcNeAt.int_int a ta b tb
  | str b=>obtain⟨tb,rfl⟩:=ry;exact SeqAt.RcNeAt.int_str a ta b tb
  | @tup cb m5 kW eb rb=>cases ry;obtain⟨bM,jr,pb⟩:=sb.isTup I eb;exact SeqAt.RcNeAt.int_tuple a ta pb (by omega)
  | @lst cb m5 kW eb rb=>cases ry;obtain⟨bM,jr,pb⟩:=sb.fH I eb;exact SeqAt.RcNeAt.int_list a ta pb (by omega)
 | str a=>
  obtain⟨ta,rfl⟩:=rx
  cases r2 with
  | dh=>cases ry;exact SeqAt.RcNeAt.str_none a ta
  | bl b=>cases ry;exact SeqAt.RcNeAt.str_bool a ta b
  | int b=>obtain⟨tb,rfl⟩:=ry;exact SeqAt.RcNeAt.str_int a ta b tb
  | str b=>obtain⟨tb,rfl⟩:=ry;exact SeqAt.RcNeAt.str_str a ta b tb
  | @tup cb m5 kW eb rb=>cases ry;obtain⟨bM,jr,pb⟩:=sb.isTup I eb;exact SeqAt.RcNeAt.str_tuple a ta pb (by omega)
  | @lst cb m5 kW eb rb=>cases ry;obtain⟨bM,jr,pb⟩:=sb.fH I eb;exact SeqAt.RcNeAt.str_list a ta pb (by omega)
 | @tup ca Ob oF ea ra=>
  cases rx;obtain⟨fW,yq,pa⟩:=sb.isTup I ea
  cases r2 with
  | dh=>cases ry;exact SeqAt.RcNeAt.tuple_none pa (by omega)
  | bl b=>cases ry;exact SeqAt.RcNeAt.tuple_bool b pa (by omega)
  | int b=>obtain⟨tb,rfl⟩:=ry;exact SeqAt.RcNeAt.tuple_int b tb pa (by omega)
  | str b=>obtain⟨tb,rfl⟩:=ry;exact SeqAt.RcNeAt.tuple_str b tb pa (by omega)
  | @tup cb m5 kW eb rb=>cases ry;obtain⟨bM,jr,pb⟩:=sb.isTup I eb;exact(by
   have hd:A.units+(gj oF+1) < cLine:=hu
   have items:jd A s fW bM oF kW:=fun j h1 h2=>jZ I sb oF (A:=A.in1) ra rb yq jr (by show A.units+1+gj oF < cLine;omega) (dQ fW j h1) (dQ bM j h2)
   exact tF (by omega) pa pb (yq.length.symm.trans ra.length) (jr.length.symm.trans rb.length) items)
  | @lst cb m5 kW eb rb=>cases ry;obtain⟨bM,jr,pb⟩:=sb.fH I eb;exact SeqAt.RcNeAt.tuple_list pa pb (by omega)
 | @lst ca Ob oF ea ra=>
  cases rx;obtain⟨fW,yq,pa⟩:=sb.fH I ea
  cases r2 with
  | dh=>cases ry;exact SeqAt.RcNeAt.list_none pa (by omega)
  | bl b=>cases ry;exact SeqAt.RcNeAt.list_bool b pa (by omega)
  | int b=>obtain⟨tb,rfl⟩:=ry;exact SeqAt.RcNeAt.list_int b tb pa (by omega)
  | str b=>obtain⟨tb,rfl⟩:=ry;exact SeqAt.RcNeAt.list_str b tb pa (by omega)
  | @tup cb m5 kW eb rb=>cases ry;obtain⟨bM,jr,pb⟩:=sb.isTup I eb;exact SeqAt.RcNeAt.list_tuple pa pb (by omega)
  | @lst cb m5 kW eb rb=>cases ry;obtain⟨bM,jr,pb⟩:=sb.fH I eb;exact(by
   have hd:A.units+(gj oF+1) < cLine:=hu
   have items:jd A s fW bM oF kW:=fun j h1 h2=>jZ I sb oF (A:=A.in1) ra rb yq jr (by show A.units+1+gj oF < cLine;omega) (dQ fW j h1) (dQ bM j h2)
   exact uA (by omega) pa pb (yq.length.symm.trans ra.length) (jr.length.symm.trans rb.length) items)
noncomputable def xD:List D->Option U
 | [a,b]=>if iS a<=40 then some (.t (.bl (wj a b))) else none
 | _=>none
noncomputable def Od:List D->Option U
 | [a,b]=>if iS a<=40 then some (.t (.bl (!wj a b))) else none
 | _=>none
theorem j3 (hu:X.A.units+64 < cLine):zZ X (compareOp .Eq) xD:=by
 intro pins s σ H x y v u Q I rx ry ⟨F,ds,w,sb,rs,hw,q⟩
 obtain⟨d,e,rfl,r1,r2⟩:=u5 rs
 obtain⟨hd,rfl⟩:=dX (show(if iS d<=40 then some (U.t (.bl (wj d e))) else none)=some w from hw)
 exact Oc I sb r1 r2 rx ry (by omega) _ _ _ _ ⟨.bl _,H,I,rfl,q _ F H (iC.refl ..) sb (.bl _)⟩
theorem Ah (hu:X.A.units+64 < cLine):zZ X (compareOp .NotEq) Od:=by
 intro pins s σ H x y v u Q I rx ry ⟨F,ds,w,sb,rs,hw,q⟩
 obtain⟨d,e,rfl,r1,r2⟩:=u5 rs
 obtain⟨hd,rfl⟩:=dX (show(if iS d<=40 then some (U.t (.bl (!wj d e))) else none)=some w from hw)
 exact Hg I sb r1 r2 rx ry (by omega) _ _ _ _ ⟨.bl _,H,I,rfl,q _ F H (iC.refl ..) sb (.bl _)⟩
end
section
variable {X:Cx}{pins:List (Addr×Obj)}{σ:St}{F H:Hp}{s:Shared}
end
section
variable {X:Cx}{a b c e:Expr}{es:List Expr}{pos p p2 px:Pos}{x y:Str}{g ga gb gc:GD}{gA:GA}
noncomputable def Ej:List D->Option (List Bool)
 | []=>some []
 | .bl b :: ds=>(Ej ds).map fun bs=>b :: bs
 | _=>none
noncomputable def YE:List D->Option U
 | [.lst ds]=>(Ej ds).map fun bs=>.t (.bl (bs.all id))
 | _=>none
theorem pW {P:D->Prop}{F:Hp}{xs:List V}{ds:List D}{f:List D->Option U}{w':U}(rs:bB F xs ds) (h:f ds=some w') (hn:f []=none) (h2:∀a b r,f (a :: b :: r)=none):∃x d,xs=[x]/\ds=[d]/\Rep F x d:=by
 cases rs with
 | nil=>rw[hn] at h;cases h
 | cons r rs=>
  cases rs with
  | nil=>exact⟨_,_,rfl,rfl,r⟩
  | cons _ _=>rw[h2] at h;cases h
noncomputable def yr:List D->Option U
 | [.tup ds]=>some (.m (.lst ds))
 | [.lst ds]=>some (.m (.lst ds))
 | _=>none
noncomputable def cu:List D->Option U
 | [.tup ds]=>some (.t (.tup ds))
 | [.lst ds]=>some (.t (.tup ds))
 | _=>none
theorem Ai:jk X (.type "list") (rP yr):=by
 intro pins s σ H xs us Q I r ⟨F,ds,w,sb,rs,hw,q⟩
 obtain⟨x,d,rfl,rfl,r1⟩:=pW (P:=fun _=>True) rs hw rfl (fun d _ _=>by cases d <;> rfl)
 cases d <;> try (simp[yr] at hw;done)
 ·cases hw
  obtain⟨a,vs,rfl,fa,ha,oA⟩:=sb.jV r1
  exact pM pins s σ H _ us Q I r ⟨a,vs,rfl,.inr (.inl ha),fun p hp=>q _ F _ (iC.obj hp _) (sb.same (iC.obj (F:=F) hp _).same) ⟨p,rfl,hp,sb.fresh hp,vs,aV,oA⟩⟩
 ·cases hw
  obtain⟨a,vs,rfl,fa,ha,oA⟩:=sb.jW r1
  exact pM pins s σ H _ us Q I r ⟨a,vs,rfl,.inl (.inl ha),fun p hp=>q _ F _ (iC.obj hp _) (sb.same (iC.obj (F:=F) hp _).same) ⟨p,rfl,hp,sb.fresh hp,vs,aV,oA⟩⟩
theorem bY:jk X (.type "tuple") (rP cu):=by
 intro pins s σ H xs us Q I r ⟨F,ds,w,sb,rs,hw,q⟩
 obtain⟨x,d,rfl,rfl,r1⟩:=pW (P:=fun _=>True) rs hw rfl (fun d _ _=>by cases d <;> rfl)
 cases d <;> try (simp[cu] at hw;done)
 ·cases hw
  have r0:=r1
  obtain⟨a,vs,rfl,fa,ha,oA⟩:=sb.jV r1
  exact oJ pins s σ H _ us Q I r ⟨a,vs,rfl,.inr ⟨.inl ha,q _ F H (iC.refl ..) sb r0⟩⟩
 ·cases hw
  obtain⟨a,vs,rfl,fa,ha,oA⟩:=sb.jW r1
  exact oJ pins s σ H _ us Q I r ⟨a,vs,rfl,.inl ⟨.inl ha,fun p hp=>q _ _ _ (iC.root sb hp _) (sb.sV hp) (.tup aV (oA.le (mU (sb.fresh hp))))⟩⟩
end
theorem jH.ky {H:Hp}{a:Addr}{kvs:List (Key×V)}{y:V}{k:Key}(e:H a=some (.dK kvs)) (h:KQ y k):jH H a y (oz kvs k):=.inl ⟨kvs,k,.inl e,h,rfl⟩
theorem xR.ky {H:Hp}{a:Addr}{kvs:List (Key×V)}{y:V}{k:Key}{v:V}(e:H a=some (.dK kvs)) (h:KQ y k) (hl:kvs.length < sizeLine):xR H a y v (upd H a (.dK (putK kvs k v))):=.inl ⟨kvs,k,e,h,hl,rfl⟩
noncomputable def keyOf:D->Option Key
 | .bl b=>some (.inl (bI b))
 | .int i=>some (.inl i)
 | .str z=>some (.inr z)
 | _=>none
theorem iT {F:Hp}{v:V}{d:D}{k:Key}(r:Rep F v d) (h:keyOf d=some k):KQ v k:=by
 cases r <;> cases h <;> first | exact .inl rfl | exact .inr ⟨_,rfl,rfl⟩
noncomputable def bx {κ:Type} [DecidableEq κ] (kvs:List (κ×D)) (k:κ):Option D:=(kvs.find? fun kv=>decide (kv.1=k)).map (·.2)
noncomputable def putD {κ:Type} [DecidableEq κ] (kvs:List (κ×D)) (k:κ) (d:D):List (κ×D):=
 if(kvs.any fun kv=>decide (kv.1=k))=true then kvs.map (fun kv=>if kv.1=k then(kv.1,d) else kv) else kvs++[(k,d)]
theorem kX {κ:Type} [DecidableEq κ] {F:Hp}{k:κ}{d:D}:∀{ws:List (κ×V)}{kvs:List (κ×D)},Paired (jm F) ws kvs->bx kvs k=some d->∃v,oz ws k=some v/\Rep F v d
 | _,_,.nil,h=>by cases h
 | _,_,@Paired.cons _ _ _ p q ws kvs r rs,h=>by
  by_cases e:q.1=k
  ·have e':p.1=k:=r.1.trans e
   refine⟨p.2,pK e',?_⟩
   have:bx (q :: kvs) k=some q.2:=by simp[bx,List.find?_cons,e]
   rw[this] at h
   cases h
   exact r.2
  ·have e':¬p.1=k:=fun z=>e (r.1.symm.trans z)
   have:bx (q :: kvs) k=bx kvs k:=by simp[bx,List.find?_cons,e]
   rw[this] at h
   obtain⟨v,h1,h2⟩:=kX rs h
   exact⟨v,by rw[mQ e'];exact h1,h2⟩
theorem qx {κ:Type} [DecidableEq κ] {F:Hp}{k:κ}:∀{ws:List (κ×V)}{kvs:List (κ×D)},Paired (jm F) ws kvs->bx kvs k=none->oz ws k=none
 | _,_,.nil,h=>rfl
 | _,_,@Paired.cons _ _ _ p q ws kvs r rs,h=>by
  by_cases e:q.1=k
  ·have:bx (q :: kvs) k=some q.2:=by simp[bx,List.find?_cons,e]
   rw[this] at h
   cases h
  ·have e':¬p.1=k:=fun z=>e (r.1.symm.trans z)
   have:bx (q :: kvs) k=bx kvs k:=by simp[bx,List.find?_cons,e]
   rw[this] at h
   rw[mQ e']
   exact qx rs h
theorem yt {κ:Type} [DecidableEq κ] {F:Hp}{k:κ}:∀{ws:List (κ×V)}{kvs:List (κ×D)},Paired (jm F) ws kvs->(ws.any fun kv=>decide (kv.1=k))=(kvs.any fun kv=>decide (kv.1=k))
 | _,_,.nil=>rfl
 | _,_,.cons r rs=>by rw[List.any_cons,List.any_cons,yt rs,r.1]
theorem yu {κ:Type} [DecidableEq κ] {F:Hp}{k:κ}{v:V}{d:D}(r:Rep F v d):∀{ws:List (κ×V)}{kvs:List (κ×D)},Paired (jm F) ws kvs->Paired (jm F) (ws.map fun kv=>if kv.1=k then(kv.1,v) else kv) (kvs.map fun kv=>if kv.1=k then(kv.1,d) else kv)
 | _,_,.nil=>.nil
 | _,_,@Paired.cons _ _ _ p q ws kvs h hs=>by
  refine .cons ?_ (yu r hs)
  show jm F (if p.1=k then(p.1,v) else p) (if q.1=k then(q.1,d) else q)
  rw[h.1]
  by_cases e:q.1=k
  ·rw[if_pos e,if_pos e];exact⟨rfl,r⟩
  ·rw[if_neg e,if_neg e];exact h
theorem qZ {α β:Type}{P:α->β->Prop}{x:α}{y:β}(p:P x y):∀{l:List α}{r:List β},Paired P l r->Paired P (l++[x]) (r++[y])
 | _,_,.nil=>.cons p .nil
 | _,_,.cons q qs=>.cons q (qZ p qs)
theorem yw {κ:Type} [DecidableEq κ] {F:Hp}{k:κ}{v:V}{d:D}{ws:List (κ×V)}{kvs:List (κ×D)}(h:Paired (jm F) ws kvs) (r:Rep F v d):Paired (jm F) (putK ws k v) (putD kvs k d):=by
 unfold putK putD
 rw[yt h]
 by_cases e:(kvs.any fun kv=>decide (kv.1=k))=true
 ·rw[if_pos e,if_pos e];exact yu r h
 ·rw[if_neg e,if_neg e];exact qZ ⟨rfl,r⟩ h
noncomputable def ju:D->Option D
 | .tup ds=>if fV 8 (.tup ds)=true then some (nf (.tup ds)) else none
 | _=>none
theorem j4 {F H:Hp}{v:V}{d:D}{ks:D}(sb:Sub F H) (r:Rep F v d) (h:ju d=some ks):∃b,v= .ref b/\Kd H b ks:=by
 cases r with
 | @tup a vs ds e rs=>
  obtain⟨h1,h2⟩:=dX (show(if fV 8 (.tup ds)=true then some (nf (.tup ds)) else none)=some ks from h)
  subst h2
  exact⟨a,rfl,_,Rep.le sb (.tup e rs),h1,rfl⟩
 | dh=>cases h
 | bl _=>cases h
 | int _=>cases h
 | str _=>cases h
 | lst _ _=>cases h
noncomputable def dz:U->D->Option D
 | .t (.tup ds),.int i=>cX ds i
 | .t (.lst ds),.int i=>cX ds i
 | .m (.lst ds),.int i=>cX ds i
 | .b (.lst ds),.int i=>cX ds i
 | .s ns,.int i=>(cX ns i).map D.int
 | .m (.dct kvs),k=>(keyOf k).bind (bx kvs)
 | .b (.dct kvs),k=>(keyOf k).bind (bx kvs)
 | .m (.cS kvs),k=>(ju k).bind (bx kvs)
 | .b (.cS kvs),k=>(ju k).bind (bx kvs)
 | _,_=>none
noncomputable def aL (i:Nat) (gb:GD):GD:=fun S=>match S[i]? with
 | some (some _)=>(gb S).bind fun p=>match p.2[i]? with
  | some (some u)=>(dz u p.1).map fun d=>(d,p.2)
  | _=>none
 | _=>none
theorem Hh {α β:Type}(f:α->β){l:List α}{i:Int}{x:α}(h:cX l i=some x):cX (l.map f) i=some (f x):=by
 unfold cX at h ⊢
 rw[List.length_map]
 obtain⟨j,h1,h2⟩:=ah h
 rw[h1]
 show(l.map f)[j]? =_
 rw[List.getElem?_map,h2]
 rfl
section
variable {X:Cx}{a b c e value:Expr}{es:List Expr}{pos p p2 px pos':Pos}{x y:Str}{g ga gb gc gk gv:GD}{gA:GA}
theorem aH {i : Nat} (hu : X.A.units + 20 < cLine) (hb : JD X b gb) (hs : su b := by first | (intro _ _; rfl)) (hN : X.N[i]? = some x := by rfl) (hv : Dl X.env.scope x := by first | exact Or.inl rfl | exact Or.inr (Or.inl rfl) | exact Or.inr (Or.inr rfl))
    (hd:(x == ("__debug__":Str))=false:=by decide) (hcd:(x == ("__classdict__":Str))=false:=by decide):JD X (.Subscript (.Name x px) b pos) (aL i gb):=⟨fun B=>PE.orelse fun σ H Q ⟨S,F,d,S',R,hg,q⟩=>by
  unfold aL at hg
  split at hg
  . rename_i u0 Sj
    obtain⟨v0,hv0,_⟩:=R.rep i u0 Sj
    obtain⟨⟨k,S1⟩,h1,hg⟩:=ah hg
    dsimp only at hg
    split at hg
    . rename_i u hS
      obtain⟨d',hr,hg⟩:=au hg
      cases hg
      have Bq:∀F1 H1,Rel X.K B S' σ F1 H1->sS X.K F1 H1 v0 u:=fun F1 H1 R1=>by
        obtain⟨v,k1,k2⟩:=R1.rep i u hS
        rw[hv0] at k1
        cases k1
        exact k2
      have seq:∀(Y:V->V->Hp->VK->Prop),PE X (.Subscript (.Name x px) b pos) (MD Y (GF i) (tD X.K B gb))->(∀v F1 H1,Rel X.K B S' σ F1 H1->Step S S' σ F H F1 H1->Rep F1 v k->Y v0 v H1 Q)->∃t',PE X (.Subscript (.Name x px) b pos) t'/\t' σ H Q:=fun Y hY h=>
        ⟨_,hY,v0,hv0,S,F,k,S',R,h1,fun v F1 H1 R1 st1 r1=>h v F1 H1 R1 st1 r1⟩
      have dict:∀kvs,(∀F1 H1,Rel X.K B S' σ F1 H1->∃a ws,v0= .ref a/\H1 a=some (.dK ws)/\Paired (jm F1) ws kvs)->(keyOf k).bind (bx kvs)=some d->∃t',PE X (.Subscript (.Name x px) b pos) t'/\t' σ H Q:=fun kvs hat hr=>by
        obtain⟨kk,e1,e2⟩:=ah hr
        refine⟨_,Bc hu (iQ hN hv hd hcd) (hb.h B) hs,v0,hv0,S,F,k,S',R,h1,fun v F1 H1 R1 st1 r1=>?_⟩
        obtain⟨a,ws,rfl,ha,pr⟩:=hat F1 H1 R1
        obtain⟨w',z1,z2⟩:=kX pr e2
        exact⟨a,w',rfl,by rw[<-z1];exact jH.ky ha (iT r1 e1),q w' F1 H1 R1 st1 z2⟩
      have yx:∀kvs,(∀F1 H1,Rel X.K B S' σ F1 H1->∃a ws,v0= .ref a/\H1 a=some (.dT ws)/\Paired (jm F1) ws kvs)->(ju k).bind (bx kvs)=some d->∃t',PE X (.Subscript (.Name x px) b pos) t'/\t' σ H Q:=fun kvs hat hr=>by
        obtain⟨kk,e1,e2⟩:=ah hr
        refine⟨_,Bc hu (iQ hN hv hd hcd) (hb.h B) hs,v0,hv0,S,F,k,S',R,h1,fun v F1 H1 R1 st1 r1=>?_⟩
        obtain⟨a,ws,rfl,ha,pr⟩:=hat F1 H1 R1
        obtain⟨w',z1,z2⟩:=kX pr e2
        obtain⟨b',rfl,hb'⟩:=j4 R1.sub r1 e1
        exact⟨a,w',rfl,by rw[<-z1];exact jH.t ha hb',q w' F1 H1 R1 st1 z2⟩
      have list:∀ds ii,k= .int ii->cX ds ii=some d->(∀F1 H1,Rel X.K B S' σ F1 H1->∃a vs,v0= .ref a/\(oW X.K H1 a vs\/vU X.K H1 a vs)/\bB F1 vs ds)->∃t',PE X (.Subscript (.Name x px) b pos) t'/\t' σ H Q:=fun ds ii ek hrr hat=>by
        subst ek
        refine seq _ (Bh DR (iQ hN hv hd hcd) (hb.h B) hs) fun v F1 H1 R1 st1 r1=>?_
        obtain⟨a,vs,rfl,ha,rs⟩:=hat F1 H1 R1
        obtain⟨w',z1,z2⟩:=rs.cX hrr
        rw[i9 r1]
        rcases ha with ha | ha
        . exact .inl ⟨a,vs,ii,w',rfl,rfl,ha,z1,q w' F1 H1 R1 st1 z2⟩
        . exact .inr (.inl ⟨a,vs,ii,w',rfl,rfl,ha,z1,q w' F1 H1 R1 st1 z2⟩)
      unfold dz at hr
      split at hr
      . rename_i ds ii
        exact list ds ii rfl hr fun F1 H1 R1=>let⟨a,vs,e1,fa,ha,rs⟩:=R1.sub.jV (Bq F1 H1 R1);⟨a,vs,e1,.inr (.inl ha),rs⟩
      . rename_i ds ii
        exact list ds ii rfl hr fun F1 H1 R1=>let⟨a,vs,e1,fa,ha,rs⟩:=R1.sub.jW (Bq F1 H1 R1);⟨a,vs,e1,.inl (.inl ha),rs⟩
      . rename_i ds ii
        exact list ds ii rfl hr fun F1 H1 R1=>let⟨a,e1,fa,vs,ha,rs⟩:=Bq F1 H1 R1;⟨a,vs,e1,.inl (oW.of ha),rs⟩
      . rename_i ds ii
        exact list ds ii rfl hr fun F1 H1 R1=>let⟨a,e1,fa,vs,ha,rs⟩:=Bq F1 H1 R1;⟨a,vs,e1,.inl (oW.of ha),rs⟩
      . rename_i ns ii
        obtain⟨n,z1,z2⟩:=au hr
        subst z2
        refine seq _ (Bh DR (iQ hN hv hd hcd) (hb.h B) hs) fun v F1 H1 R1 st1 r1=>?_
        obtain⟨a,e1,ha⟩:=Bq F1 H1 R1
        rw[i9 r1]
        exact .inl ⟨a,ns.map V.int,ii,.int n,e1,rfl,ha.sq,Hh V.int z1,q _ F1 H1 R1 st1 (.int n)⟩
      . rename_i kvs
        exact dict kvs (fun F1 H1 R1=>let⟨a,e1,fa,ws,ha,pr⟩:=Bq F1 H1 R1;⟨a,ws,e1,ha,pr⟩) hr
      . rename_i kvs
        exact dict kvs (fun F1 H1 R1=>let⟨a,e1,fa,ws,ha,pr⟩:=Bq F1 H1 R1;⟨a,ws,e1,ha,pr⟩) hr
      . rename_i kvs
        exact yx kvs (fun F1 H1 R1=>let⟨a,e1,fa,ws,ha,pr⟩:=Bq F1 H1 R1;⟨a,ws,e1,ha,pr⟩) hr
      . rename_i kvs
        exact yx kvs (fun F1 H1 R1=>let⟨a,e1,fa,ws,ha,pr⟩:=Bq F1 H1 R1;⟨a,ws,e1,ha,pr⟩) hr
      . cases hr
    . cases hg
  . cases hg⟩
noncomputable def qy:U->Option Nat
 | .t (.tup ds)=>some ds.length
 | .t (.lst ds)=>some ds.length
 | .t (.str z)=>if z.length<=100000 then some z.length else none
 | .m (.lst ds)=>some ds.length
 | .b (.lst ds)=>some ds.length
 | .m (.dct ds)=>some ds.length
 | .b (.dct ds)=>some ds.length
 | .m (.cS ds)=>some ds.length
 | .b (.cS ds)=>some ds.length
 | .s ns=>some ns.length
 | _=>none
noncomputable def d7 (i:Nat):GD:=fun S=>match S[i]? with
 | some (some u)=>(qy u).map fun n=>(.int (n:Nat),S)
 | _=>none
theorem ez {α β:Type}{P:α->β->Prop}:∀{l:List α}{r:List β},Paired P l r->l.length=r.length
 | _,_,.nil=>rfl
 | _,_,.cons _ ps=>congrArg Nat.succ (ez ps)
theorem Aj {prog:Program}{w:World}{K:Type} [DecidableEq K] (knd:HeapKind prog w K) (d:Addr) (hd:(d == sysModules)=false):
  MeetsIn prog w (Builtin.«dict.__len__» ⟨[.ref d],[]⟩) (fun _ R s=>∃xs,s.heap.DictOfH knd d xs/\R (.ok (.ret (.int xs.length s.toks))) {s with toks:=s.toks+1}):=
 .of_wp fun A R s ⟨xs,hm,h⟩=>by
  obtain⟨o,es,ep,ho,hc,hdat,he,his,hn⟩:=hm
  show wpAny _ _ (dictSize d >>= _) _ _ s
  unfold dictSize
  refine wpAny_bind (wpAny_bind (wpAny_dictEntries ho hdat (wpAny_pure ?_)))
  show wpAny _ _ (Builtin.Dict.pendingCount d >>= _) _ _ s
  refine wpAny_bind (wpAny_pendingCount_other hd ?_)
  refine wpAny_ret_mkInt ?_
  rw[Nat.add_zero,size_of_entries he];exact h
theorem CG {prog:Program}{w:World}{K:Type} [DecidableEq K] {knd:HeapKind prog w K}{A:Around}{E:Value->Shared->Prop}{s:Shared}{d:Addr}{xs:List (K×Addr×Value)}{Q:Value->Shared->Prop}(hd:(d == sysModules)=false) (hm:s.heap.DictOfH knd d xs) (hfit:(xs.length:Int) < 2 ^ 63)
  (h:Q (.int xs.length (s.toks+1)) {s with toks:=s.toks+1+1}):wpAny (model prog w) A (Builtin.«len» ⟨[.ref d],[]⟩) (fun fin s'=>∃r,fin= .done (.ret r)/\Q r s') E s:=by
 unfold Builtin.«len»
 refine wpAny_bind (m:=oneArg "len" _) (wpAny_pure ?_)
 refine wpAny_bind (m:=callSpecial? (.ref d) (Str.ofString "__len__")) (wpAny_callSpecial?_slot (name:=Str.ofString "__len__") hm.typeIs F.slot_dict_len
  (call_meetsIn F.slot_dict_len hm.typeIs F.entry_dict_len (F.args_dict_len_1 _) (Aj knd d hd) ⟨xs,hm,?_⟩))
 show wpAny _ _ _ _ _ {s with toks:=s.toks+1}
 refine wpAny_bind (wpAny_holding (wpAny_pure ?_))
 refine wpAny_bind (wpAny_letGo ?_)
 show wpAny _ _ (if((xs.length:Nat):Int) < 0 then _ else _) _ _ _
 rw[if_neg (by omega)]
 show wpAny _ _ (if((xs.length:Nat):Int)≥2 ^ 63 then _ else _) _ _ _
 rw[if_neg (by omega)]
 exact wpAny_bind (wpAny_mkInt (wpAny_pure ⟨_,rfl,h⟩))
theorem Ak:jk X (.builtin "len") (fun xs H Q=>∃a kvs,xs=[V.ref a]/\H a=some (.dT kvs)/\Q (.int kvs.length) H):=by
 intro pins s σ H xs us Q I r h
 obtain⟨a,kvs,rfl,ha,q⟩:=h
 obtain⟨u,rfl,ru⟩:=vals1 r
 cases ru
 obtain⟨z,hd,ys,rel,dd⟩:=DK I.hok ha
 have hl:kvs.length=ys.length:=Paired.length rel
 refine Calls.call_function_entry kind_len plain_len entry_len (args_len1 _) (CG hd dd (by rw[<-hl];rw[sizeLine_eq] at z;omega) ?_)
 rw[<-hl]
 exact⟨.int kvs.length,H,I.tok _,⟨_,rfl⟩,q⟩
theorem fZ {i:Nat}(hg:Gl X "len") (hm:X.mg "len" =none) (hN:X.N[i]? =some x:=by rfl) (hv:Dl X.env.scope x:=by first | exact Or.inl rfl | exact Or.inr (Or.inl rfl) | exact Or.inr (Or.inr rfl))
  (hd:(x == ("__debug__":Str))=false:=by decide) (hcd:(x == ("__classdict__":Str))=false:=by decide) (he:starEach [.Name x px] X.env=(false,eval (.Name x px) X.env) :: starEach [] X.env:=by rfl) (hpl:(backTo pos (starEach [] X.env)).any (·.1)=false:=by rfl):
  JD X (.Call (.Name "len" p) [.Name x px] [] pos) (d7 i):=⟨fun B=>PE.orelse fun σ H Q ⟨S,F,d,S',R,hg',q⟩=>by
 unfold d7 at hg'
 split at hg'
 ·rename_i u hS
  obtain⟨n,hn,hg'⟩:=au hg'
  cases hg'
  obtain⟨v0,hv0,r0⟩:=R.rep i u hS
  have fin:=q (.int n) F H R (Step.refl ..) (.int _)
  have arg:PA X [.Name x px] (Jk (GF i) Nq):=lI (iQ hN hv hd hcd) oX he
  have list:∀a vs,v0= .ref a->(oW X.K H a vs\/vU X.K H a vs)->vs.length=n->∃t',PE X (.Call (.Name "len" p) [.Name x px] [] pos) t'/\t' σ H Q:=fun a vs e1 ha hl=>
   ⟨_,mO lK hg hm PySem.boot_len arg (by decide) (by decide) he hpl,v0,hv0,a,vs,by rw[e1],ha,by rw[hl];exact fin⟩
  have dict:∀a ws,v0= .ref a->H a=some (.dK ws)->ws.length=n->∃t',PE X (.Call (.Name "len" p) [.Name x px] [] pos) t'/\t' σ H Q:=fun a vs e1 ha hl=>
   ⟨_,mO CB hg hm PySem.boot_len arg (by decide) (by decide) he hpl,v0,hv0,a,vs,by rw[e1],ha,by rw[hl];exact fin⟩
  have yx:∀a ws,v0= .ref a->H a=some (.dT ws)->ws.length=n->∃t',PE X (.Call (.Name "len" p) [.Name x px] [] pos) t'/\t' σ H Q:=fun a vs e1 ha hl=>
   ⟨_,mO Ak hg hm PySem.boot_len arg (by decide) (by decide) he hpl,v0,hv0,a,vs,by rw[e1],ha,by rw[hl];exact fin⟩
  unfold qy at hn
  split at hn
  ·cases hn;obtain⟨a,vs,e1,fa,ha,rs⟩:=R.sub.jV r0;exact list a vs e1 (.inr (.inl ha)) rs.length
  ·cases hn;obtain⟨a,vs,e1,fa,ha,rs⟩:=R.sub.jW r0;exact list a vs e1 (.inl (.inl ha)) rs.length
  ·rename_i z
   obtain⟨hl,rfl⟩:=dX hn
   exact⟨_,mO pL hg hm PySem.boot_len arg (by decide) (by decide) he hpl,v0,hv0,z,by rw[Bo r0],kB hl,fin⟩
  ·cases hn;obtain⟨a,e1,fa,vs,ha,rs⟩:=r0;exact list a vs e1 (.inl (oW.of ha)) rs.length
  ·cases hn;obtain⟨a,e1,fa,vs,ha,rs⟩:=r0;exact list a vs e1 (.inl (oW.of ha)) rs.length
  ·cases hn;obtain⟨a,e1,fa,ws,ha,pr⟩:=r0;exact dict a ws e1 ha (ez pr)
  ·cases hn;obtain⟨a,e1,fa,ws,ha,pr⟩:=r0;exact dict a ws e1 ha (ez pr)
  ·cases hn;obtain⟨a,e1,fa,ws,ha,pr⟩:=r0;exact yx a ws e1 ha (ez pr)
  ·cases hn;obtain⟨a,e1,fa,ws,ha,pr⟩:=r0;exact yx a ws e1 ha (ez pr)
  ·cases hn;obtain⟨a,e1,ha⟩:=r0;exact list a _ e1 (.inl ha.sq) (by simp)
  ·cases hn
 ·cases hg'⟩
end
noncomputable def ir (o:MO) (k d:D):Option MO:=match o with
 | .dct kvs=>(keyOf k).bind fun kk=>if kvs.length < 100000 then some (.dct (putD kvs kk d)) else none
 | .cS kvs=>(ju k).bind fun kk=>if kvs.length < 10000000 then some (.cS (putD kvs kk d)) else none
 | .ins _ _=>none
 | .lst ds=>match k with
  | .int i=>(xA ds.length i).map fun j=>.lst (ds.set j d)
  | _=>none
noncomputable def pX (i:Nat) (gk gv:GD):GS:=fun S=>(gv S).bind fun p=>match p.2[i]? with
 | some (some _)=>(gk p.2).bind fun r=>(jq r.2 i fun o=>(ir o r.1 p.1).map fun o'=>(.dh,o')).map fun z=>.nx z.2
 | _=>none
theorem bB.set {F:Hp}{v:V}{d:D}(r:Rep F v d):∀{vs:List V}{ds:List D}(j:Nat),bB F vs ds->bB F (vs.set j v) (ds.set j d)
 | _,_,_,.nil=>.nil
 | _,_,0,.cons _ rs=>.cons r rs
 | _,_,j+1,.cons q rs=>.cons q (bB.set r j rs)
section
variable {X:Cx}{a b c e value k:Expr}{es:List Expr}{pos p p2 px pos':Pos}{x y:Str}{g ga gb gc gk gv:GD}{gA:GA}
theorem jC {i:Nat}(hu:X.A.units+20 < cLine) (hk:JD X k gk) (hval:JD X value gv) (hN:X.N[i]? =some x:=by rfl) (hv:Dl X.env.scope x:=by first | exact Or.inl rfl | exact Or.inr (Or.inl rfl) | exact Or.inr (Or.inr rfl))
  (hd:(x == ("__debug__":Str))=false:=by decide) (hcd:(x == ("__classdict__":Str))=false:=by decide)
  (hs:swapsWith value (some (.Subscript (.Name x px) k pos')) pos.line X.env=pure false:=by rfl)
  (hs1:swapsWithSole [.Subscript (.Name x px) k pos'] value pos.line X.env=pure false:=by rfl) (hs2:swappedStores [.Subscript (.Name x px) k pos'] value X.env=pure none:=by rfl)
  (YF:(assignEach [.Subscript (.Name x px) k pos'] X.env).map (·.2)=[assign (.Subscript (.Name x px) k pos') X.env]:=by rfl)
  (YG:∀v,assign (.Subscript (.Name x px) k pos') X.env v=(do
   let ov <-holding [v] (eval (.Name x px) X.env)
   let iv <-holding [v,ov] (eval k X.env)
   standAt pos'
   holding [v,ov,iv] (setItem ov iv v)
   release [v,ov,iv] []):=by intro _;rfl):
  JS X (.Assign [.Subscript (.Name x px) k pos'] value pos) (pX i gk gv):=⟨fun B=>PS.orelse fun D σ H ⟨S,F,o,R,hg,q⟩=>by
 obtain⟨⟨d,S1⟩,h1,hg⟩:=ah hg
 dsimp only at hg
 split at hg
 ·rename_i u0 Sj
  obtain⟨⟨kd,S2⟩,h2,hg⟩:=ah hg
  obtain⟨⟨nd,S3⟩,h3,hg⟩:=au hg
  subst hg
  obtain⟨u,u',mo,mo',hS,N3,hio,hf,N4,rfl⟩:=ve h3
  obtain⟨mo2,hw,hf2⟩:=au hf
  cases hf2
  have hv0:∀F1 H1,Rel X.K B S1 σ F1 H1->∃v,σ[i]? =some (some v):=fun F1 H1 R1=>let⟨v,k1,_⟩:=R1.rep i u0 Sj;⟨v,k1⟩
  cases mo with
  | dct kvs=>
   obtain⟨kk,e1,hw⟩:=ah hw
   obtain⟨hl,rfl⟩:=dX hw
   refine⟨_,Bd hu (iQ hN hv hd hcd) (hk.h B) (hval.h B) hs,S,F,d,S1,R,h1,fun v F1 H1 R1 st1 r1=>?_⟩
   obtain⟨v0,hv0⟩:=hv0 F1 H1 R1
   refine⟨v0,hv0,S1,F1,kd,S2,R1,h2,fun y F2 H2 R2 st2 r2=>?_⟩
   obtain⟨v',k1,k2⟩:=R2.rep i u hS
   rw[hv0] at k1
   cases k1
   obtain⟨a,o2,rfl,fa,eo,k3⟩:=k2.cy N3
   rw[hio] at eo
   cases eo
   obtain⟨ws,ha,pr⟩:=k3
   refine⟨a,_,rfl,xR.ky ha (iT r2 e1) (by rw[ez pr];exact Nat.lt_of_lt_of_le hl (by decide)),?_⟩
   obtain⟨R3,st3⟩:=R2.write (ho:=.dK (putK ws kk v)) hS N4 hv0 ⟨_,aV,yw pr (r1.le st2.ext.le)⟩
   exact q σ F2 _ R3 fun b o z=>st2.ext.le b o (st1.ext.le b o z)
  | ins C kvs=>cases hw
  | cS kvs=>
   obtain⟨kk,e1,hw⟩:=ah hw
   obtain⟨hl,rfl⟩:=dX hw
   refine⟨_,Bd hu (iQ hN hv hd hcd) (hk.h B) (hval.h B) hs,S,F,d,S1,R,h1,fun v F1 H1 R1 st1 r1=>?_⟩
   obtain⟨v0,hv0⟩:=hv0 F1 H1 R1
   refine⟨v0,hv0,S1,F1,kd,S2,R1,h2,fun y F2 H2 R2 st2 r2=>?_⟩
   obtain⟨v',k1,k2⟩:=R2.rep i u hS
   rw[hv0] at k1
   cases k1
   obtain⟨a,o2,rfl,fa,eo,k3⟩:=k2.cy N3
   rw[hio] at eo
   cases eo
   obtain⟨ws,ha,pr⟩:=k3
   obtain⟨b',rfl,hb'⟩:=j4 R2.sub r2 e1
   refine⟨a,_,rfl,xR.t ha hb' (by rw[ez pr];exact Nat.lt_of_lt_of_le hl (by decide)),?_⟩
   obtain⟨R3,st3⟩:=R2.write (ho:=.dT (putK ws kk v)) hS N4 hv0 ⟨_,aV,yw pr (r1.le st2.ext.le)⟩
   exact q σ F2 _ R3 fun b o z=>st2.ext.le b o (st1.ext.le b o z)
  | lst ds=>
   unfold ir at hw
   dsimp only at hw
   split at hw
   ·rename_i ii
    obtain⟨j,e1,rfl⟩:=au hw
    refine⟨_,DA (hval.h B) (Ks (iQ hN hv hd hcd) (hk.h B) set_list YG) hs1 hs2 YF,S,F,d,S1,R,h1,fun v F1 H1 R1 st1 r1=>?_⟩
    obtain⟨v0,hv0⟩:=hv0 F1 H1 R1
    refine⟨v0,hv0,S1,F1,_,S2,R1,h2,fun y F2 H2 R2 st2 r2=>?_⟩
    obtain⟨v',k1,k2⟩:=R2.rep i u hS
    rw[hv0] at k1
    cases k1
    obtain⟨a,o2,rfl,fa,eo,k3⟩:=k2.cy N3
    rw[hio] at eo
    cases eo
    obtain⟨vs,ha,rs⟩:=k3
    rw[i9 r2]
    refine⟨a,vs,_,j,rfl,rfl,ha,by rw[rs.length];exact e1,?_⟩
    obtain⟨R3,st3⟩:=R2.write (ho:=.lst (vs.set j v)) hS N4 hv0 ⟨_,aV,rs.set (r1.le st2.ext.le) j⟩
    exact q σ F2 _ R3 fun b o z=>st2.ext.le b o (st1.ext.le b o z)
   ·cases hw
 ·cases hg⟩
theorem Rel.Oe {K:PySem.W.Frag}{B:Base}{S:SS}{σ:St}{F H:Hp}{a:Addr}{o o':HO}(R:Rel K B S σ F H) (hn:¬cy S σ a) (hf:F a=none) (hB:B.H a=none) (hh:H a=some o) (hz:∀ob u,o≠.jA ob u):Rel K B S σ F (upd H a o'):=by
 have JF:∀b ob w,H b=some (.jA ob w)->upd H a o' b=some (.jA ob w):=fun b ob w z=>by
  rw[aE (fun e=>by rw[e,hh] at z;cases z;exact hz _ _ rfl)];exact z
 refine⟨fun b u z=>?_,R.len,fun j w z=>?_,R.yc,R.own,R.bor,R.par,⟨R.ext.le,fun b u z n=>?_,R.ext.ig,fun b u z=>?_,fun b ob w z=>JF b ob w (R.ext.jA b ob w z)⟩⟩
 ·have hb:b≠a:=fun e=>by rw[e,hf] at z;cases z
  rw[aE hb];exact R.sub b u z
 ·obtain⟨v,h1,h2⟩:=R.rep j w z
  refine⟨v,h1,h2.le (fun _ _ z=>z) JF fun c hm hc=>?_⟩
  have hca:c≠a:=fun e=>hn ⟨j,w,z,hm,by rw[h1,hc,e]⟩
  obtain⟨c',_,e,f,_⟩:=h2.cy hm
  rw[hc] at e
  cases e
  exact⟨fun o z=>by rw[aE hca];exact z,f⟩
 ·rw[aE (fun e=>by rw[e,hB] at z;cases z)];exact R.ext.keep b u z n
 ·by_cases hb:b=a
  ·exact⟨o',by rw[hb,aV]⟩
  ·rw[aE hb];exact R.ext.there b u z
end
section
variable {X:Cx}{a b c e:Expr}{lo hi:Option Expr}{pos p p2 px:Pos}{x y:Str}{g ga:GD}{gA:GA}{gl gh:Option GD}
noncomputable def Ek (d:D):Prop:=(toPy d).showable=true/\(toPy d).depth<=20/\(toPy d).shown.length<=sizeLine
noncomputable instance (d:D):Decidable (Ek d):=by unfold Ek;infer_instance
noncomputable def jE:List D->Option U
 | [d]=>if Ek d then some (.t (.str (toPy d).shown)) else none
 | _=>none
mutual
theorem Rep.qz {pins:List (Addr×Obj)}{σ:St}{F H:Hp}{s:Shared}(I:Inv X pins σ H s) (sb:Sub F H):∀{v:V}{d:D}{u:Value},Rep F v d->RelV v u->∃as,Reads s.heap u (toPy d) as
 | _,_,_,.dh,r=>by cases r;exact⟨[],.none⟩
 | _,_,_,.bl b,r=>by cases r;exact⟨[],.bool b⟩
 | _,_,_,.int i,r=>by obtain⟨t,rfl⟩:=r;exact⟨[],.int i t⟩
 | _,_,_,.str z,r=>by obtain⟨t,rfl⟩:=r;exact⟨[],.str z t⟩
 | _,_,_,.tup e rs,r=>by
  cases r
  obtain⟨its,rv,p⟩:=sb.isTup I e
  obtain⟨as,h⟩:=bB.qz I sb rs rv
  obtain⟨o,ho,hc,n,hd⟩:=p
  exact⟨as,.tuple ho hc hd (by simpa using h)⟩
 | _,_,_,.lst e rs,r=>by
  cases r
  obtain⟨its,rv,p⟩:=sb.fH I e
  obtain⟨as,h⟩:=bB.qz I sb rs rv
  obtain⟨o,ho,hc,n,hd⟩:=p
  exact⟨_ :: as,.list ho hc hd (by simpa using h)⟩
theorem bB.qz {pins:List (Addr×Obj)}{σ:St}{F H:Hp}{s:Shared}(I:Inv X pins σ H s) (sb:Sub F H):∀{vs:List V}{ds:List D}{us:List Value},bB F vs ds->Vals vs us->∃as,ReadsAll s.heap us (gT ds) as
 | _,_,_,.nil,r=>by cases r;exact⟨[],.nil⟩
 | _,_,_,.cons q qs,r=>by
  cases r with
  | cons r rs=>
   obtain⟨as,h⟩:=Rep.qz I sb q r
   obtain⟨bs,k⟩:=bB.qz I sb qs rs
   exact⟨as++bs,.cons h k⟩
end
theorem lQ (hg:X.A.guards=some []) (hu:X.A.units+64 < cLine):jk X (.builtin "repr") (rP jE):=by
 intro pins s σ H xs us Q I r ⟨F,ds,w,sb,rs,hw,q⟩
 obtain⟨x,d,rfl,rfl,r1⟩:=pW (P:=fun _=>True) rs hw rfl (fun d _ _=>rfl)
 obtain⟨hok,rfl⟩:=dX (show(if Ek d then some (U.t (.str (toPy d).shown)) else none)=some w from hw)
 have fin:=q (.str (toPy d).shown) F H (iC.refl ..) sb (.str _)
 obtain⟨u,rfl,ru⟩:=vals1 r
 obtain⟨h1,h2,h3⟩:=hok
 have seq:∀a,x= .ref a->wpAny (model X.prog X.w) X.A (call (.builtin "repr") [u]) (EP X pins σ Q) X.xe s:=fun a e1=>by
  subst e1
  cases ru
  obtain⟨as,hr⟩:=Rep.qz I sb r1 (u:=.ref a) rfl
  exact repr_of_reads' hr h1 (fun z=>by rw[qX] at z;cases z) hg (by omega) (fun _ _ e=>e) (fun h' u tk hk=>⟨.str _,H,I.kept (t':=tk) hk,⟨u,rfl⟩,fin⟩) h3
 cases r1 with
 | dh=>cases ru;exact PySem.P.repr_of_none ⟨.str _,H,I.tok _,⟨_,rfl⟩,fin⟩
 | bl b=>cases ru;exact PySem.P.repr_of_bool ⟨.str _,H,I.tok _,⟨_,rfl⟩,fin⟩
 | int i=>obtain⟨t,rfl⟩:=ru;exact PySem.P.repr_of_int (by simpa[toPy,PyData.showable] using h1) ⟨.str _,H,I.tok _,⟨_,rfl⟩,fin⟩
 | str z=>obtain⟨t,rfl⟩:=ru;exact PySem.P.repr_of_str ⟨.str _,H,I.tok _,⟨_,rfl⟩,fin⟩ h3
 | tup e rs=>exact seq _ rfl
 | lst e rs=>exact seq _ rfl
theorem Bs {i:Int}{t:Tok}(hg:Gl X x) (hm:X.mg x=some (.int i t)) (hd:(x == ("__debug__":Str))=false:=by decide):JD X (.Name x pos) (eC (.int i)):=D7 rfl (GG (v:=.int i) hg hm ⟨t,rfl⟩ hd)
end
theorem fj {X : Cx} {x y : Str} {scope : Scope} {c : Addr} {i : Nat} (clos : closureFor scope X.env = pure [(y, c)]) (mS : ∀ z ∈ scope.names, z.2 ≠ .cell) (kind : scope.kind = .function) (names : ∀ z ∈ scope.names, z.2 = .local -> scope.names.lookup z.1 = some .local)
    (loc:scope.names.lookup x=some .local) (hc:X.env.cells.lookup y=some c) (only:∀z∈scope.names,z.2= .free->z.1=y) (ne:x≠y) (hN:X.N[i]? =some y) (vis:X.env.scope.names.lookup y=some .cell) (rel:(relabel scope X.env).names.lookup y=some .cell):
    iF X x [y] [i] scope [(y,c)]:=by
  have look:∀n c',([(y,c)]:List (Str×Addr)).lookup n=some c'->n=y/\c'=c:=fun n c' h=>by
    rw[List.lookup_cons] at h
    cases e:n == y with
    | true=>rw[e] at h;cases h;exact⟨eq_of_beq e,rfl⟩
    | false=>rw[e] at h;cases h
  have self:([(y,c)]:List (Str×Addr)).lookup y=some c:=by rw[List.lookup_cons,beq_self_eq_true]
  refine⟨clos,mS,kind,names,loc,fun n c' h=>?_,fun n h=>?_,?_,rfl,fun j n h=>?_,fun n h=>?_⟩
  . obtain⟨rfl,rfl⟩:=look n c' h
    exact hc
  . have key:n=y:=by
      have go:∀k,(k=NameKind.cell\/k=NameKind.free)->(relabel scope X.env).names.lookup n=some k->n=y:=fun k hk e=>by
        have m:=PySem.mem_of_lookup e
        unfold relabel at m
        obtain⟨⟨n',k'⟩,hm,q⟩:=List.mem_map.mp m
        by_cases hf:k'= .free
        . have h0:n'=y:=only _ hm hf
          have e1:n'=n:=by
            have h1:=congrArg Prod.fst q
            dsimp only at h1
            split at h1 <;> exact h1
          exact e1.symm.trans h0
        . have z:(k' == NameKind.free)=false:=by simpa using hf
          simp only[z,Bool.false_and] at q
          have q2:k'=k:=by
            have:=congrArg Prod.snd q
            simpa using this
          rcases hk with rfl | rfl
          . exact absurd q2 (mS _ hm)
          . exact absurd q2 hf
      rcases h with h | h
      . exact go _ (.inl rfl) h
      . exact go _ (.inr rfl) h
    subst key
    exact⟨c,self⟩
  . simp[ne]
  . cases j with
    | zero=>cases h;exact⟨i,rfl,hN,.inr (.inl vis)⟩
    | succ j=>simp at h
  . have e:n=y:=by simpa using h
    subst e
    exact⟨.inl rel,⟨c,self⟩,by rw[vis];decide⟩
section
variable {X:Cx}{a b c e:Expr}{es:List Expr}{pos p p2 px:Pos}{x y:Str}{f:FM}{fa:Addr}{fd:FuncData}{ps:List Str}{k n:Nat}
theorem dR (a:List D) (o:MO) (h:fH o=false):hAppend a o=none:=by
 cases o with
 | lst ds=>cases h
 | dct k=>unfold hAppend;split <;> first | rfl | (rename_i e;cases e)
 | cS k=>unfold hAppend;split <;> first | rfl | (rename_i e;cases e)
 | ins C k=>unfold hAppend;split <;> first | rfl | (rename_i e;cases e)
end
noncomputable def bR:List D->Option (List Int)
 | []=>some []
 | .int b :: ds=>(bR ds).map fun bs=>b :: bs
 | _=>none
theorem pg {F:Hp}:∀{vs:List V}{ds:List D}{bs:List Int},bB F vs ds->bR ds=some bs->vs=bs.map V.int
 | _,_,_,.nil,h=>by cases h;rfl
 | _,_,_,@bB.cons _ v d vs ds r rs,h=>by
  cases d <;> try (simp[bR] at h;done)
  obtain⟨bs,h1,h2⟩:=au (show(bR ds).map _=_ from h)
  subst h2
  rw[i9 r,pg rs h1]
  rfl
section
variable {X:Cx}
end
section
variable {prog:Program}{w:World}{A:Around}{R:Result->Shared->Prop}{I:Addr}{fp wr:List Addr}{G:Array GenState->Array GenState->Prop}{n:Nat}{P:Nat->Value->Prop}{St:Nat->Shared->Prop}
end
section
variable {prog:Program}{w:World}{A:Around}{E:Value->Shared->Prop}{s:Shared}
end
section
variable {X:Cx}{a:Expr}{pos p p1 p2:Pos}{ga:GD}
end
section
variable {X:Cx}{a:Expr}{x:Str}{px pos:Pos}{ga:GD}
end
noncomputable def look:U->Option D
 | .t d=>some d
 | .m (.lst ds)=>some (.lst ds)
 | .b (.lst ds)=>some (.lst ds)
 | _=>none
section
variable {X:Cx}{x y:Str}{p px py pos:Pos}{f:List D->Option U}
end
section
variable (S:SS) (i:Nat) (g:GD)
end
section
variable {X:Cx}{a b c e:Expr}{es:List Expr}{pos p p2 px:Pos}{x y:Str}
noncomputable def Sm:List D->Option U
 | [.lst ds,.int k]=>if 0<=k/\k.toNat<=100000/\ds.length * k.toNat<=100000 then some (.m (.lst (List.replicate k.toNat ds).flatten)) else none
 | _=>none
noncomputable def CH:List D->Option U
 | [.int i]=>some (.t (.int i))
 | [.bl k]=>some (.t (.int (if k then 1 else 0)))
 | _=>none
theorem CI:jk X (.type "int") (rP CH):=by
 intro pins s σ H xs us Q I r ⟨F,ds,w,sb,rs,hw,q⟩
 obtain⟨x,d,rfl,rfl,r1⟩:=pW (P:=fun _=>True) rs hw rfl (fun d _ _=>by cases d <;> rfl)
 cases d <;> try (simp[CH] at hw;done)
 ·cases hw
  have hx:=oZ r1
  subst hx
  exact uS pins s σ H _ us Q I r (.inr ⟨_,rfl,q _ F H (iC.refl ..) sb (.int _)⟩)
 ·cases hw
  have hx:=i9 r1
  subst hx
  exact uS pins s σ H _ us Q I r (.inl ⟨_,rfl,q _ F H (iC.refl ..) sb (.int _)⟩)
noncomputable def yy:V->List V->Hp->VK->Prop:=fun x vs H Q=>∃l b xs zs,x= .ref l/\vs=[.ref b]/\H l=some (.lst xs)/\Rd H b (.lst zs)/\xs.length+zs.length<=sizeLine/\Q .dh (upd H l (.lst (xs++zs)))
theorem Al:RA X "list.extend" yy:=by
 intro pins s σ H x vs v us Q I rx rv h
 obtain⟨l,b,xs,zs,rfl,rfl,hH,hB,hz,q⟩:=h
 cases rx
 obtain⟨u,rfl,ru⟩:=rv.one
 cases ru
 obtain⟨z,its,n,r,hl,e⟩:=I.Cy hH
 obtain⟨z2,its2,n2,r2,hl2,e2⟩:=hB.Cy I
 have hsz:its.toArray.size+its2.toArray.size<=sizeLine:=by rw[List.size_toArray,List.size_toArray];omega
 have Of:¬(!its.toArray.isEmpty && Builtin.List.listTooLong (its.toArray.size+its2.toArray.size))=true:=by
  rw[DS hsz,Bool.and_false]
  exact Bool.false_ne_true
 refine call_meets F.slot_list_extend ⟨_,e,rfl⟩ F.entry_list_extend (F.args_list_extend_2 _ _)
  (AutoSeq1.list_extend_list_list_0 l its.toArray n b its2.toArray n2 Of (by rw[List.size_toArray];omega) (by omega)) ⟨e,e2,?_⟩
 refine⟨.dh,_,I.NJ (its':=its++its2) hH e (by simp) (r.append r2) ?_,rfl,q⟩
 rw[List.length_append]
 omega
noncomputable def kC:List D->MO->Option (D×MO)
 | [.lst es],.lst ds=>if ds.length+es.length<=100000 then some (.dh,.lst (ds++es)) else none
 | _,_=>none
theorem CJ:Se yy kC:=by
 intro F H a vs xs ds args res o' sb hH fa rs rx hw Q q
 unfold kC at hw
 split at hw
 ·rename_i es ds' e2
  cases e2
  obtain⟨hl,hw⟩:=dX hw
  cases hw
  cases rx with
  | cons r rr=>
   cases rr
   obtain⟨b,zs,rfl,fb,hb,CC⟩:=sb.jW r
   exact⟨a,b,vs,zs,rfl,rfl,hH,hb,by rw[rs.length,CC.length];exact Nat.le_trans hl (by decide),q .dh _ .dh ⟨_,aV,rs.append CC⟩⟩
 ·cases hw
theorem CK (a:List D) (o:MO) (h:fH o=false):kC a o=none:=by
 cases o with
 | lst ds=>cases h
 | dct k=>unfold kC;split <;> first | rfl | (rename_i e;cases e)
 | cS k=>unfold kC;split <;> first | rfl | (rename_i e;cases e)
 | ins C k=>unfold kC;split <;> first | rfl | (rename_i e;cases e)
noncomputable def yz:D->Bool
 | .dh=>true
 | _=>false
noncomputable def Hi (f:Int->Int->Int) (i:Nat) (g:GD):GS:=fun S=>match S[i]? with
 | some (some (.t (.int n)))=>(g S).bind fun p=>match p.1 with
  | .int m=>(oB i (.t (.int (f n m))) p.2).map .nx
  | _=>none
 | _=>none
theorem Lg {i:Nat}{pos':Pos}{op:Operator}{f:Int->Int->Int}{g:GD}(ho:Rk X op (WW f)) (hN:X.N.Nodup) (hi:X.N[i]? =some x) (hx:Loc X.env.scope x) (he:JD X e g)
  (hf:X.fn x=true\/X.env.scope.names.lookup x=some .local:=by first | exact .inl rfl | exact .inr rfl | assumption):JS X (.AugAssign (.Name x pos') op e pos) (Hi f i g):=
 ⟨fun B=>(Kv hN hi hx (he.h B) ho hf).imp fun D σ H ⟨S,F,o,R,h,k⟩=>by
 unfold Hi at h
 split at h
 ·rename_i n hS
  obtain⟨⟨d,S1⟩,h1,h⟩:=ah h
  dsimp only at h
  split at h
  ·rename_i m
   obtain⟨S2,h2,h⟩:=au h
   subst h
   obtain⟨v,k1,k2⟩:=R.rep i _ hS
   have hv:v= .int n:=i9 k2
   subst hv
   refine⟨_,k1,S,F,_,S1,R,h1,fun y F1 H1 R1 st1 r1=>⟨n,m,rfl,i9 r1,?_⟩⟩
   exact k _ F1 H1 (R1.put h2 (.int _)) st1.ext.le
  ·cases h
 ·cases h⟩
theorem iU {x : Str} {bJ : List Str} {cap : List Nat} {scope : Scope} {cl : List (Str × Addr)} (clos : closureFor scope X.env = pure cl) (mS : ∀ z ∈ scope.names, z.2 ≠ .cell) (kind : scope.kind = .function) (names : ∀ z ∈ scope.names, z.2 = .local -> scope.names.lookup z.1 = some .local)
    (loc:scope.names.lookup x=some .local) (hc:cl.map (fun p=>X.env.cells.lookup p.1)=cl.map (fun p=>some p.2)) (only:∀z∈scope.names,z.2= .free->z.1∈bJ) (hcl:cl.map (·.1)=bJ.reverse\/cl.map (·.1)=bJ) (nd:(x :: bJ).Nodup)
    (slot:cap.map (fun i=>X.N[i]?)=bJ.map some) (vis:bJ.map (fun n=>X.env.scope.names.lookup n)=bJ.map fun _=>some .cell) (rel:bJ.map (fun n=>(relabel scope X.env).names.lookup n)=bJ.map fun _=>some .cell):
    iF X x bJ cap scope cl:=by
  have all:∀{α β:Type}{f g:α->β}{l:List α},l.map f=l.map g->∀a∈l,f a=g a:=fun {α β f g l} h=>by
    induction l with
    | nil=>intro a m;cases m
    | cons b r ih=>
      intro a m
      rw[List.map_cons,List.map_cons] at h
      injection h with h1 h2
      rcases List.mem_cons.mp m with z | z
      . rw[z];exact h1
      . exact ih h2 a z
  have Og:∀n,n∈bJ->∃c,cl.lookup n=some c:=fun n hn=>lookup_some (hcl.elim (fun z=>by rw[z];exact List.mem_reverse.mpr hn) fun z=>by rw[z];exact hn)
  have len:cap.length=bJ.length:=by have:=congrArg List.length slot;simpa using this
  refine⟨clos,mS,kind,names,loc,fun n c h=>all hc (n,c) (PySem.mem_of_lookup h),fun n h=>?_,nd,len,fun j n h=>?_,fun n h=>⟨.inl (all rel n h),Og n h,by rw[all vis n h];decide⟩⟩
  . refine Og n ?_
    have go:∀k,(k=NameKind.cell\/k=NameKind.free)->(relabel scope X.env).names.lookup n=some k->n∈bJ:=fun k hk e=>by
      have m:=PySem.mem_of_lookup e
      unfold relabel at m
      obtain⟨⟨n',k'⟩,hm,q⟩:=List.mem_map.mp m
      by_cases hf:k'= .free
      . have h0:n'∈bJ:=only _ hm hf
        have e1:n'=n:=by
          have h1:=congrArg Prod.fst q
          dsimp only at h1
          split at h1 <;> exact h1
        rw[<-e1]
        exact h0
      . have z:(k' == NameKind.free)=false:=by simpa using hf
        simp only[z,Bool.false_and] at q
        have q2:k'=k:=by
          have:=congrArg Prod.snd q
          simpa using this
        rcases hk with rfl | rfl
        . exact absurd q2 (mS _ hm)
        . exact absurd q2 hf
    rcases h with h | h
    . exact go _ (.inl rfl) h
    . exact go _ (.inr rfl) h
  . have e:=congrArg (fun l=>l[j]?) slot
    simp only[List.getElem?_map,h,Option.map_some] at e
    cases q:cap[j]? with
    | none=>rw[q] at e;cases e
    | some i=>
      rw[q] at e
      exact⟨i,rfl,Option.some.inj e,.inr (.inl (all vis n (List.mem_of_getElem? h)))⟩
end
open AutoSeq1 (wpAny_loadPart')
noncomputable def q8 (k:Bool) (h:Heap) (a:Addr) (its:Array Value):Prop:=match k with
 | true=>h.IsList a its
 | false=>h.IsTuple a its
noncomputable def mG (k:Bool) (h:Heap) (it a:Addr) (i:Nat):Prop:=match k with
 | true=>h.IsListIter it a i
 | false=>h.IsTupleIter it a i
noncomputable def YH:Bool->String
 | true=>"list_iterator"
 | false=>"tuple_iterator"
noncomputable def Dn (k:Bool) (a:Addr):Obj:={cls:=.type (YH k),data:=.fields #[.ref a,.int 0 0]}
theorem q8.at {k:Bool}{h h':Heap}{a:Addr}{its:Array Value}(x:q8 k h a its) (g:∀o,h.get? a=some o->h'.get? a=some o):q8 k h' a its:=by
 cases k <;> exact let⟨o,ho,r⟩:=x;⟨o,g o ho,r⟩
theorem mG.at {k:Bool}{h h':Heap}{it a:Addr}{i:Nat}(x:mG k h it a i) (g:∀o,h.get? it=some o->h'.get? it=some o):mG k h' it a i:=by
 cases k <;> exact let⟨o,ho,r⟩:=x;⟨o,g o ho,r⟩
theorem mG.obj {k:Bool}{h:Heap}{it a:Addr}{i:Nat}(x:mG k h it a i):∃o,h.get? it=some o/\∀v,o.data≠.cell v:=by
 cases k <;> exact let⟨o,ho,_,r⟩:=x;⟨o,ho,fun v z=>by rw[r] at z;cases z⟩
theorem mG.new (k:Bool) (h:Heap) (a:Addr):mG k (h.push (Dn k a)) h.objs.size a 0:=by
 cases k <;> exact⟨_,Heap.get?_push_size _ rfl,rfl,rfl⟩
section
variable {prog:Program}{w:World}{A:Around}{E:Value->Shared->Prop}{s:Shared}
theorem JK {k:Bool}{a:Addr}{its:Array Value}{Q:Value->Shared->Prop}(h:q8 k s.heap a its) (q:Q (.ref s.heap.objs.size) {s with heap:=s.heap.push (Dn k a)}):wpAny (model prog w) A (pyIter (.ref a)) Q E s:=by
 cases k with
 | true=>exact wpAny_pyIter_list h q
 | false=>exact wpAny_pyIter_tuple h q
theorem Hj {ad t:Addr}{n:Nat}{vals:Array Value}{y:Value}{Q:Value->Shared->Prop}(st:s.heap.IsTupleIter ad t n) (hv:s.heap.IsTuple t vals) (hy:vals[n]? =some y)
  (q:∀h',h'.IsTupleIter ad t (n+1)->Heap.SameBut ad s.heap h'->Q y {s with heap:=h'}):wpAny (model prog w) A (Builtin.SmallTypes.nextOf (.ref ad)) Q E s:=by
 obtain⟨ob,hob,hcl,hdat⟩:=id st
 obtain⟨YI,Lh,_,nn,El⟩:=hv
 unfold Builtin.SmallTypes.nextOf
 refine wpAny_bind (wpAny_callSpecial?_slot (name:=Str.ofString "__next__") st.typeIs F.slot_tuple_iterator_next (wpAny_call_entry F.slot_tuple_iterator_next st.typeIs F.entry_tuple_iterator_next ?_ (F.args_tuple_iterator_next_1 _)))
 show wpAny _ _ (field (.ref ad) 0 >>= _) _ _ s
 refine wpAny_bind (wpAny_field hob hdat (x:=.ref t) rfl ?_)
 show wpAny _ _ (if(Value.ref t == Value.none)=true then _ else _) _ _ s;rw[if_neg (show ¬((Value.ref t == Value.none)=true) from Bool.false_ne_true)]
 show wpAny _ _ (field (.ref ad) 1 >>= _) _ _ s
 refine wpAny_bind (wpAny_field hob hdat (x:=.int n 0) rfl ?_)
 show wpAny _ _ (seqItems? (.ref t) >>= _) _ _ s;refine wpAny_bind (wpAny_seqItems Lh El ?_)
 simp only[Int.toNat_natCast,hy]
 refine wpAny_bind (wpAny_setField hob hdat (by simp) (wpAny_pure ⟨y,rfl,wpAny_pure (q _ ?_ (Heap.SameBut.update ..))⟩))
 exact⟨_,Heap.get?_update_self _ hob (Obj.isFreed_of_fields (Obj.data_mapFields hdat _)),(Obj.cls_mapFields ..).trans hcl,by rw[Obj.data_mapFields hdat];simp[rawInt]⟩
theorem Li {ad t:Addr}{n:Nat}{vals:Array Value}{Q:Value->Shared->Prop}(hn:A.handled=none) (st:s.heap.IsTupleIter ad t n) (hv:s.heap.IsTuple t vals) (hy:vals[n]? =none)
  (q:∀h' e,Heap.ExtBut ad s.heap h'->(∃o,h'.get? e=some o/\o.cls= .type "StopIteration")->E (.ref e) {s with heap:=h'}):wpAny (model prog w) A (Builtin.SmallTypes.nextOf (.ref ad)) Q E s:=by
 obtain⟨ob,hob,hcl,hdat⟩:=id st
 obtain⟨YI,Lh,_,nn,El⟩:=hv
 unfold Builtin.SmallTypes.nextOf
 refine wpAny_bind (wpAny_callSpecial?_slot (name:=Str.ofString "__next__") st.typeIs F.slot_tuple_iterator_next (wpAny_call_entry F.slot_tuple_iterator_next st.typeIs F.entry_tuple_iterator_next ?_ (F.args_tuple_iterator_next_1 _)))
 show wpAny _ _ (field (.ref ad) 0 >>= _) _ _ s
 refine wpAny_bind (wpAny_field hob hdat (x:=.ref t) rfl ?_)
 show wpAny _ _ (if(Value.ref t == Value.none)=true then _ else _) _ _ s;rw[if_neg (show ¬((Value.ref t == Value.none)=true) from Bool.false_ne_true)]
 show wpAny _ _ (field (.ref ad) 1 >>= _) _ _ s
 refine wpAny_bind (wpAny_field hob hdat (x:=.int n 0) rfl ?_)
 show wpAny _ _ (seqItems? (.ref t) >>= _) _ _ s;refine wpAny_bind (wpAny_seqItems Lh El ?_)
 simp only[Int.toNat_natCast,hy]
 refine wpAny_bind (wpAny_rule (wpAny_bind (wpAny_setField hob hdat (by simp) ?_)))
 show wpAny _ _ (newExc (.type "StopIteration") [] >>= _) _ _ _;refine wpAny_bind ?_;simp only[newExc,newTuple]
 refine wpAny_bind (wpAny_newObj_type ?_ (by size_fits));refine wpAny_bind (m:=firstArgMember _ _) (wpAny_of_eq (a:=Value.none) (by first | rfl | (simp only[firstArgMember];rfl)) ?_)
 refine wpAny_newObj_type ?_ (by size_fits);simp only[raiseNew];refine wpAny_bind (wpAny_handled ?_)
 first | rw[show A.in1.handled=none from hn] | rw[hn]
 refine wpAny_bind (wpAny_pure (wpAny_throw ?_));exact q _ _ (((Heap.SameBut.update ..).extBut.push _).push _) ⟨_,Heap.get?_push_size _ rfl,rfl⟩
theorem nextK {k:Bool}{ad t:Addr}{n:Nat}{vals:Array Value}{y:Value}{Q:Value->Shared->Prop}(st:mG k s.heap ad t n) (hv:q8 k s.heap t vals) (hy:vals[n]? =some y)
  (q:∀h',mG k h' ad t (n+1)->Heap.SameBut ad s.heap h'->Q y {s with heap:=h'}):wpAny (model prog w) A (Builtin.SmallTypes.nextOf (.ref ad)) Q E s:=by
 cases k with
 | true=>exact wpAny_nextOf_list_item st hv hy q
 | false=>exact Hj st hv hy q
theorem CM {k:Bool}{ad t:Addr}{n:Nat}{vals:Array Value}{Q:Value->Shared->Prop}(hn:A.handled=none) (st:mG k s.heap ad t n) (hv:q8 k s.heap t vals) (hy:vals[n]? =none)
  (q:∀h' e,Heap.ExtBut ad s.heap h'->(∃o,h'.get? e=some o/\o.cls= .type "StopIteration")->E (.ref e) {s with heap:=h'}):wpAny (model prog w) A (Builtin.SmallTypes.nextOf (.ref ad)) Q E s:=by
 cases k with
 | true=>exact wpAny_nextOf_list_end hn st hv hy q
 | false=>exact Li hn st hv hy q
theorem Lj {k:Bool}(hn:A.handled=none) (ad t:Addr) (hne:t≠ad) (vals:Array Value):Draws prog w A ad [ad,t] vals.size (fun i v=>vals[i]? =some v) (fun i h=>mG k h ad t i/\q8 k h t vals) where
 live:=fun _ _ st=>let⟨o,ho,_⟩:=st.1.obj;⟨o,ho⟩
 frame:=fun _ _ _ st hk=>⟨st.1.at fun o e=>hk ad (by simp) o e,st.2.at fun o e=>hk t (by simp) o e⟩
 item:=fun i s Q E hi st hQ=>nextK st.1 st.2 (y:=vals[i]) (by simp[hi]) fun h' Lk hs'=>hQ _ h' s.toks (by simp[hi]) ⟨Lk,st.2.at fun o e=>hs'.extBut _ _ hne e⟩ hs'
 done:=fun s Q E st hE=>CM hn st.1 st.2 (by simp) hE
end
theorem Em (l:Addr) (vals:Array Value) (n:Nat) (dct:Option Addr) (sl:Array (Option Value)):
  Meets (Builtin.«enumerate.__new__» ⟨[.type "enumerate",.ref l],[]⟩) (fun _ R s=>s.heap.get? l=some {cls:=.type "tuple",dict:=dct,data:=.seq vals n,slots:=sl}/\
   R (.ok (.ret (.ref (s.heap.push (Dn false l)).objs.size))) {s with heap:=(s.heap.push (Dn false l)).push {cls:=.type "enumerate",data:=.fields #[.none,.bool false,.ref s.heap.objs.size,rawInt 0,.none,.none]}}):=
 .of_wp fun prog w A R s h=>by
  obtain⟨hp,g,d,tk,os⟩:=s;obtain⟨hl,h⟩:=h
  have hsub:=sub_enumerate
  have hT:Heap.IsTuple (Shared.heap ⟨hp,g,d,tk,os⟩) l vals:=⟨_,hl,rfl,n,rfl⟩
  wp_walk using wpAny_loadPart' hl
  refine wpAny_stack_any fun st=>wpAny_pure ?_
  split
  ·rename_i c _ _ _ _ _
   cases(c == Value.type "enumerate")
   ·wp_walk using wpAny_loadPart' hl,wpAny_pyIter_tuple hT;exact⟨_,rfl,h⟩
   ·wp_walk using wpAny_loadPart' hl,wpAny_pyIter_tuple hT;exact⟨_,rfl,h⟩
  ·wp_walk using wpAny_loadPart' hl,wpAny_pyIter_tuple hT;exact⟨_,rfl,h⟩
section
variable {prog:Program}{w:World}{A:Around}{E:Value->Shared->Prop}{s:Shared}
theorem Am {k:Bool}{l:Addr}{vals:Array Value}{Q:Value->Shared->Prop}(hL:q8 k s.heap l vals)
  (h:∀h',IsEnum h' (s.heap.objs.size+1) s.heap.objs.size 0 .none->mG k h' s.heap.objs.size l 0->(∀b o,s.heap.get? b=some o->h'.get? b=some o)->Q (.ref (s.heap.objs.size+1)) {s with heap:=h'}):
  wpAny (model prog w) A (call (.type "enumerate") [.ref l]) Q E s:=by
 cases k with
 | true=>exact call_enumerate_list hL fun h' a b _ c=>h h' a b c
 | false=>
  obtain⟨⟨c,dct,dt,sl⟩,hl,hc,n,hd⟩:=hL
  have hc:c= .type "tuple":=hc
  have hd:dt= .seq vals n:=hd
  subst hc hd
  refine callType_new F.called_enumerate (by decide) (F.typeCall_enumerate_1 _) (F.newCall_enumerate_1 _) (fun obj=>F.args_object_init_2 obj _) F.entry_enumerate_new (Em l vals n dct sl) ⟨hl,?_⟩
  have hz:(s.heap.push (Dn false l)).objs.size=s.heap.objs.size+1:=Heap.size_push ..
  show _/\_
  rw[hz]
  have he:IsEnum ((s.heap.push (Dn false l)).push {cls:=.type "enumerate",data:=.fields #[.none,.bool false,.ref s.heap.objs.size,rawInt 0,.none,.none]}) (s.heap.objs.size+1) s.heap.objs.size 0 .none:=by
   have:=Heap.get?_push_size (s.heap.push (Dn false l)) (o:={cls:=.type "enumerate",data:=.fields #[.none,.bool false,.ref s.heap.objs.size,rawInt 0,.none,.none]}) rfl
   rw[hz] at this;exact this
  exact⟨⟨_,he,rfl⟩,h _ he ((mG.new false s.heap l).at fun o e=>Heap.get?_push_of_some _ e) fun b o x=>Heap.get?_push_of_some _ (Heap.get?_push_of_some _ x)⟩
end
theorem Ll {prog:Program}{w:World}{A:Around}{k:Bool}(hn:A.handled=none) (ad t:Addr) (vals:Array Value) (n:Nat) (he:vals[n]? =none):Draws prog w A ad [ad,t] n (fun _ _=>True) (fun i h=>mG k h ad t i/\q8 k h t vals/\i=n) where
 live:=fun _ _ st=>let⟨o,ho,_⟩:=st.1.obj;⟨o,ho⟩
 frame:=fun _ _ _ st hk=>⟨st.1.at fun o e=>hk ad (by simp) o e,st.2.1.at fun o e=>hk t (by simp) o e,st.2.2⟩
 item:=fun i s Q E hi st hQ=>absurd hi (by rw[st.2.2];exact Nat.lt_irrefl _)
 done:=fun s Q E st hE=>CM hn st.1 st.2.1 he hE
noncomputable def zP (K:PySem.W.Frag) (H:Hp) (k:Bool) (a:Addr) (xs:List V):Prop:=match k with
 | true=>oW K H a xs
 | false=>vU K H a xs
section
variable {X:Cx}{pins:List (Addr×Obj)}{σ:St}{H:Hp}{s:Shared}
theorem Inv.Hl (I:Inv X pins σ H s){k:Bool}{a:Addr}{xs:List V}(h:zP X.K H k a xs):∃its:List Value,Vals xs its/\q8 k s.heap a its.toArray/\xs.length<=sizeLine:=by
 cases k with
 | true=>obtain⟨its,r,p,z⟩:=I.list h;exact⟨its,r,p.isList,z⟩
 | false=>obtain⟨its,r,p,z⟩:=I.tuple h;exact⟨its,r,p,z⟩
theorem Inv.wk (I:Inv X pins σ H s){k:Bool}{a:Addr}{xs ys:List V}(h:zP X.K H k a xs) (h':zP X.K H k a ys):xs=ys:=by
 cases k with
 | true=>exact I.xN h h'
 | false=>exact I.uR h h'
theorem Inv.wm {t':Nat}{h':Heap}{fp:List Addr}(I:Inv X pins σ H s) (k:∀b o,b∉fp->s.heap.get? b=some o->h'.get? b=some o) (hf:∀b∈fp,mz X pins H b):Inv X pins σ H {s with heap:=h',toks:=t'}:=by
 have M3:∀b u,H b=some u->b∉fp:=fun b u e z=>by rw[(hf b z).1] at e;cases e
 refine I.step (g':=s.gens) (d':=s.drawn) (ch:=fp) (fun b hb=>?_) (fun b o _ _ hc e _=>k b o hc e) (fun b o _ _ hc e _=>⟨o.slots,k b o hc e⟩) (fun _ _ _ _ n=>n)
  (fun b o hc e=>⟨o,k b o hc e⟩) (fun _ _ e=>e) (fun _ _ _ e=>e) (fun b ps e=>⟨#[],by rw[e];simp⟩) (fun m hm=>?_) (fun b u e=>?_) I.bare
 ·obtain⟨_,f1,_,f3,f4,f5⟩:=hf b hb
  exact⟨f3,f1,f4,f5⟩
 ·obtain⟨o,es,ep,ho,r⟩:=hm
  exact⟨o,es,ep,k _ o (fun z=>(hf _ z).2.1 rfl) ho,r⟩
 ·refine(I.hok b u e).stay (fun c v hc q=>k c v ?_ q) (fun _ q=>q) fun _ _ q=>q
  rcases hc with z | z
  ·rw[z];exact M3 b u e
  ·exact M3 c _ z
theorem Inv.handed {t':Nat}{h':Heap}{fp:List Addr}{xs:List V}{its:List Value}(I:Inv X pins σ H s) (hf:∀b∈fp,mz X pins H b) (hlt:∀b∈fp,b < s.heap.objs.size) (k:∀b o,b∉fp->s.heap.get? b=some o->h'.get? b=some o)
  (ht:h'.get? s.heap.objs.size=some {cls:=.type "tuple",data:=.seq its.toArray}) (hv:Vals xs its) (hz:xs.length<=sizeLine):Inv X pins σ (upd H s.heap.objs.size (.tup xs)) {s with heap:=h',toks:=t'}:=by
 have I1:Inv X pins σ (upd H s.heap.objs.size (.tup xs)) {s with heap:=s.heap.push {cls:=.type "tuple",data:=.seq its.toArray},toks:=t'}:=
  I.laid (fun _ _ q=>Heap.get?_push_of_some _ q) (Nat.le_refl _) ⟨hz,its,hv,IsTup.new s.heap _⟩
 refine Inv.wm (s:={s with heap:=s.heap.push {cls:=.type "tuple",data:=.seq its.toArray},toks:=t'}) (t':=t') (fp:=fp) I1 (fun b o hb e=>?_) fun b hb=>?_
 ·rcases Heap.get?_push_cases (show(s.heap.push {cls:=.type "tuple",data:=.seq its.toArray}).get? b=some o from e) with⟨z1,z2⟩ | z
  ·rw[z1,z2];exact ht
  ·exact k b o hb z
 ·obtain⟨f0,f1,f2,f3,f4,f5⟩:=hf b hb
  exact⟨by rw[aE (Nat.ne_of_lt (hlt b hb))];exact f0,f1,f2,f3,f4,f5⟩
end
noncomputable def W8 (K:PySem.W.Frag) (k:Bool) (a:Addr):It:=
 ⟨fun i H=>∃xs x,zP K H k a xs/\xs[i]? =some x,fun i H x H'=>∃p y,H p=none/\x= .ref p/\H'=upd H p (.tup [.int i,y])/\∀xs,zP K H k a xs->xs[i]? =some y,fun i H=>∃xs,zP K H k a xs/\xs.length<=i⟩
theorem CN {P : Program} {w : World} {K : PySem.W.Frag} {elts : List Expr} {j : Nat} {pos : Pos} (k : Bool) (a it e : Addr) (hai : a ≠ it) (YJ : e ≠ a) (hei : e ≠ it) : Turn P w K (.Tuple elts j pos) (W8 K k a) [e, it] e (fun i h => (∃ old, IsEnum h e it (i : Int) old) /\ mG k h it a i) where
  mem:=by simp
  obj := fun i h ⟨⟨old, he⟩, st⟩ b hb => by
    rcases List.mem_cons.mp hb with z | z
    . subst z;exact⟨_,he,fun v z=>by cases z⟩
    . have z:b=it:=by simpa using z
      subst z
      exact st.obj
  keep:=fun i h h' ⟨⟨old,he⟩,st⟩ g=>⟨⟨old,g e (by simp) _ he⟩,st.at fun o q=>g it (by simp) o q⟩
  item:=by
    intro X hP hw hK hc i pins s σ H E I hf st hg
    subst hP hw hK
    obtain⟨xs,x,hq,hx⟩:=hg
    obtain⟨its,rv,p,hz⟩:=I.Hl hq
    obtain⟨u,hu,ru⟩:=rv.get hx
    obtain⟨⟨old,he⟩,hit⟩:=st
    have hsz:i < its.toArray.size:=by rw[List.size_toArray];exact(List.getElem?_eq_some_iff.mp hu).1
    refine wpAny_pyNext_enum_itemD (Lj (k:=k) (A:=X.A.in1) (I.ok.hd hc) it a hai its.toArray) he ⟨hit,p⟩ hsz hei (by simp[YJ,hei]) fun y h' tk hy ho hs' hT hzz hk=>?_
    obtain⟨Lk,p'⟩:=hs'
    have ey:y=u:=by
      have h1:its.toArray[i]? =some u:=by simpa using hu
      rw[h1] at hy;exact(Option.some.inj hy).symm
    subst ey
    refine⟨_,rfl,wpAny_letOwnedTupleGo_enum ho fun h2 YK hs2=>?_⟩
    have hs2:Heap.SameBut e h' h2:=hs2
    have elt:e < s.heap.objs.size:=Heap.lt_size he
    obtain⟨oi,YL,_⟩:=hit.obj
    have YM:it < s.heap.objs.size:=Heap.lt_size YL
    have Oh:∀b∈[e,it],b < s.heap.objs.size:=fun b hb=>by
      rcases List.mem_cons.mp hb with z | z
      . rw[z];exact elt
      . rw[show b=it by simpa using z];exact YM
    have I2:Inv X pins σ (upd H s.heap.objs.size (.tup [.int i,x])) {s with heap:=h2,toks:=tk+1}:=
      I.handed (its:=[.int i tk,y]) hf Oh (fun b o hb q=>(hs2.2 b fun z=>hb (by simp[z])).trans (hk b o (fun z=>hb (by simp[z])) (fun z=>hb (by simp[z])) q))
        ((hs2.2 _ (Nat.ne_of_gt elt)).trans hT) (.cons ⟨tk,rfl⟩ (.cons ru .nil)) (show 2<=sizeLine by decide)
    refine⟨.ref s.heap.objs.size,_,I2,rfl,⟨_,x,I.fresh,rfl,rfl,fun ys YN=>by rw[I.wk YN hq];exact hx⟩,⟨⟨y,by simpa using YK⟩,Lk.at fun o q=>(hs2.2 _ (Ne.symm hei)).trans q⟩,fun b hb=>?_⟩
    rw[aE (Nat.ne_of_lt (Oh b hb))]
    exact(hf b hb).1
  done:=by
    intro X hP hw hK hc i pins s σ H E I hf st hg
    subst hP hw hK
    obtain⟨xs,hq,hx⟩:=hg
    obtain⟨its,rv,p,hz⟩:=I.Hl hq
    obtain⟨⟨old,he⟩,hit⟩:=st
    have hl:=rv.length
    refine wpAny_pyNext_enum_endD (n:=i) (Ll (k:=k) (A:=X.A.in1) (I.ok.hd hc) it a its.toArray i (by simp;omega)) he ⟨hit,p,rfl⟩ fun h' hx=>?_
    exact⟨rfl,I.wm (t':=s.toks) (fun b o hb q=>hx b o (fun z=>hb (by simp[z])) q) hf⟩
  self:=fun _ _ _ _ _ st h=>by
    obtain⟨⟨old,he⟩,_⟩:=st
    exact wpAny_pyIter_enum he h
noncomputable abbrev TupAt (h:Heap) (T:Addr) (vals:Array Value):Prop:=h.get? T=some {cls:=.type "tuple",data:=.seq vals}
section
variable {prog:Program}{w:World}{A:Around}{E:Value->Shared->Prop}{s:Shared}
theorem Lm {T:Addr}{vals:Array Value}{x:Value}{k:Nat}{Q:Unit->Shared->Prop}(hT:TupAt s.heap T vals) (hz:vals.size<=sizeLine) (h:∀h',TupAt h' T (vals.setIfInBounds k x)->Heap.SameBut T s.heap h'->Q () {s with heap:=h'}):
  wpAny (model prog w) A (updateSeq T (·.setIfInBounds k x)) Q E s:=by
 refine wpAny_updateSeq hT rfl (h _ ?_ (Heap.SameBut.update ..)) hz (by simp only[Array.size_setIfInBounds];omega);rw[TupAt,Heap.get?_update_self _ hT rfl];simp[Obj.mapSeq]
structure Ss (N:Nat) (k0 k1:Bool) (l0 l1:Nat) (i:Nat) (f0:Value) (h:Heap):Prop where
 z:IsZip h (N+4) (N+2) (N+3) f0
 ti:TupAt h (N+2) #[.ref N,.ref (N+1)]
 to:∃v:List Value,v.length=2/\TupAt h (N+3) v.toArray
 c0:mG k0 h N l0 i
 c1:mG k1 h (N+1) l1 i
noncomputable def mC (N:Nat):List Addr:=[(N+4),(N+2),(N+3),N,(N+1)]
theorem bq {N b:Nat}:b∈mC N↔N<=b/\b<=N+4:=by
 unfold mC
 simp only[List.mem_cons,List.not_mem_nil,or_false]
 omega
end
noncomputable abbrev Bt (h:Heap) (k0 k1:Bool) (l0 l1:Nat):Heap:=((h.push (Dn k0 l0)).push (Dn k1 l1))
noncomputable abbrev Bu (h:Heap) (k0 k1:Bool) (l0 l1:Nat):Heap:=(Bt h k0 k1 l0 l1).push {cls:=.type "tuple",data:=.seq #[.ref h.objs.size,.ref (h.push (Dn k0 l0)).objs.size]}
noncomputable abbrev Bv (h:Heap) (k0 k1:Bool) (l0 l1:Nat):Heap:=(Bu h k0 k1 l0 l1).push {cls:=.type "tuple",data:=.seq #[.none,.none]}
noncomputable abbrev vj (h:Heap) (k0 k1:Bool) (l0 l1:Nat):Heap:=(Bv h k0 k1 l0 l1).push {cls:=.type "zip",data:=.fields #[.none,.bool false,.bool false,.ref (Bt h k0 k1 l0 l1).objs.size,.ref (Bu h k0 k1 l0 l1).objs.size]}
theorem Ho (k0 k1:Bool) (l0 l1:Nat) (v0 v1:Array Value):Meets (Builtin.«zip.__new__» ⟨[.type "zip",.ref l0,.ref l1],[]⟩) (fun _ R s=>q8 k0 s.heap l0 v0/\q8 k1 s.heap l1 v1/\R (.ok (.ret (.ref (Bv s.heap k0 k1 l0 l1).objs.size))) {s with heap:=vj s.heap k0 k1 l0 l1}):=
 .of_wp fun prog w A R s h=>by
  obtain⟨hp,g,d,tk,os⟩:=s;obtain⟨q0,q1,h⟩:=h
  have hsub:=sub_zip
  have p0:q8 k0 (Shared.heap ⟨hp,g,d,tk,os⟩) l0 v0:=q0.at fun o e=>e
  have p1:q8 k1 (Shared.heap ⟨(hp.push (Dn k0 l0)),g,d,tk,os⟩) l1 v1:=q1.at fun o e=>Heap.get?_push_of_some _ (e)
  wp_walk using JK p0,JK p1
  exact⟨_,rfl,h⟩
theorem En {prog:Program}{w:World}{A:Around}{E:Value->Shared->Prop}{s:Shared}{k0 k1:Bool}{l0 l1:Nat}{v0 v1:Array Value}{Q:Value->Shared->Prop}(q0:q8 k0 s.heap l0 v0) (q1:q8 k1 s.heap l1 v1)
  (h:∀h',Ss s.heap.objs.size k0 k1 l0 l1 0 .none h'->(∀c o,s.heap.get? c=some o->h'.get? c=some o)->Q (.ref (s.heap.objs.size+4)) {s with heap:=h'}):wpAny (model prog w) A (call (.type "zip") [.ref l0,.ref l1]) Q E s:=by
 refine callType_new F.called_zip (by decide) (F.typeCall_zip_2 _ _) (F.newCall_zip_2 _ _) (fun obj=>F.args_object_init_3 obj _ _) F.entry_zip_new (Ho k0 k1 l0 l1 v0 v1) ⟨q0,q1,?_⟩
 have e0:(Bt s.heap k0 k1 l0 l1).objs.size=s.heap.objs.size+2:=by simp only[Heap.size_push]
 have e1:(Bu s.heap k0 k1 l0 l1).objs.size=s.heap.objs.size+3:=by rw[Heap.size_push,e0]
 have e2:(Bv s.heap k0 k1 l0 l1).objs.size=s.heap.objs.size+4:=by rw[Heap.size_push,e1]
 have g2:(vj s.heap k0 k1 l0 l1).get? (Bv s.heap k0 k1 l0 l1).objs.size=some _:=Heap.get?_push_size _ rfl
 have g1:(vj s.heap k0 k1 l0 l1).get? (Bu s.heap k0 k1 l0 l1).objs.size=some _:=Heap.get?_push_of_some _ (Heap.get?_push_size _ rfl)
 have g0:(vj s.heap k0 k1 l0 l1).get? (Bt s.heap k0 k1 l0 l1).objs.size=some _:=Heap.get?_push_of_some _ (Heap.get?_push_of_some _ (Heap.get?_push_size _ rfl))
 rw[e2,e0,e1] at g2
 rw[e1] at g1
 rw[e0] at g0
 simp only[Heap.size_push] at g0
 show _/\_
 rw[e2]
 refine⟨⟨_,g2,rfl⟩,h _ ⟨g2,g0,⟨[.none,.none],rfl,g1⟩,?_,?_⟩ fun c o x=>Heap.get?_push_of_some _ (Heap.get?_push_of_some _ (Heap.get?_push_of_some _ (Heap.get?_push_of_some _ (Heap.get?_push_of_some _ (x)))))⟩
 ·have:=(mG.new k0 (s.heap) l0).at (h':=vj s.heap k0 k1 l0 l1) fun o e=>Heap.get?_push_of_some _ (Heap.get?_push_of_some _ (Heap.get?_push_of_some _ (Heap.get?_push_of_some _ (e))))
  simpa only[Heap.size_push] using this
 ·have:=(mG.new k1 ((s.heap).push (Dn k0 l0)) l1).at (h':=vj s.heap k0 k1 l0 l1) fun o e=>Heap.get?_push_of_some _ (Heap.get?_push_of_some _ (Heap.get?_push_of_some _ (e)))
  simpa only[Heap.size_push] using this
noncomputable def Oi (K:PySem.W.Frag) (k0 k1:Bool) (l0 l1:Nat):It:=
  ⟨fun i H=>∃a0 x0 a1 x1,(zP K H k0 l0 a0/\a0[i]? =some x0)/\(zP K H k1 l1 a1/\a1[i]? =some x1),
   fun i H x H'=>∃p y0 y1,H p=none/\x= .ref p/\H'=upd H p (.tup [y0,y1])/\(∀xs,zP K H k0 l0 xs->xs[i]? =some y0)/\(∀xs,zP K H k1 l1 xs->xs[i]? =some y1),
   fun i H=>∃a0 a1,zP K H k0 l0 a0/\zP K H k1 l1 a1/\(a0.length<=i\/a1.length<=i)⟩
section
variable {X:Cx}{a b c e:Expr}{body elts:List Expr}{pos p tpos:Pos}{jt:Nat}
theorem q8.lt {k:Bool}{h:Heap}{a:Addr}{its:Array Value}(x:q8 k h a its):a < h.objs.size:=by
 cases k <;> exact let⟨o,ho,_⟩:=x;Heap.lt_size ho
noncomputable def Oj (K:PySem.W.Frag) (ta:TA):TI:=fun σ H R=>ta σ H fun vs H1=>∃k a xs,vs=[.ref a]/\zP K H1 k a xs/\R (W8 K k a) H1
theorem Hq {ta:TA}(hg:Gl X "enumerate") (hm:X.mg "enumerate" =none) (ha:PA X [a] ta) (hs:starEach [a] X.env=[(false,eval a X.env)]:=by rfl):PI X (.Tuple elts jt tpos) (.Call (.Name "enumerate" p) [a] [] pos) (Oj X.K ta):=by
 intro pins s σ H R I h
 refine Call_ (mK I hg hm boot_enumerate (PyProof.Rows.callWith_type1 (fK (ha pos pins s σ H _ I h) fun us s1 ⟨vs,H1,I1,r1,q1⟩=>?_) hs rfl))
 obtain⟨k,a,xs,rfl,hq,q⟩:=q1
 cases r1 with
 | cons r rr=>
  cases rr
  cases r
  obtain⟨its,rv,p,hz⟩:=I1.Hl hq
  refine Am p fun h' he hit hk=>wpAny_pyIter_enum he ?_
  have lt:=p.lt
  refine⟨s1.heap.objs.size+1,[s1.heap.objs.size+1,s1.heap.objs.size],_,_,H1,rfl,I1.kept (t':=s1.toks) hk,CN k a s1.heap.objs.size (s1.heap.objs.size+1) (Nat.ne_of_lt lt) (Nat.ne_of_gt (Nat.lt_succ_of_lt lt)) (Nat.succ_ne_self _),⟨⟨.none,he⟩,hit⟩,fun b hb=>?_,q⟩
  have hb:s1.heap.objs.size<=b:=by
   rcases List.mem_cons.mp hb with z | z
   ·rw[z];exact Nat.le_succ _
   ·rw[show b=s1.heap.objs.size by simpa using z];exact Nat.le_refl _
  exact I1.xO hb (I1.hok.fresh hb)
noncomputable def Ol (K:PySem.W.Frag) (ta:TA):TI:=fun σ H R=>ta σ H fun vs H1=>∃k0 k1 a0 a1 Qa Qc,vs=[.ref a0,.ref a1]/\zP K H1 k0 a0 Qa/\zP K H1 k1 a1 Qc/\R (Oi K k0 k1 a0 a1) H1
noncomputable def WalkN (J:It) (F:Hp) (ds:List D):Prop:=∀F' H',(∀b o,F b=some o->F' b=some o)->Sub F' H'->∀i,(∀d,ds[i]? =some d->J.go i H'/\∀x H2,J.MC i H' x H2->∃F2,iC F' H' F2 H2/\Sub F2 H2/\Rep F2 x d)/\(ds.length<=i->J.stop i H')
noncomputable def Om (K:PySem.W.Frag) (B:Base) (gi:GI):TI:=fun σ H R=>∃S F ds S',Rel K B S σ F H/\gi S=some (ds,S')/\∀J F' H',Rel K B S' σ F' H'->Step S S' σ F H F' H'->WalkN J F' ds->R J H'
structure Oo (X:Cx) (tg e:Expr) (gi:GI):Prop where
 h:∀B,PI X tg e (Om X.K B gi)
noncomputable def rT:D->Option (Bool×List D)
 | .lst ds=>some (true,ds)
 | .tup ds=>some (false,ds)
 | _=>none
theorem Sub.Eo {K:PySem.W.Frag}{F H:Hp}{v:V}{d:D}{k:Bool}{ds:List D}(sb:Sub F H) (r:Rep F v d) (e:rT d=some (k,ds)):
  ∃a vs,v= .ref a/\bB F vs ds/\∀F' H',(∀b o,F b=some o->F' b=some o)->Sub F' H'->zP K H' k a vs:=by
 cases d <;> try (cases e;done)
 ·cases e
  obtain⟨a,vs,rfl,fa,ha,rs⟩:=sb.jV r
  exact⟨a,vs,rfl,rs,fun F' H' le sb'=>.inl (Rd.of (sb' a _ (le _ _ fa)))⟩
 ·cases e
  obtain⟨a,vs,rfl,fa,ha,rs⟩:=sb.jW r
  exact⟨a,vs,rfl,rs,fun F' H' le sb'=>.inl (fa.same fun b o z=>sb' b o (le b o z))⟩
noncomputable def jv (ds:List D):List D:=ds.mapIdx fun i d=>.tup [.int i,d]
noncomputable def oK (gA:GA):GI:=fun S=>(gA S).bind fun p=>match p.1 with
 | [d]=>(rT d).map fun q=>(jv q.2,p.2)
 | _=>none
theorem wu {gA:GA}(hg:Gl X "enumerate") (hm:X.mg "enumerate" =none) (ha:JA X [a] gA) (hs:starEach [a] X.env=[(false,eval a X.env)]:=by rfl):Oo X (.Tuple elts jt tpos) (.Call (.Name "enumerate" p) [a] [] pos) (oK gA):=
 ⟨fun B=>PI.orelse fun σ H R0 ⟨S,F,ds,S',R,hg',k⟩=>by
 obtain⟨⟨args,S1⟩,h1,hg'⟩:=ah hg'
 refine⟨_,Hq hg hm (ha.h B) hs,S,F,args,S1,R,h1,fun vs F1 H1 R1 st1 r1=>?_⟩
 dsimp only at hg'
 split at hg'
 ·obtain⟨⟨kk,es⟩,h2,hg'⟩:=au hg'
  cases hg'
  cases r1 with
  | cons r rr=>
   cases rr
   obtain⟨a,ws,rfl,rs,sq⟩:=R1.sub.Eo (K:=X.K) r h2
   refine⟨kk,a,ws,rfl,sq F1 H1 (fun _ _ z=>z) R1.sub,k _ F1 H1 R1 st1 fun F' H' le sb i=>⟨fun d hd=>?_,fun hl=>⟨ws,sq F' H' le sb,by rw[rs.length];simpa[jv] using hl⟩⟩⟩
   unfold jv at hd
   rw[List.getElem?_mapIdx] at hd
   obtain⟨d0,hd0,rfl⟩:=au hd
   obtain⟨v,k1,k2⟩:=rs.get hd0
   refine⟨⟨ws,v,sq F' H' le sb,k1⟩,fun x H2 y=>?_⟩
   obtain⟨p,y,hp,rfl,rfl,hy⟩:=y
   have ey:=hy ws (sq F' H' le sb)
   rw[k1] at ey
   cases ey
   exact⟨_,iC.root sb hp _,sb.sV hp,.tup aV (.cons (.int _) (.cons (k2.le fun b o z=>mU (sb.fresh hp) b o (le b o z)) .nil))⟩
 ·cases hg'⟩
noncomputable def tG (gA:GA):GI:=fun S=>(gA S).bind fun p=>match p.1 with
 | [d,e]=>(rT d).bind fun q=>(rT e).map fun r=>(List.zipWith (fun a b=>.tup [a,b]) q.2 r.2,p.2)
 | _=>none
theorem wz {tg iter:Expr}{stmts:List Stmt}{s1:GS}{bd:GB}{gi:GI}(hp:PassesOwn (model X.prog X.w) X.A X.env X.xe) (hc:X.calm=true) (hi:Oo X tg iter gi) (hg:JG X tg bd) (hb:JB X stmts s1) (hs:∀x,foldedSetIterable iter X.env x=pure x:=by intro _;rfl):
  JS X (.For tg iter stmts [] pos) (jX bd gi s1):=⟨fun B=>(zS hp hc (hi.h B) (hg.h B) (hb.h B) hs).imp fun D σ H ⟨S,F,o,R,h,k⟩=>by
 obtain⟨⟨ds,S1⟩,h1,h⟩:=ah h
 refine⟨S,F,ds,S1,R,h1,fun J F1 H1 R1 st1 w=>?_⟩
 refine⟨fun i m σ' H'=>∃S' F',Rel X.K B S' σ' F' H'/\(∀b o,F1 b=some o->F' b=some o)/\i<=ds.length/\m=ds.length - i/\loop bd s1 (ds.drop i) S'=some o,⟨_,S1,F1,R1,fun _ _ z=>z,Nat.zero_le _,rfl,h⟩,?_⟩
 rintro i m σ' H' ⟨S',F',R',le,hl,rfl,cD⟩
 have w':=w F' H' le R'.sub i
 by_cases hlt:i < ds.length
 ·have hd:ds[i]? =some ds[i]:=List.getElem?_eq_getElem hlt
  obtain⟨go,yl⟩:=w'.1 _ hd
  rw[List.drop_eq_getElem_cons hlt] at cD
  obtain⟨S2,e2,cD⟩:=ah cD
  obtain⟨o2,e3,cD⟩:=ah cD
  refine .inr ⟨go,_,fun σ2 H2 n=>⟨ds.length - (i+1),by omega,n⟩,fun x H2 y=>?_⟩
  obtain⟨F2,nw,Su,rx⟩:=yl x H2 y
  have R2:=R'.new nw Su
  have le:∀b o,F1 b=some o->F2 b=some o:=fun b o z=>nw.le b o (le b o z)
  refine⟨S',F2,_,S2,R2,rx,e2,fun σ3 R3=>⟨S2,F2,o2,R3,e3,?_⟩⟩
  cases o2 with
  | nx S3=>exact fun xB F4 H4 R4 rS=>⟨S3,F4,R4,fun b o z=>rS b o (le b o z),hlt,rfl,cD⟩
  | ct S3=>exact fun xB F4 H4 R4 rS=>⟨S3,F4,R4,fun b o z=>rS b o (le b o z),hlt,rfl,cD⟩
  | bk S3=>cases cD;exact fun xB F4 H4 R4 rS=>k xB F4 H4 R4 fun b o z=>rS b o (le b o (st1.ext.le b o z))
  | rt u S3=>cases cD;exact fun v xB F4 H4 R4 rS=>k v xB F4 H4 R4 fun b o z=>rS b o (le b o (st1.ext.le b o z))
 ·have e:i=ds.length:=by omega
  subst e
  rw[List.drop_length] at cD
  cases cD
  exact .inl ⟨w'.2 (Nat.le_refl _),k σ' F' H' R' fun b o z=>le b o (st1.ext.le b o z)⟩⟩
end
section
variable {X:Cx}{a b c e:Expr}{x y:Str}{p px py pos pos' tpos:Pos}{f:List D->Option U}{gb:GD}
end
noncomputable def yC:GE:=fun S=>some (.m (.cS []),S)
noncomputable def tH:GE:=fun S=>some (.m (.dct []),S)
section
variable {X:Cx}{a b c e k:Expr}{x y:Str}{p px py pos pos' tpos apos cpos:Pos}{gk:GD}
theorem Bw:JE X (.Dict [] [] pos) yC:=⟨fun B=>DM.imp fun σ H Q ⟨S,F,u,S',R,hg,q⟩=>by
 cases hg
 intro p hp
 have n:=iC.obj (F:=F) hp (.dT [])
 have hn:¬cy S σ p:=fun m=>by obtain⟨o,ho⟩:=R.has m;rw[hp] at ho;cases ho
 exact q (.ref p) F _ (R.new n (R.sub.same n.same)) n.step ⟨p,rfl,hp,R.sub.fresh hp,⟨[],aV,.nil⟩,hn,none_of R.ext.there hp⟩⟩
theorem Bx:JE X (.Dict [] [] pos) tH:=⟨fun B=>DL.imp fun σ H Q ⟨S,F,u,S',R,hg,q⟩=>by
 cases hg
 intro p hp
 have n:=iC.obj (F:=F) hp (.dK [])
 have hn:¬cy S σ p:=fun m=>by obtain⟨o,ho⟩:=R.has m;rw[hp] at ho;cases ho
 exact q (.ref p) F _ (R.new n (R.sub.same n.same)) n.step ⟨p,rfl,hp,R.sub.fresh hp,⟨[],aV,.nil⟩,hn,none_of R.ext.there hp⟩⟩
noncomputable def CO:U->D->Option Bool
 | .m (.dct kvs),k=>(keyOf k).map fun kk=>(bx kvs kk).isSome
 | .b (.dct kvs),k=>(keyOf k).map fun kk=>(bx kvs kk).isSome
 | .m (.cS kvs),k=>(ju k).map fun kk=>(bx kvs kk).isSome
 | .b (.cS kvs),k=>(ju k).map fun kk=>(bx kvs kk).isSome
 | _,_=>none
noncomputable def lR (n:Bool) (i:Nat) (g:GD):GD:=fun S=>(g S).bind fun p=>match p.2[i]? with
 | some (some u)=>(CO u p.1).map fun h=>(.bl (n != h),p.2)
 | _=>none
theorem pY {κ:Type} [DecidableEq κ] {F:Hp}{ws:List (κ×V)}{kvs:List (κ×D)}(pr:Paired (jm F) ws kvs) (k:κ):(oz ws k).isSome=(bx kvs k).isSome:=by
 cases e:bx kvs k with
 | none=>rw[qx pr e];rfl
 | some d=>obtain⟨v,h,_⟩:=kX pr e;rw[h];rfl
theorem Hr {K:PySem.W.Frag}{F H:Hp}{v w:V}{u:U}{d:D}{h:Bool}(sb:Sub F H) (r:sS K F H v u) (rk:Rep F w d) (e:CO u d=some h):∃a o,v= .ref a/\jH H a w o/\o.isSome=h:=by
 unfold CO at e
 split at e
 ·obtain⟨kk,e1,rfl⟩:=au e
  obtain⟨a,rfl,fa,ws,ha,pr⟩:=r
  exact⟨a,_,rfl,jH.ky ha (iT rk e1),pY pr kk⟩
 ·obtain⟨kk,e1,rfl⟩:=au e
  obtain⟨a,rfl,fa,ws,ha,pr⟩:=r
  exact⟨a,_,rfl,jH.ky ha (iT rk e1),pY pr kk⟩
 ·obtain⟨kk,e1,rfl⟩:=au e
  obtain⟨a,rfl,fa,ws,ha,pr⟩:=r
  obtain⟨b,rfl,hb⟩:=j4 sb rk e1
  exact⟨a,_,rfl,jH.t ha hb,pY pr kk⟩
 ·obtain⟨kk,e1,rfl⟩:=au e
  obtain⟨a,rfl,fa,ws,ha,pr⟩:=r
  obtain⟨b,rfl,hb⟩:=j4 sb rk e1
  exact⟨a,_,rfl,jH.t ha hb,pY pr kk⟩
 ·cases e
theorem Hs {B:Base}{n:Bool}{i:Nat}{σ:St}{H:Hp}{Q:VK}(h:tD X.K B (lR n i gk) σ H Q):tD X.K B gk σ H fun y H1=>GF i σ H1 fun x H2=>∃a o,x= .ref a/\jH H2 a y o/\Q (.bl (n != o.isSome)) H2:=by
 obtain⟨S,F,d,S',R,hg,q⟩:=h
 obtain⟨⟨d1,S1⟩,h1,hg⟩:=ah hg
 dsimp only at hg
 split at hg
 ·rename_i u hS
  obtain⟨h,h2,hg⟩:=au hg
  cases hg
  refine⟨S,F,d1,_,R,h1,fun v F1 H1 R1 st1 r1=>?_⟩
  obtain⟨v0,hv0,r0⟩:=R1.rep i u hS
  obtain⟨a,o,e1,g1,e2⟩:=Hr R1.sub r0 r1 h2
  refine⟨v0,hv0,a,o,e1,g1,?_⟩
  rw[e2]
  exact q (.bl _) F1 H1 R1 st1 (.bl _)
 ·cases hg
end
noncomputable def Ln (tk tv:TE):TE:=fun σ H Q=>∀p,H p=none->tk σ (upd H p (.dT [])) fun x H1=>tv σ H1 fun y H2=>∃x' y',[(x,y)]=[(x',y')]/\H2 p=some (.dT [])/\∃(b:Addr) (ks:D),x'= .ref b/\Kd H2 b ks/\Q (.ref p) (upd H2 p (.dT [(ks,y')]))
noncomputable def tK (gk gv:GD):GE:=fun S=>(gk S).bind fun p=>(ju p.1).bind fun kk=>(gv p.2).map fun q=>(.m (.cS [(kk,q.1)]),q.2)
section
variable {X:Cx}{k v:Expr}{pos:Pos}{tk tv:TE}{gk gv:GD}
theorem Ep (hu:X.A.units+20 < cLine) (hk:PE X k tk) (hv:PE X v tv):PE X (.Dict [some k] [v] pos) (Ln tk tv):=by
 intro pins s σ H Q I q
 have hn:=I.hok.fresh (Nat.le_refl s.heap.objs.size)
 have I1:=I.laid (a:=s.heap.objs.size) (o:=.dT []) (h':=s.heap.push {cls:=.type "dict",data:=.dict #[]}) (t':=s.toks) (fun _ _ q=>Heap.get?_push_of_some _ q) (Nat.le_refl _) (xU s.heap I.big)
 have q0:=q _ hn
 refine wpAny_Dict_any rfl rfl (by simp) (by simp) (fK (xV hk hv (Be (pos:=pos)) pins _ σ _ (fun ps H2=>∃x y,ps=[(x,y)]/\H2 s.heap.objs.size=some (.dT [])/\∃(b:Addr) (ks:D),x= .ref b/\Kd H2 b ks/\Q (.ref s.heap.objs.size) (upd H2 s.heap.objs.size (.dT [(ks,y)]))) I1 q0) fun ws s2 ⟨ps,H2,I2,rel,x,y,ep,e,b,ks,ex,eb,q2⟩=>?_)
 subst ep ex
 cases rel with
 | @cons p w0 ps ws r rr=>
  cases rr
  obtain⟨u,w2⟩:=w0
  obtain⟨r1,r2⟩:=r
  cases(show u=Value.ref b from r1)
  obtain⟨z,hd,xs,rel,dd⟩:=DK I2.hok e
  have kt:=KT.put rel ks eb r2
  cases rel
  unfold storeAll
  rw[List.forIn_cons]
  refine wpAny_bind (wpAny_bind (wpAny_dictSet_heap (hsz:=Nat.zero_le _) (show X.A.units+8 < cLine by omega) (qp I2.hok eb) dd fun h' GX hs=>wpAny_pure ?_))
  dsimp only
  rw[List.forIn_nil]
  refine wpAny_pure ⟨.ref s.heap.objs.size,_,?_,rfl,q2⟩
  obtain⟨q,es,ep,hq,h2,h3,h4,_,h5⟩:=GX
  refine sr I2 (by rw[e];exact True.intro) hs ⟨q,hq⟩ ⟨by rw[sizeLine_eq];show 1<=_;omega,hd,_,kt.keeps fun c ys ec=>?_,q,es,ep,hq,h2,h3,h4,h5⟩
  rw[aE (Jg ec e (fun z=>nomatch z))]
  exact ec
theorem yD (hu:X.A.units+20 < cLine) (hk:JD X k gk) (hv:JD X v gv):JE X (.Dict [some k] [v] pos) (tK gk gv):=⟨fun B=>(Ep hu (hk.h B) (hv.h B)).imp fun σ H Q ⟨S,F,u,S',R,hg,q⟩=>by
 obtain⟨⟨d1,S1⟩,h1,hg⟩:=ah hg
 obtain⟨ks,hk1,hg⟩:=ah hg
 obtain⟨⟨d2,S2⟩,h2,hg⟩:=au hg
 cases hg
 intro p hp
 have n:=iC.obj (F:=F) hp (.dT [])
 have hn:¬cy S σ p:=fun m=>by obtain⟨o,ho⟩:=R.has m;rw[hp] at ho;cases ho
 refine⟨S,F,d1,S1,R.new n (R.sub.same n.same),h1,fun v1 F1 H1 R1 W9 r1=>⟨S1,F1,d2,S2,R1,h2,fun v2 F2 H2 R2 st2 r2=>?_⟩⟩
 have st1:=W9.trans st2
 have hp1:H2 p=some (.dT []):=st1.ext.keep p _ aV hn
 have hf1:F2 p=none:=st1.ext.ig p _ aV hn (R.sub.fresh hp)
 have hn1:¬cy S2 σ p:=fun m=>hn (st1.mu p m)
 have hB:B.H p=none:=none_of R.ext.there hp
 obtain⟨b,rfl,hb⟩:=j4 R2.sub (r1.le st2.ext.le) hk1
 refine⟨_,_,rfl,hp1,b,ks,rfl,hb,?_⟩
 have R3:=R2.Oe (o':=.dT [(ks,v2)]) hn1 hf1 hB hp1 (fun _ _ z=>by cases z)
 refine q (.ref p) F2 _ R3 ⟨⟨st1.ext.le,fun b o z m=>?_,fun b o z m f=>?_,fun b o z=>?_,fun b ob w z=>?_⟩,st1.mu,st1.slots⟩ ⟨p,rfl,hp,hf1,⟨_,aV,.cons ⟨rfl,r2⟩ .nil⟩,hn1,hB⟩
 ·have hb:b≠p:=bu z hp
  rw[aE hb]
  exact st1.ext.keep b o (by rw[aE hb];exact z) m
 ·have hb:b≠p:=bu z hp
  exact st1.ext.ig b o (by rw[aE hb];exact z) m f
 ·have hb:b≠p:=bu z hp
  rw[aE hb]
  exact st1.ext.there b o (by rw[aE hb];exact z)
 ·have hb:b≠p:=bu z hp
  rw[aE hb]
  exact st1.ext.jA b ob w (by rw[aE hb];exact z)⟩
theorem jO {i:Nat}{x:Str}{px:Pos}(hu:X.A.units+20 < cLine) (hk:JD X k gk) (hN:X.N[i]? =some x:=by rfl) (hv:Dl X.env.scope x:=by first | exact Or.inl rfl | exact Or.inr (Or.inl rfl) | exact Or.inr (Or.inr rfl)) (hd:(x == ("__debug__":Str))=false:=by decide) (hcd:(x == ("__classdict__":Str))=false:=by decide)
  (hm:behindInMarks .NotIn (.Name x px)=false:=by with_unfolding_all rfl):JT X (.Compare k [.NotIn] [.Name x px] pos) (qB (lR true i gk)):=⟨fun B=>(Km (Cw hu (hk.h B) (iQ hN hv hd hcd)) hm).imp fun σ H Q ⟨S,F,kk,S',R,hg,q⟩=>by
 have h:tD X.K B (lR true i gk) σ H (fun v H'=>∃d,v= .bl d/\Q d H'):=⟨S,F,.bl kk,S',R,nO hg,fun v F' H' R' st r=>⟨kk,oZ r,q F' H' R' st⟩⟩
 have h2:=Hs h
 simpa[tB,Bb] using h2⟩
end
section
variable {X:Cx}{pins:List (Addr×Obj)}{σ:St}{H:Hp}{s:Shared}{a:Addr}{kvs:List (Str×Int)}
end
section
variable {X:Cx}{e f:Expr}{x:Str}{px pos apos cpos:Pos}{ty tx:TE}{g gd:GD}{a:Addr}{kvs:List (Str×Int)}
end
section
variable {X:Cx}{e:Expr}{x:Str}{px pos:Pos}{g:GD}{a:Addr}{zs:List Str}
end
noncomputable def CP:U->D->Option (Option D)
 | .m (.dct kvs),k=>(keyOf k).map (bx kvs)
 | .b (.dct kvs),k=>(keyOf k).map (bx kvs)
 | .m (.cS kvs),k=>(ju k).map (bx kvs)
 | .b (.cS kvs),k=>(ju k).map (bx kvs)
 | _,_=>none
noncomputable def yE:U->Bool
 | .m (.dct _)=>true
 | .b (.dct _)=>true
 | .m (.cS _)=>true
 | .b (.cS _)=>true
 | _=>false
noncomputable def By (i:Nat) (gk gd:GD):GD:=fun S=>match S[i]? with
 | some (some u)=>if yE u then(gk S).bind fun p=>(gd p.2).bind fun q=>match q.2[i]? with
  | some (some u2)=>(CP u2 p.1).map fun o=>(o.getD q.1,q.2)
  | _=>none
  else none
 | _=>none
noncomputable def Oq (F:Hp):Option V->Option D->Prop
 | some v,some d=>Rep F v d
 | none,none=>True
 | _,_=>False
theorem pZ {κ:Type} [DecidableEq κ] {F:Hp}{ws:List (κ×V)}{kvs:List (κ×D)}(pr:Paired (jm F) ws kvs) (k:κ):Oq F (oz ws k) (bx kvs k):=by
 cases e:bx kvs k with
 | none=>rw[qx pr e];exact True.intro
 | some d=>obtain⟨v,h,r⟩:=kX pr e;rw[h];exact r
theorem Ht {K:PySem.W.Frag}{F H:Hp}{v w:V}{u:U}{d:D}{h:Option D}(sb:Sub F H) (r:sS K F H v u) (rk:Rep F w d) (e:CP u d=some h):∃a o,v= .ref a/\jH H a w o/\Oq F o h:=by
 unfold CP at e
 split at e
 ·obtain⟨kk,e1,rfl⟩:=au e
  obtain⟨a,rfl,fa,ws,ha,pr⟩:=r
  exact⟨a,_,rfl,jH.ky ha (iT rk e1),pZ pr kk⟩
 ·obtain⟨kk,e1,rfl⟩:=au e
  obtain⟨a,rfl,fa,ws,ha,pr⟩:=r
  exact⟨a,_,rfl,jH.ky ha (iT rk e1),pZ pr kk⟩
 ·obtain⟨kk,e1,rfl⟩:=au e
  obtain⟨a,rfl,fa,ws,ha,pr⟩:=r
  obtain⟨b,rfl,hb⟩:=j4 sb rk e1
  exact⟨a,_,rfl,jH.t ha hb,pZ pr kk⟩
 ·obtain⟨kk,e1,rfl⟩:=au e
  obtain⟨a,rfl,fa,ws,ha,pr⟩:=r
  obtain⟨b,rfl,hb⟩:=j4 sb rk e1
  exact⟨a,_,rfl,jH.t ha hb,pZ pr kk⟩
 ·cases e
theorem Es {K:PySem.W.Frag}{F H:Hp}{v:V}{u:U}(r:sS K F H v u) (h:yE u=true):∃a,v= .ref a/\Ry H a:=by
 unfold yE at h
 split at h
 ·obtain⟨a,rfl,fa,ws,ha,pr⟩:=r;exact⟨a,rfl,.inl ⟨ws,.inl ha⟩⟩
 ·obtain⟨a,rfl,fa,ws,ha,pr⟩:=r;exact⟨a,rfl,.inl ⟨ws,.inl ha⟩⟩
 ·obtain⟨a,rfl,fa,ws,ha,pr⟩:=r;exact⟨a,rfl,.inr ⟨ws,.inl ha⟩⟩
 ·obtain⟨a,rfl,fa,ws,ha,pr⟩:=r;exact⟨a,rfl,.inr ⟨ws,.inl ha⟩⟩
 ·cases h
section
variable {X:Cx}{e f:Expr}{x:Str}{px pos apos cpos:Pos}{gk gd:GD}{ge:GE}
theorem Hu {i : Nat} (hu : X.A.units + 20 < cLine) (he : JD X e gk) (hf : JD X f gd) (hN : X.N[i]? = some x := by rfl) (hv : Dl X.env.scope x := by first | exact Or.inl rfl | exact Or.inr (Or.inl rfl) | exact Or.inr (Or.inr rfl))
    (hb:attributeBase (.Name x px) "get" X.env (eval (.Name x px) X.env)=eval (.Name x px) X.env:=by rfl)
    (hfew:((backTo cpos (starEach [e,f] X.env)).all (fun x=>!x.1) && (backToKw cpos (keywordEach [] X.env)).all (fun x=>x.1.isSome) && decide (([e,f]:List Expr).length+([]:List Keyword).length+(if([]:List Keyword).isEmpty then 0 else 1) < 30))=true:=by rfl)
    (hline:(apos.endLine == cpos.line)=true:=by rfl) (htr:backTo cpos (starEach [e,f] X.env)=[(false,eval e X.env),(false,eval f X.env)]:=by rfl) (hd:(x == ("__debug__":Str))=false:=by decide) (hcd:(x == ("__classdict__":Str))=false:=by decide):
    JD X (.Call (.Attribute (.Name x px) "get" apos) [e,f] [] cpos) (By i gk gd):=
  ⟨fun B => (DN hu (iQ hN hv hd hcd) (he.h B) (hf.h B) ⟨hb, hfew, hline, htr⟩).imp fun σ H Q ⟨S, F, d, S', R, hg, q⟩ => by
    unfold By at hg
    split at hg
    . rename_i u hS
      split at hg
      . rename_i hD
        obtain⟨⟨d1,S1⟩,h1,hg⟩:=ah hg
        obtain⟨⟨d2,S2⟩,h2,hg⟩:=ah hg
        dsimp only at hg
        split at hg
        . rename_i u2 Ot
          obtain⟨o,h3,hg⟩:=au hg
          cases hg
          obtain⟨v0,hv0,r0⟩:=R.rep i u hS
          obtain⟨a,rfl,ha⟩:=Es r0 hD
          refine⟨.ref a,hv0,a,rfl,ha,S,F,d1,S1,R,h1,fun v1 F1 H1 R1 st1 r1=>⟨S1,F1,d2,_,R1,h2,fun v2 F2 H2 R2 st2 r2=>?_⟩⟩
          obtain⟨v3,Xa,r3⟩:=R2.rep i u2 Ot
          rw[hv0] at Xa
          cases Xa
          obtain⟨a',ov,e1,g1,rl⟩:=Ht R2.sub r3 (r1.le st2.ext.le) h3
          cases e1
          refine⟨ov,g1,q _ F2 H2 R2 (st1.trans st2) ?_⟩
          cases o with
          | none=>cases ov with
            | none=>exact r2
            | some _=>exact(show False from rl).elim
          | some d=>cases ov with
            | none=>exact(show False from rl).elim
            | some v=>exact rl
        . cases hg
      . cases hg
    . cases hg⟩
end
end L2
end
section
namespace HT
open PySem PySem.Spec PyProof.Rows
section
variable {prog:Program}{w:World}{A:Around}{E:Value->Shared->Prop}{s:Shared}
end
end HT
namespace L2
open PySem PySem.Spec PyProof.Rows
section
variable {X:Cx}{e st:Expr}{te ts:TE}{pos p2:Pos}
end
noncomputable def p5:List Int->Int
 | []=>0
 | [a]=>a
 | a :: b :: r=>max a (p5 (b :: r))
theorem BA : ∀ {ns : List Int} {M : Int}, M ∈ ns -> (∀ a ∈ ns, a <= M) -> p5 ns = M
  | [],_,h,_=>by cases h
  | [a],M,h,_=>by rw[List.mem_singleton.mp h];rfl
  | a :: b :: r, M, h, k => by
    have hb : ∀ x ∈ b :: r, x <= p5 (b :: r) := by
      have:∀(l:List Int),∀x∈l,x<=p5 l:=by
        intro l
        induction l with
        | nil=>intro x hx;cases hx
        | cons a l ih=>
          intro x hx
          cases l with
          | nil=>rw[List.mem_singleton.mp hx];exact Int.le_refl _
          | cons b r=>
            show x<=max a (p5 (b :: r))
            rcases List.mem_cons.mp hx with rfl | q
            . omega
            . have:=ih x q;omega
      exact this _
    have hm:∀(l:List Int),l≠[]->p5 l∈l:=by
      intro l
      induction l with
      | nil=>intro z;exact absurd rfl z
      | cons a l ih=>
        intro _
        cases l with
        | nil=>exact List.mem_singleton.mpr rfl
        | cons b r=>
          have:=ih (by simp)
          show max a (p5 (b :: r))∈_
          by_cases c:a<=p5 (b :: r)
          . rw[Int.max_eq_right c];exact List.mem_cons_of_mem _ this
          . rw[Int.max_eq_left (by omega)];exact List.mem_cons_self
    have h1:=hm (a :: b :: r) (by simp)
    have h2:=k _ h1
    show max a (p5 (b :: r))=M
    have h3:max a (p5 (b :: r))<=M:=h2
    rcases List.mem_cons.mp h with rfl | q
    . omega
    . have:=hb M q;omega
noncomputable def kD:List D->Option U
 | [.lst ds]=>(bR ds).bind fun bs=>if bs=[] then none else some (.t (.int (p5 bs)))
 | _=>none
theorem Et {α:Type}{p:Prop} [Decidable p] {x y:α}(h:(if p then none else some x)=some y):¬p/\x=y:=by
 by_cases c:p
 ·rw[if_pos c] at h;cases h
 ·rw[if_neg c] at h;exact⟨c,Option.some.inj h⟩
section
variable {X:Cx}
theorem pq (hc:X.calm=true):jk X (.builtin "max") (rP kD):=by
 intro pins s σ H xs us Q I r ⟨F,ds,w,sb,rs,hw,q⟩
 obtain⟨x,d,rfl,rfl,r1⟩:=pW (P:=fun _=>True) rs hw rfl (fun d _ _=>by cases d <;> rfl)
 cases d <;> try (simp[kD] at hw;done)
 rename_i ds
 obtain⟨bs,h1,hw⟩:=ah (show(bR ds).bind _=some w from hw)
 obtain⟨hne,rfl⟩:=Et hw
 obtain⟨a,vs,rfl,fa,ha,oA⟩:=sb.jW r1
 obtain rfl:=pg oA h1
 obtain⟨u,rfl,ru⟩:=vals1 r
 cases ru
 obtain⟨its,rv,pl,hz⟩:=I.list (.inl ha)
 have hi:IntsAre its.toArray.toList bs:=intsAre_of rv
 obtain⟨ys,e⟩:=hi.allInts.items
 have hns:bs=ys.toList.map (·.1):=by rw[<-hi.numsOf,<-nums_intItems,<-e]
 have hb:0 < bs.length:=by cases bs with | nil=>exact absurd rfl hne | cons _ _=>simp
 have hsz:0 < ys.size:=by
  have h3:=hb;rw[hns,List.length_map,Array.length_toList] at h3;exact h3
 have hl:=pl.isList
 have e':its.toArray=intItems ys:=by rw[<-e]
 rw[e'] at hl
 refine max_intList (I.ok.hd hc) hl hsz fun v h' tk hv hk=>?_
 obtain⟨t,rfl⟩:=intItems_at hv
 obtain⟨k1,k2⟩:=argBest_gt (numAt ys) (ys.size - 1)
 have em:p5 bs=numAt ys (argBest (fun i j=>decide (numAt ys i > numAt ys j)) (ys.size - 1)):=by
  refine BA ?_ fun a ha=>?_
  ·rw[hns,numAt_eq];exact getD_mem (by rw[List.length_map,Array.length_toList];omega)
  ·rw[hns] at ha
   obtain⟨j,hj,rfl⟩:=mem_getD ha
   rw[List.length_map,Array.length_toList] at hj
   rw[<-numAt_eq];exact k2 j (by omega)
 rw[<-em]
 exact⟨.int _,H,I.kept (t':=tk) hk,⟨t,rfl⟩,q _ F H (iC.refl ..) sb (.int _)⟩
end
@[simp] theorem Qd (ds:List D):kD [.lst ds]=(bR ds).bind fun bs=>if bs=[] then none else some (.t (.int (p5 bs))):=rfl
end L2
namespace HT
open PySem PySem.Spec PyProof.Rows
section
variable {prog:Program}{w:World}{A:Around}{E:Value->Shared->Prop}{s:Shared}
end
end HT
namespace L2
open PySem PySem.Spec PyProof.Rows
section
variable {X:Cx}{pos:Pos}
end
end L2
end
section
namespace L2
open PySem PySem.Spec PyProof.Rows PySem.Calls
section
variable {prog:Program}{w:World}{A:Around}{E:Value->Shared->Prop}{s:Shared}{a I:Addr}{ep:Nat}{t:SetTable}
end
section
variable {X:Cx}{a:Expr}{pos p p1 p2:Pos}{ga:GD}
end
end L2
end
section
namespace L2
open PySem PySem.Spec PyProof.Rows
section
variable {X:Cx}{x:Str}{p:Pos}{a:Addr}
end
section
variable {X:Cx}{e:Expr}{es:List Expr}{gu:GU}{x:Str}{p pos:Pos}{k n i:Nat}{t:TA}
end
structure m6 (X:Cx) (x y0:Str) (bJ:List Str) (cap:List Nat) (scope:Scope) (cl:List (Str×Addr)):Prop where
 one:iF X x bJ cap scope cl
 Ou:scope.names.lookup y0=some .local
 JH:(x :: y0 :: bJ).Nodup
noncomputable def Hv (K:PySem.W.Frag) (wi:TI) (cap:List Nat) (tc:TT) (te:TE):TE:=fun σ H Q=>wi σ H fun J H1=>∃W:Nat->Nat->List V->Hp->Prop,(∃m,W 0 m [] H1)/\∀i m ys H,W i m ys H->ys.length < sizeLine/\
  ((J.stop i H/\∀p,H p=none->Q (.ref p) (upd H p (.lst ys)))\/
   (J.go i H/\∀x H',J.MC i H x H'->∃a x1 x2,x= .ref a/\vU K H' a [x1,x2]/\tc (some x1 :: some x2 :: bS cap σ) H' fun b H2=>if b=true then te (some x1 :: some x2 :: bS cap σ) H2 fun y H3=>∃m',m' < m/\W (i+1) m' (ys++[y]) H3 else ∃m',m' < m/\W (i+1) m' ys H2))
theorem CQ {X : Cx} {pins : List (Addr × Obj)} {σ : St} {H : Hp} {s s4 : Shared} {x y0 : Str} {bJ : List Str} {cap : List Nat} {scope : Scope} {cl : List (Str × Addr)} {C : Addr} {fp : List Addr} {m' : Str -> Option Value}
    (I:Inv X pins σ H s) (T2:m6 X x y0 bJ cap scope cl) (hfp:∀b∈fp,mz X pins H b) (hfo:∀b∈fp,∃o,s.heap.get? b=some o)
    (hC:s.heap.objs.size<=C) (hns:s4.heap.Ns C m') (hos:s4.os=s.os) (hg:s4.gens=s.gens)
    (kept:∀b o,s.heap.get? b=some o->s4.heap.get? b=some o):
    Inv (cJ X (x :: y0 :: bJ) scope cl C s H fp) [] (none :: none :: bS cap σ) H s4:=by
  have T:=T2.one
  have fr:∀b,s.heap.objs.size<=b->H b=none:=fun b hb=>I.hok.fresh hb
  refine⟨⟨I.ok.mod,T.kind,I.ok.glob,I.ok.blt,hC,fun y z c h1 h2=>I.ok.inj y z c (T.cells _ _ h1) (T.cells _ _ h2),fun y hy=>T.has y hy,fun y c h=>(by cases h),I.ok.hd,I.ok.frames,.inl rfl,fun b hb=>⟨?_,fun y c e z=>?_⟩,I.bs,Nat.le_trans I.ok.Gp I.sz,fun b o e hb=>?_,fun b hb z=>?_,I.stack,I.vR⟩,
    hos,by rw[hg];exact I.bare,Un.kept kept,⟨m',hns,fun i y v h1 h2 h3=>?_⟩,fun y c h=>?_,fr C hC,fun y c h=>I.mJ y c (T.cells _ _ h),fun p hp=>?_,I.hok.kept kept,?_⟩
  . obtain⟨o,e⟩:=hfo b hb
    exact Nat.ne_of_lt (Nat.lt_of_lt_of_le (Heap.lt_size e) hC)
  . exact(hfp b hb).2.2.2.2.1 y c (T.cells _ _ e) z
  . rcases(hfp b hb).2.2.2.1 with z | z
    . exact I.ok.Co b o e z
    . exact absurd (Nat.lt_of_lt_of_le (Heap.lt_size e) (Nat.le_trans I.ok.Gp z)) (Nat.lt_irrefl _)
  . rcases List.mem_cons.mp (I.qk b z) with q | q
    . exact(hfp b hb).2.1 q
    . exact(hfp b hb).2.2.1 q
  . match i,h1,h2 with
    | 0,h1,h2=>cases h2
    | 1,h1,h2=>cases h2
    | j + 2, h1, h2 =>
      have h1:bJ[j]? =some y:=by simpa[cJ] using h1
      have h2:(bS cap σ)[j]? =some (some v):=by simpa using h2
      obtain⟨i,e1,e2,e3⟩:=T.slot j y h1
      have e4:σ[i]? =some (some v):=by
        unfold bS at h2
        rw[List.getElem?_map,e1] at h2
        have h2:some ((σ[i]?).join)=some (some v):=h2
        have h2:=Option.some.inj h2
        cases q:σ[i]? with
        | none=>rw[q] at h2;cases h2
        | some o=>rw[q] at h2;cases h2;rfl
      obtain⟨m,hn,hl⟩:=I.loc
      obtain⟨u,r,l⟩:=hl i y v e2 e4 e3
      obtain⟨k1,⟨c,hc⟩,k3⟩:=T.vis y (List.mem_of_getElem? h1)
      refine⟨u,r,.inr ⟨k1,c,hc,?_⟩⟩
      rcases l with⟨hk,_⟩ | ⟨hk,c',hc',z⟩
      . exact absurd hk k3
      . rw[T.cells _ _ hc] at hc'
        cases hc'
        obtain⟨o,ho,hd⟩:=z
        exact⟨o,kept _ _ ho,hd⟩
  . obtain⟨v,o,ho,hd⟩:=I.cell y c (T.cells _ _ h)
    exact⟨v,o,kept _ _ ho,hd⟩
  . exact absurd (show p∈([]:List (Addr×Obj)) from hp) (by simp)
  . show(none :: none :: bS cap σ).length=(x :: y0 :: bJ).length
    simp[bS,T.len]
noncomputable def qA (P:Program) (w:World) (A:Around) (env:Env) (R:Result->Shared->Prop):Value->Shared->Prop:=notedBy (model P w) A env fun e s'=>R (.error e) s'
theorem wA {P:Program}{w:World}{A:Around}{R:Result->Shared->Prop}{s:Shared}{elt tg iter:Expr}{ifs:List Expr}{scope:Scope}{pos:Pos}{it acc:Value}{env:Env}(J:Nat->Shared->Prop)
    (turn : ∀ n s, J n s -> wpAny (model P w) A (pyNext it) (fun r s1 => match r with
      | none=>R (.ok .next) s1
      | some v=>wpAny (model P w) A (letOwnedTupleGo tg it v) (fun _ s1=>wpAny (model P w) A (assign tg env v) (fun _ s2=>
          wpAny (model P w) A (forIn ifs true fun c r=>if r=true then do let ok <-isTrue c env (eval c env);pure (ForInStep.yield ok) else pure (ForInStep.yield r)) (fun ok s3=>
            if ok=true then wpAny (model P w) A (eval elt env) (fun x s4=>wpAny (model P w) A (call (.builtin "list.append") [acc,x]) (fun _ s5=>∃m,m < n/\J m s5) (qA P w A env R) s4) (qA P w A env R) s3
            else ∃m,m < n/\J m s3) (qA P w A env R) s2) (qA P w A env R) s1) (qA P w A env R) s1) (qA P w A env R) s)
    (n:Nat) (h:J n s):codeAny (model P w) A (.compLoop (.ListComp elt [⟨tg,iter,ifs,0⟩] scope pos) 0 it acc env) R s:=by
  refine codeAny_loop rfl J (fun n s hJ=>?_) n h
  show wpAny _ A ((compTurn (.ListComp elt [⟨tg,iter,ifs,0⟩] scope pos) 0 it acc env).onRaise (fun x=>do noteFrame x env;theTreesLotGoes x)) _ _ s
  refine wpAny_noted ?_
  rw[compTurn_list]
  refine wpAny_bind (wpAny_standAt (wpAny_bind (wpAny_mono (turn n s hJ) (fun r s1 k1=>?_) fun _ _ z=>z)))
  cases r with
  | none=>exact wpAny_pure k1
  | some v=>
    refine wpAny_bind (wpAny_mono k1 (fun _ s1 k1=>?_) fun _ _ z=>z)
    refine wpAny_bind (wpAny_mono k1 (fun _ s2 k2=>wpAny_bind (wpAny_mono k2 (fun ok s3 k3=>?_) fun _ _ z=>z)) fun _ _ z=>z)
    cases ok with
    | false=>exact wpAny_pure ⟨rfl,k3⟩
    | true=>exact wpAny_bind (wpAny_bind (wpAny_mono k3 (fun x s4 k4=>wpAny_bind (wpAny_mono k4 (fun _ s5 k5=>wpAny_pure (wpAny_pure ⟨rfl,k5⟩)) fun _ _ z=>z)) fun _ _ z=>z))
theorem yF {X:Cx}{elt iter:Expr}{ifs:List Expr}{x y0:Str}{px py pt pos:Pos}{k0:Nat}{scope:Scope}{cl:List (Str×Addr)}{bJ:List Str}{cap:List Nat}{wi:TI}{tc:TT}{te:TE}{pins:List (Addr×Obj)}{s:Shared}{σ:St}{H:Hp}{Q:VK}{use:Option (Value->Sem Unit)}{Qf:Value->Shared->Prop}{pos2:Pos}
    (T2:m6 X x y0 bJ cap scope cl) (hc:X.calm=true) (hi:PI X (.Tuple [.Name x px,.Name y0 py] k0 pt) iter wi)
    (ht:∀C s H fp,G6 (cJ X (x :: y0 :: bJ) scope cl C s H fp) ifs tc) (he:∀C s H fp,PE (cJ X (x :: y0 :: bJ) scope cl C s H fp) elt te)
    (hs:∀x,foldedSetIterable iter X.env x=pure x) (I:Inv X pins σ H s) (h:Hv X.K wi cap tc te σ H Q)
    (hend:∀(D C:Addr) (s7:Shared) (H6:Hp) (ys:List V),Inv X pins σ (upd H6 D (.lst ys)) s7->(∃m,s7.heap.Ns C m)->mz X pins (upd H6 D (.lst ys)) C->Q (.ref D) (upd H6 D (.lst ys))->compPost (model X.prog X.w) X.A X.xe use Qf (.ref D) C (.ok .next) s7):
    wpAny (model X.prog X.w) X.A (comprehension (.ListComp elt [⟨.Tuple [.Name x px,.Name y0 py] k0 pt,iter,ifs,0⟩] scope pos) scope X.env pos2 (newList []) false (eval iter X.env) use) Qf X.xe s:=by
  have T:=T2.one
  refine wpAny_comprehension_free (use:=use) rfl hs T.clos T.kind T.names (fK (hi pins s σ H _ I h) fun v s1 h1=>fK h1 fun itv s2 h2=>?_)
  obtain⟨it,fp,tn,J,H2,rfl,I2,uw,st2,f2,W,⟨m0,w0⟩,turn⟩:=h2
  refine wpAny_newObj_type (wpAny_newFunctionEnv T.mS (by intro y hy;simp at hy) (fun h4 v5 sR=>?_) T.kind)
  dsimp only at v5 sR ⊢
  generalize K1:s2.heap.push {cls:=.type "list",dict:=none,data:=.seq ([]:List Value).toArray}=H3 at v5 sR ⊢
  have eC:H3.objs.size=s2.heap.objs.size+1:=by rw[<-K1,Heap.size_push]
  generalize Yu:H3.objs.size=C at eC v5 sR ⊢
  generalize eD:s2.heap.objs.size=D at eC ⊢
  have DX:C=D+1:=eC
  have hDC:D≠C:=by rw[DX];exact Nat.ne_of_lt (Nat.lt_succ_self D)
  have hC:s2.heap.objs.size<=C:=by rw[eD,DX];exact Nat.le_succ D
  have hD:s2.heap.objs.size<=D:=by rw[eD];exact Nat.le_refl D
  have kept:∀b o,s2.heap.get? b=some o->h4.get? b=some o:=fun b o e=>sR.extBut b o (Nat.ne_of_lt (Nat.lt_of_lt_of_le (Heap.lt_size e) hC)) (Heap.get?_push_of_some _ (K1▸Heap.get?_push_of_some _ e))
  have hacc:h4.get? D=some {cls:=.type "list",data:=.seq ([]:List Value).toArray ([]:List Value).length}:=sR.extBut _ _ hDC (Heap.get?_push_of_some _ (K1▸eD▸Heap.get?_push_size _ rfl))
  have NO:∀b∈fp,∃o,s2.heap.get? b=some o:=fun b hb=>let⟨o,e,_⟩:=uw.obj _ _ st2 b hb;⟨o,e⟩
  have hDf:D∉fp:=fun hb=>by
    obtain⟨o,e⟩:=NO D hb
    exact absurd (Nat.lt_of_lt_of_le (Heap.lt_size e) hD) (Nat.lt_irrefl _)
  have MF:tn 0 h4:=uw.keep _ _ _ st2 fun b _ o e=>kept b o e
  have key : ∀ s5 : Shared, s5 = { s2 with heap := h4, toks := s2.toks + ([] : List (Str × Value)).length } ->
      codeAny (model X.prog X.w) X.A (.compLoop (.ListComp elt [⟨.Tuple [.Name x px,.Name y0 py] k0 pt,iter,ifs,0⟩] scope pos) 0 (.ref it) (.ref D) (compEnvC scope cl C X.env)) (compPost (model X.prog X.w) X.A X.xe use Qf (.ref D) C) s5:=by
    rintro s5 rfl
    have I4:Inv (cJ X (x :: y0 :: bJ) scope cl C s2 H2 fp) [] (none :: none :: bS cap σ) H2 {s2 with heap:=h4,toks:=s2.toks+([]:List (Str×Value)).length}:=
      CQ (s4:={s2 with heap:=h4,toks:=s2.toks+([]:List (Str×Value)).length}) I2 T2 f2 NO hC v5 rfl rfl kept
    generalize hY:cJ X (x :: y0 :: bJ) scope cl C s2 H2 fp=Y at I4
    have fD:∀{H':Hp},H' D=none->mz Y [] H' D:=fun {H'} hn=>by
      subst hY
      refine⟨hn,hDC,fun z=>(List.mem_cons.mp (I2.qk D z)).elim (fun q=>absurd (Nat.lt_of_lt_of_le (q▸I2.lt) hD) (Nat.lt_irrefl _)) fun q=>I2.Ke hD q,.inr hD,fun y c e z=>?_,fun p hp=>absurd (show p∈([]:List (Addr×Obj)) from hp) (by simp)⟩
      obtain⟨v,q⟩:=I2.cell y c (T.cells _ _ e)
      exact absurd (Nat.lt_of_lt_of_le q.lt (by rw[z];exact hD)) (Nat.lt_irrefl _)
    have fF:∀{H':Hp},(∀b∈fp,H' b=none)->∀b∈fp,mz Y [] H' b:=fun {H'} hn b hb=>by
      have q:=I4.ok.PU b (by subst hY;exact hb)
      exact⟨hn b hb,fun z=>q.1 z,I4.ok.Cp b (by subst hY;exact hb),.inl (by subst hY;exact hb),fun y c e z=>q.2 y c e z,fun p hp=>absurd (show p∈([]:List (Addr×Obj)) from(by subst hY;exact hp)) (by simp)⟩
    have eA:Y.A=X.A:=by subst hY;rfl
    have eP:Y.prog=X.prog:=by subst hY;rfl
    have eW:Y.w=X.w:=by subst hY;rfl
    have eK:Y.K=X.K:=by subst hY;rfl
    have eE:Y.env=compEnvC scope cl C X.env:=by subst hY;rfl
    have eX:Y.xe=fun _ _=>False:=by subst hY;rfl
    have eN:Y.N=x :: y0 :: bJ:=by subst hY;rfl
    have Ju:Y.calm=true:=by subst hY;exact hc
    have RH:G6 Y ifs tc:=by subst hY;exact ht _ _ _ _
    have RI:PE Y elt te:=by subst hY;exact he _ _ _ _
    have RJ:PG Y (.Tuple [.Name x px,.Name y0 py] k0 pt) (Ng Y.K 2 (Dy (qV 0) (Dy (qV 1) Nf))):=Dz Ju (sN (sf (by rw[eN];exact T2.JH) (by rw[eN];rfl) (by rw[eE];exact .inl (lookup_relabel_local T.loc)) (.inr (by rw[eE];exact lookup_relabel_local T.loc))) (sN (sf (by rw[eN];exact T2.JH) (by rw[eN];rfl) (by rw[eE];exact .inl (lookup_relabel_local T2.Ou)) (.inr (by rw[eE];exact lookup_relabel_local T2.Ou))) A8))
    have oY:∀(E':Value->Shared->Prop) (e:Value) (s':Shared),Y.xe e s'->E' e s':=fun E' e s' z=>by rw[eX] at z;exact z.elim
    refine wA (fun n s'=>∃i ys us H' o o',Inv Y [] (o :: o' :: bS cap σ) H' s'/\tn i s'.heap/\(∀b∈fp,H' b=none)/\H' D=none/\s'.heap.get? D=some {cls:=.type "list",data:=.seq us.toArray us.length}/\Vals ys us/\W i n ys H') ?_ m0
      ⟨0,[],[],H2,none,none,I4,MF,fun b hb=>(f2 b hb).1,I2.hok.fresh hD,hacc,.nil,w0⟩
    rintro n s6 ⟨i,ys,us,H6,o6,Qe,I6,K2,K3,d6,a6,v6,w6⟩
    have RK:us.length=ys.length:=v6.length.symm
    obtain⟨hz,DY⟩:=turn i n ys H6 w6
    rcases DY with⟨stop,qn⟩ | ⟨go,step⟩
    . have q := uw.done Y eP eW eK Ju i [] s6 (o6 :: Qe :: bS cap σ) H6 (notedBy (model X.prog X.w) X.A (compEnvC scope cl C X.env) fun e s' => compPost (model X.prog X.w) X.A X.xe use Qf (.ref D) C (.error e) s') I6 (fF K3) K2 stop
      rw[eA] at q
      have K4:=I6.pinned (fp:=[D]) (fun b hb=>by rw[List.mem_singleton.mp hb];exact fD d6) (fun b hb=>by rw[List.mem_singleton.mp hb];exact⟨_,a6,fun v z=>by cases z⟩)
      have q:=uw.done Y eP eW eK Ju i _ s6 (o6 :: Qe :: bS cap σ) H6 (notedBy (model X.prog X.w) X.A (compEnvC scope cl C X.env) fun e s'=>compPost (model X.prog X.w) X.A X.xe use Qf (.ref D) C (.error e) s') K4 (fun b hb=>?_) K2 stop
      . rw [eA] at q
        refine fK q fun r s7 ⟨hr,I7⟩=>?_
        subst hr
        have a7:s7.heap.get? D=_:=(I7.pin (D,{cls:=.type "list",data:=.seq us.toArray us.length}) (List.mem_append_right _ (List.mem_append_right _ (cP (List.mem_singleton.mpr rfl) a6)))).1
        obtain⟨m7,DZ,_⟩:=I7.loc
        rw[eE] at DZ
        have D0:H6 D=none:=d6
        have RL:H6 C=none:=by have:=I7.free;rw[eE] at this;exact this
        have K5:mF X.prog X.w H6 s7.heap:=by have q:=I7.hok;rw[eP,eW] at q;exact q
        have new:fG X.prog X.w (upd H6 D (.lst ys)) s7.heap D (.lst ys):=⟨Nat.le_of_lt hz,us,us.length,v6,a7⟩
        have u7:Un (frs X.stack) fp H2 H6 s2.heap s7.heap:=by have:=I7.base;subst hY;exact this
        have RM:∀b o,s2.heap.get? b=some o->b≠D:=fun b o e=>Nat.ne_of_lt (Nat.lt_of_lt_of_le (Heap.lt_size e) hD)
        have u8:Un (frs X.stack) fp H2 (upd H6 D (.lst ys)) s2.heap s7.heap:=
          ⟨u7.keep,u7.slot,fun b o e n hx=>by rw[aE (RM b o e)];exact u7.free b o e n hx,u7.there,
           fun b xs e=>by have z:=u7.tups b xs e;rw[aE (bu z D0)];exact z,fun b o u e=>by have z:=u7.sI b o u e;rw[aE (bu z D0)];exact z,
           fun b ps e=>by obtain⟨more,z⟩:=u7.uq b ps e;exact⟨more,by rw[aE (bu z D0)];exact z⟩⟩
        have RO:s7.os=s2.os:=by have:=I7.os;subst hY;exact this
        have I9:Inv X pins σ (upd H6 D (.lst ys)) s7:=I2.Ji (ch:=fp) RO u8 (K5.Jt D0 new) I7.bare fun b hb=>⟨(f2 b hb).2.2.2.1,(f2 b hb).2.1,(f2 b hb).2.2.2.2.1,(f2 b hb).2.2.2.2.2⟩
        exact hend D C s7 H6 ys I9 ⟨m7,DZ⟩ (I2.xO hC (by rw[aE (Ne.symm hDC)];exact RL)) (qn D D0)
      . obtain⟨f0,f1,K6,f3,f4,f5⟩:=fF K3 b hb
        refine⟨f0,f1,K6,f3,f4,fun p hp z=>?_⟩
        rcases List.mem_append.mp hp with q' | q'
        . exact f5 p (List.mem_append_left _ q') z
        . rcases List.mem_append.mp q' with q' | q'
          . exact absurd q' (by simp)
          . have:=(kP q').1
            rw[List.mem_singleton.mp this] at z
            exact hDf (z▸hb)
    . have K4:=I6.pinned (fp:=[D]) (fun b hb=>by rw[List.mem_singleton.mp hb];exact fD d6) (fun b hb=>by rw[List.mem_singleton.mp hb];exact⟨_,a6,fun v z=>by cases z⟩)
      have NP:∀{H':Hp},(∀b∈fp,H' b=none)->∀b∈fp,mz Y ([]++kH [D] s6.heap) H' b:=fun {H'} hn b hb=>by
        obtain⟨f0,f1,K6,f3,f4,f5⟩:=fF hn b hb
        refine⟨f0,f1,K6,f3,f4,fun p hp z=>?_⟩
        rcases List.mem_append.mp hp with q' | q'
        . exact f5 p (List.mem_append_left _ q') z
        . rcases List.mem_append.mp q' with q' | q'
          . exact absurd q' (by simp)
          . have:=(kP q').1
            rw[List.mem_singleton.mp this] at z
            exact hDf (z▸hb)
      have q:=uw.item Y eP eW eK Ju i _ s6 (o6 :: Qe :: bS cap σ) H6 (notedBy (model X.prog X.w) X.A (compEnvC scope cl C X.env) fun e s'=>compPost (model X.prog X.w) X.A X.xe use Qf (.ref D) C (.error e) s') K4 (NP K3) K2 go
      rw[eA] at q
      refine fK q fun r s6' ⟨u,hr,h7⟩=>?_
      subst hr
      refine fK h7 fun _ s7 ⟨xv,H8,I8,r8,y8,Jv,RP⟩=>?_
      have RQ:=I8.pinned (NP RP) (uw.obj _ _ Jv)
      obtain⟨a8,x1,x2,e8,YO,stp⟩:=step xv _ y8
      have qa:=RJ _ s7 (o6 :: Qe :: bS cap σ) H8 xv u (fun σ' H'=>σ'=some x1 :: some x2 :: bS cap σ/\H'=H8) RQ r8 ⟨a8,[x1,x2],e8,by rw[eK];exact YO,rfl,x1,[x2],rfl,x2,[],rfl,rfl,rfl,rfl⟩
      rw[eP,eW,eA,eE] at qa
      refine wpAny_mono qa (fun _ s9 h9=>?_) (oY _)
      obtain⟨Yv,H9,I9,e9,RS⟩:=h9
      subst e9 RS
      have qt:=RH _ s9 _ _ _ I9 stp
      rw[eP,eW,eA,eE] at qt
      refine wpAny_mono qt (fun ok RU h10=>?_) (oY _)
      obtain⟨RV,NQ,G7⟩:=h10
      have back:∀{s':Shared}{H':Hp},Inv Y (([]++kH [D] s6.heap)++kH fp s7.heap) (some x1 :: some x2 :: bS cap σ) H' s'->Inv Y [] (some x1 :: some x2 :: bS cap σ) H' s'/\tn (i+1) s'.heap/\(∀b∈fp,H' b=none)/\H' D=none/\s'.heap.get? D=some {cls:=.type "list",data:=.seq us.toArray us.length}:=fun {s' H'} J=>by
        refine⟨J.jT.jT,uw.keep _ _ _ Jv fun b hb o e=>(J.pin (b,o) (List.mem_append_right _ (List.mem_append_right _ (cP hb e)))).1,fun b hb=>?_,?_,?_⟩
        . obtain⟨o,e,d⟩:=uw.obj _ _ Jv b hb
          exact(J.pin (b,o) (List.mem_append_right _ (List.mem_append_right _ (cP hb e)))).2.1
        . exact(J.pin (D,_) (List.mem_append_right _ (List.mem_append_left _ (List.mem_append_right _ (cP (List.mem_singleton.mpr rfl) a6))))).2.1
        . exact(J.pin (D,_) (List.mem_append_right _ (List.mem_append_left _ (List.mem_append_right _ (cP (List.mem_singleton.mpr rfl) a6))))).1
      cases ok with
      | false=>
        rw[if_neg (by decide)] at G7 ⊢
        obtain⟨m',hm,RW⟩:=G7
        obtain⟨b1,b2,b3,b4,b5⟩:=back NQ
        exact⟨m',hm,i+1,ys,us,RV,some x1,some x2,b1,b2,b3,b4,b5,v6,RW⟩
      | true=>
        rw[if_pos rfl] at G7 ⊢
        have qe:=RI _ RU _ _ _ NQ G7
        rw[eP,eW,eA,eE] at qe
        refine wpAny_mono qe (fun y K7 h11=>?_) (oY _)
        obtain⟨yv,NS,RX,RY,m',hm,RZ⟩:=h11
        obtain⟨b1,b2,b3,b4,b5⟩:=back RX
        refine append_at (hsz:=by rw[List.size_toArray,RK];exact Nat.le_of_lt hz) b5 fun h12 K8 K9=>?_
        have Gq:∀b o,b≠D->K7.heap.get? b=some o->h12.get? b=some o:=fun b o hb e=>K8.extBut b o hb e
        obtain⟨g0,g1,g2,g3,g4,g5⟩:=fD b4
        have R5:Inv Y [] (some x1 :: some x2 :: bS cap σ) NS {K7 with heap:=h12}:=b1.turned (t':=K7.toks) Gq g0 g1 g3 g4 g5
        refine⟨m',hm,i+1,ys++[yv],us++[y],NS,some x1,some x2,R5,uw.keep _ _ _ b2 fun b hb o e=>Gq b o (fun z=>hDf (z▸hb)) e,b3,b4,K9.trans (congrArg some (DU us y)),v6.append (.cons RY .nil),RZ⟩
  exact codeAny_compStart_list (key _ rfl) (uw.self _ 0 _ _ _ MF (key _ rfl))
theorem vm {X:Cx}{elt iter:Expr}{ifs:List Expr}{x y0:Str}{px py pt pos:Pos}{k0:Nat}{scope:Scope}{cl:List (Str×Addr)}{bJ:List Str}{cap:List Nat}{wi:TI}{tc:TT}{te:TE}
  (T2:m6 X x y0 bJ cap scope cl) (hc:X.calm=true) (hi:PI X (.Tuple [.Name x px,.Name y0 py] k0 pt) iter wi)
  (ht:∀C s H fp,G6 (cJ X (x :: y0 :: bJ) scope cl C s H fp) ifs tc) (he:∀C s H fp,PE (cJ X (x :: y0 :: bJ) scope cl C s H fp) elt te)
  (hs:∀x,foldedSetIterable iter X.env x=pure x:=by intro _;rfl):
  PE X (.ListComp elt [⟨.Tuple [.Name x px,.Name y0 py] k0 pt,iter,ifs,0⟩] scope pos) (Hv X.K wi cap tc te):=by
 intro pins s σ H Q I h
 rw[eval_ListComp]
 refine yF T2 hc hi ht he hs I h ?_
 rintro p C s7 H6 ys I9 ⟨m7,DZ⟩ ⟨g0,g1,g2,g3,g4,g5⟩ q
 exact⟨m7,DZ,fun h' hs'=>⟨.ref p,_,I9.turned (t':=s7.toks) (fun b o hb e=>hs'.extBut b o hb e) g0 g1 g3 g4 g5,rfl,q⟩⟩
noncomputable def cK (cap:List Nat) (q:GT) (g:GD):List D->SS->List D->Option (List D×SS)
 | [],S,acc=>some (acc,S)
 | .tup [a,b] :: ds,S,acc=>(bL S cap).bind fun us=>
  if(slotsOf us).Nodup/\cN us<=1 then(cA S us).bind fun ws=>(q (some (.t a) :: some (.t b) :: ws.map some)).bind fun p=>
   if p.1 then(g p.2).bind fun r=>(aK (.t a :: .t b :: ws) r.2).bind fun outs=>(wb us outs S).bind fun S'=>cK cap q g ds S' (acc++[r.1])
   else(aK (.t a :: .t b :: ws) p.2).bind fun outs=>(wb us outs S).bind fun S'=>cK cap q g ds S' acc
  else none
 | _ :: _,_,_=>none
noncomputable def m8 (cap:List Nat) (gi:GI) (q:GT) (g:GD):GE:=fun S=>(gi S).bind fun p=>if p.1.length<=100000 then(cK cap q g p.1 p.2 []).map fun r=>(.m (.lst r.1),r.2) else none
theorem yG {F:Hp}{xs:List V}{a b:D}(r:bB F xs [a,b]):∃x1 x2,xs=[x1,x2]/\Rep F x1 a/\Rep F x2 b:=by
 cases r with
 | cons r1 rr=>cases rr with
  | cons r2 YQ=>cases YQ;exact⟨_,_,rfl,r1,r2⟩
theorem CS {K : PySem.W.Frag} {B : Base} {cap : List Nat} {gi : GI} {q : GT} {g : GD} {σ : St} {H : Hp} {Q : VK} (h : tE K B (m8 cap gi q g) σ H Q) : Hv K (R9 K B gi) cap (fun σ H Q => ∃ B, tQ K B q σ H Q) (fun σ H Q => ∃ B, tD K B g σ H Q) σ H Q := by
  obtain⟨x,_⟩:∃x:Str,True:=⟨"",trivial⟩
  obtain⟨S,F,u,S',R,hg,k⟩:=h
  obtain⟨⟨ds,S1⟩,h1,hg⟩:=ah hg
  dsimp only at hg
  split at hg
  . rename_i hlen
    obtain⟨⟨res,Sf⟩,h2,hg⟩:=au hg
    cases hg
    refine⟨S,F,ds,S1,R,h1,fun J F1 H1 R1 st1 w=>?_⟩
    refine⟨fun i m ys H'=>∃S2 F2 acc,Rel K B S2 σ F2 H'/\Step S S2 σ F H F2 H'/\(∀b o,F1 b=some o->F2 b=some o)/\bB F2 ys acc/\acc.length<=i/\i<=ds.length/\m=ds.length - i/\cK cap q g (ds.drop i) S2 acc=some (res,Sf),
      ⟨_,S1,F1,[],R1,st1,fun _ _ z=>z,.nil,Nat.le_refl _,Nat.zero_le _,rfl,h2⟩,?_⟩
    rintro i m ys H' ⟨S2,F2,acc,R2,st2,le,ry,ha,hl,rfl,cD⟩
    refine⟨by rw[ry.length];exact Nat.lt_of_le_of_lt (Nat.le_trans ha (Nat.le_trans hl hlen)) (by decide),?_⟩
    have w':=w F2 H' le R2.sub i
    by_cases hlt:i < ds.length
    . have hd:ds[i]? =some ds[i]:=List.getElem?_eq_getElem hlt
      obtain⟨go,yl⟩:=w'.1 _ hd
      rw[List.drop_eq_getElem_cons hlt] at cD
      refine .inr ⟨go,fun xv H3 y=>?_⟩
      obtain⟨rfl,rx⟩:=yl xv H3 y
      obtain⟨da,db,Sy⟩:∃da db,ds[i]= .tup [da,db]:=by
        generalize ds[i]=dd at cD
        unfold cK at cD
        split at cD
        . rename_i z;cases z
        . rename_i z;injection z with z1 z2;exact⟨_,_,z1⟩
        . cases cD
      rw[Sy] at cD rx
      obtain⟨pa,YR,Sz,YS,hpa,CC⟩:=R2.sub.jV rx
      obtain⟨x1,x2,exs,SA,SD⟩:=yG CC
      subst exs Sz
      obtain⟨us,e1,cD⟩:=ah (show(bL S2 cap).bind _=_ from cD)
      split at cD
      . rename_i hnd
        obtain⟨ws,e2,cD⟩:=ah cD
        obtain⟨⟨bk,T1⟩,e3,cD⟩:=ah cD
        obtain⟨vs,k1,k2⟩:=wg R2 e1
        have rr:Paired (fun v u=>jI K B S2 σ H3 F2 H3 v u) (x1 :: x2 :: vs) (.t da :: .t db :: us):=.cons SA (.cons SD k2)
        have er:=mX R2 da (mX R2 db e2)
        have ar:=pR R2 rr er
        have nd:=dY R2 rr er hnd.1 hnd.2
        have R3:=nR (n:=ws.length+2) R2.sub ar nd (List.replicate (ws.length+2) x) (by simp)
        have hvl:vs.length=ws.length:=by have:=ar.length;simpa using this
        have es:start (List.replicate (ws.length+2) x) (x1 :: x2 :: vs)=some x1 :: some x2 :: bS cap σ:=by
          unfold start;rw[k1];simp[hvl]
        have eS:(U.t da :: U.t db :: ws).map some++List.replicate (ws.length+2 - (U.t da :: U.t db :: ws).length) none=some (U.t da) :: some (U.t db) :: ws.map some:=by simp
        rw[es,eS] at R3
        have back:∀(T2:SS) (F3 H4:Hp) (outs:List MO) (S3:SS),Rel K ⟨lent (x1 :: x2 :: vs) (U.t da :: U.t db :: ws),F2,H3⟩ T2 (some x1 :: some x2 :: bS cap σ) F3 H4->aK (U.t da :: U.t db :: ws) T2=some outs->wb us outs S2=some S3->Rel K B S3 σ F3 H4/\Step S S3 σ F H F3 H4/\(∀b o,F2 b=some o->F3 b=some o):=fun T2 F3 H4 outs S3 RT ho hw=>by
          have po:=post_of ar T2 _ F3 H4 outs RT ho
          obtain⟨Ra,vh,_⟩:=lP (S0:=S2) (F0:=F2) (H0:=H3) R2 (Step.refl ..) rr er (show wb (U.t da :: U.t db :: us) outs S2=some S3 by cases outs <;> exact hw) hnd.1 po
          exact⟨Ra,st2.trans vh,vh.ext.le⟩
        refine⟨pa,x1,x2,rfl,.inl hpa,_,_,F2,bk,T1,R3,e3,fun F3 H4 JJ N6=>?_⟩
        cases bk with
        | true=>
          obtain⟨⟨yd,T2⟩,e4,cD⟩:=ah (show(g T1).bind _=_ from cD)
          obtain⟨outs,e5,cD⟩:=ah cD
          obtain⟨S3,e6,cD⟩:=ah cD
          refine xZ ⟨_,T1,F3,yd,T2,JJ,e4,fun yv F4 H5 N7 N8 N9=>?_⟩
          obtain⟨Ra,vh,yp⟩:=back T2 F4 H5 outs S3 N7 e5 e6
          refine⟨ds.length - (i+1),by omega,S3,F4,acc++[yd],Ra,vh,fun b o z=>yp b o (le b o z),(ry.le yp).append (.cons N9 .nil),by simp;omega,hlt,rfl,cD⟩
        | false=>
          obtain⟨outs,e5,cD⟩:=ah (show(aK (U.t da :: U.t db :: ws) T1).bind _=_ from cD)
          obtain⟨S3,e6,cD⟩:=ah cD
          obtain⟨Ra,vh,yp⟩:=back T1 F3 H4 outs S3 JJ e5 e6
          exact xY ⟨ds.length - (i+1),by omega,S3,F3,acc,Ra,vh,fun b o z=>yp b o (le b o z),ry.le yp,by omega,hlt,rfl,cD⟩
      . cases cD
    . have e:i=ds.length:=by omega
      subst e
      rw[List.drop_length] at cD
      cases cD
      refine .inl ⟨w'.2 (Nat.le_refl _),fun p hp=>?_⟩
      have n:=iC.obj (F:=F2) hp (.lst ys)
      refine k (.ref p) F2 _ (R2.new n (R2.sub.same n.same)) (st2.trans n.step) ⟨p,rfl,none_of st2.ext.there hp,R2.sub.fresh hp,⟨ys,aV,ry⟩,fun m=>?_,none_of R2.ext.there hp⟩
      obtain⟨o,ho⟩:=R2.has m
      rw[hp] at ho
      cases ho
  . cases hg
theorem Eu {X:Cx}{elt iter:Expr}{ifs:List Expr}{x y0:Str}{px py pt pos:Pos}{k0:Nat}{scope:Scope}{cl:List (Str×Addr)}{bJ:List Str}{cap:List Nat}{gi:GI}{q:GT}{g:GD}(T:m6 X x y0 bJ cap scope cl) (hc:X.calm=true) (hi:JI X (.Tuple [.Name x px,.Name y0 py] k0 pt) iter gi)
  (ht:∀C s H fp,N5 (cJ X (x :: y0 :: bJ) scope cl C s H fp) ifs q) (he:∀C s H fp,JD (cJ X (x :: y0 :: bJ) scope cl C s H fp) elt g)
  (hs:∀x,foldedSetIterable iter X.env x=pure x:=by intro _;rfl):JE X (.ListComp elt [⟨.Tuple [.Name x px,.Name y0 py] k0 pt,iter,ifs,0⟩] scope pos) (m8 cap gi q g):=⟨fun B=>
 (vm (tc:=fun σ H Q=>∃B,tQ X.K B q σ H Q) (te:=fun σ H Q=>∃B,tD X.K B g σ H Q) T hc (hi.h B) (fun C s H fp pins s' σ H' Q I ⟨B',z⟩=>(ht C s H fp).h B' pins s' σ H' Q I z) (fun C s H fp pins s' σ H' Q I ⟨B',z⟩=>(he C s H fp).h B' pins s' σ H' Q I z) hs).imp fun σ H Q h=>CS h⟩
end L2
end
section
namespace L2
open PySem PySem.Spec PyProof.Rows PySem.Calls
section
variable {X:Cx}{o e:Expr}{m:Str}{apos cpos:Pos}{id:String}{go ge:GD}{f:List D->Option U}
end
section
variable {X:Cx}
end
noncomputable def SE:GS:=fun _=>none
theorem Ov {X:Cx}{st:Stmt}:JS X st SE:=⟨fun B pins s σ H Q I ⟨_,_,_,_,hg,_⟩=>by cases hg⟩
end L2
end
section
namespace L2
open PySem PySem.Spec PyProof.Rows
section
variable {X:Cx}{C:Addr}{e value:Expr}{es:List Expr}{gu:GU}{x y m:Str}{px p pos pos' apos tpos:Pos}{f:Str}{fm:FM}{fa:Addr}{fd:FuncData}{ps:List Str}{k n i:Nat}{g:GD}
end
end L2
end
section
namespace L2
open PySem PySem.Spec PyProof.Rows PySem.Calls
section
variable {X:Cx}
end
section
variable {X:Cx}{e f:Expr}{x:Str}{px pos apos cpos:Pos}{ty tx:TE}{g gd:GD}{a:Addr}{kvs:List (Str×Int)}
end
section
variable {prog:Program}{w:World}{A:Around}{E:Value->Shared->Prop}{s:Shared}
end
section
variable {X:Cx}{pins:List (Addr×Obj)}{σ:St}{A:Around}{R:Result->Shared->Prop}{N:Nat}{k0 k1:Bool}{l0 l1:Nat}{Qa Qc:List V}{S:Addr}{W:Nat->List V->Hp->Prop}{res:Value}
end
section
variable {X:Cx}{pins:List (Addr×Obj)}{σ:St}{A:Around}{E:Value->Shared->Prop}{N:Nat}{k0 k1:Bool}{l0 l1:Nat}{Qa Qc:List V}
end
section
variable {X:Cx}{a b:Expr}{p p2 pos pos2:Pos}{t:TA}{ga gb:GD}{gA:GA}
end
theorem An {K : PySem.W.Frag} {B : Base} {cap : List Nat} {gi : GI} {q : GT} {g : GD} {σ : St} {H : Hp} {Q : VK} (h : tE K B (m8 cap gi q g) σ H Q) : Hv K (Om K B gi) cap (fun σ H Q => ∃ B, tQ K B q σ H Q) (fun σ H Q => ∃ B, tD K B g σ H Q) σ H Q := by
  obtain⟨x,_⟩:∃x:Str,True:=⟨"",trivial⟩
  obtain⟨S,F,u,S',R,hg,k⟩:=h
  obtain⟨⟨ds,S1⟩,h1,hg⟩:=ah hg
  dsimp only at hg
  split at hg
  . rename_i hlen
    obtain⟨⟨res,Sf⟩,h2,hg⟩:=au hg
    cases hg
    refine⟨S,F,ds,S1,R,h1,fun J F1 H1 R1 st1 w=>?_⟩
    refine⟨fun i m ys H'=>∃S2 F2 acc,Rel K B S2 σ F2 H'/\Step S S2 σ F H F2 H'/\(∀b o,F1 b=some o->F2 b=some o)/\bB F2 ys acc/\acc.length<=i/\i<=ds.length/\m=ds.length - i/\cK cap q g (ds.drop i) S2 acc=some (res,Sf),
      ⟨_,S1,F1,[],R1,st1,fun _ _ z=>z,.nil,Nat.le_refl _,Nat.zero_le _,rfl,h2⟩,?_⟩
    rintro i m ys H' ⟨S2,F2,acc,R2,st2,le,ry,ha,hl,rfl,cD⟩
    refine⟨by rw[ry.length];exact Nat.lt_of_le_of_lt (Nat.le_trans ha (Nat.le_trans hl hlen)) (by decide),?_⟩
    have w':=w F2 H' le R2.sub i
    by_cases hlt:i < ds.length
    . have hd:ds[i]? =some ds[i]:=List.getElem?_eq_getElem hlt
      obtain⟨go,yl⟩:=w'.1 _ hd
      rw[List.drop_eq_getElem_cons hlt] at cD
      refine .inr ⟨go,fun xv H3 y=>?_⟩
      obtain⟨FN,n3,YT,rx⟩:=yl xv H3 y
      obtain⟨da,db,Sy⟩:∃da db,ds[i]= .tup [da,db]:=by
        generalize ds[i]=dd at cD
        unfold cK at cD
        split at cD
        . rename_i z;cases z
        . rename_i z;injection z with z1 z2;exact⟨_,_,z1⟩
        . cases cD
      have R2:Rel K B S2 σ FN H3:=R2.new n3 YT
      have st2:Step S S2 σ F H FN H3:=st2.trans n3.step
      have le:∀b o,F1 b=some o->FN b=some o:=fun b o z=>n3.le b o (le b o z)
      have ry:=ry.le n3.le
      rw[Sy] at cD rx
      obtain⟨pa,YR,Sz,YS,hpa,CC⟩:=R2.sub.jV rx
      obtain⟨x1,x2,exs,SA,SD⟩:=yG CC
      subst exs Sz
      obtain⟨us,e1,cD⟩:=ah (show(bL S2 cap).bind _=_ from cD)
      split at cD
      . rename_i hnd
        obtain⟨ws,e2,cD⟩:=ah cD
        obtain⟨⟨bk,T1⟩,e3,cD⟩:=ah cD
        obtain⟨vs,k1,k2⟩:=wg R2 e1
        have rr:Paired (fun v u=>jI K B S2 σ H3 FN H3 v u) (x1 :: x2 :: vs) (.t da :: .t db :: us):=.cons SA (.cons SD k2)
        have er:=mX R2 da (mX R2 db e2)
        have ar:=pR R2 rr er
        have nd:=dY R2 rr er hnd.1 hnd.2
        have R3:=nR (n:=ws.length+2) R2.sub ar nd (List.replicate (ws.length+2) x) (by simp)
        have hvl:vs.length=ws.length:=by have:=ar.length;simpa using this
        have es:start (List.replicate (ws.length+2) x) (x1 :: x2 :: vs)=some x1 :: some x2 :: bS cap σ:=by
          unfold start;rw[k1];simp[hvl]
        have eS:(U.t da :: U.t db :: ws).map some++List.replicate (ws.length+2 - (U.t da :: U.t db :: ws).length) none=some (U.t da) :: some (U.t db) :: ws.map some:=by simp
        rw[es,eS] at R3
        have back:∀(T2:SS) (F3 H4:Hp) (outs:List MO) (S3:SS),Rel K ⟨lent (x1 :: x2 :: vs) (U.t da :: U.t db :: ws),FN,H3⟩ T2 (some x1 :: some x2 :: bS cap σ) F3 H4->aK (U.t da :: U.t db :: ws) T2=some outs->wb us outs S2=some S3->Rel K B S3 σ F3 H4/\Step S S3 σ F H F3 H4/\(∀b o,FN b=some o->F3 b=some o):=fun T2 F3 H4 outs S3 RT ho hw=>by
          have po:=post_of ar T2 _ F3 H4 outs RT ho
          obtain⟨Ra,vh,_⟩:=lP (S0:=S2) (F0:=FN) (H0:=H3) R2 (Step.refl ..) rr er (show wb (U.t da :: U.t db :: us) outs S2=some S3 by cases outs <;> exact hw) hnd.1 po
          exact⟨Ra,st2.trans vh,vh.ext.le⟩
        refine⟨pa,x1,x2,rfl,.inl hpa,_,_,FN,bk,T1,R3,e3,fun F3 H4 JJ N6=>?_⟩
        cases bk with
        | true=>
          obtain⟨⟨yd,T2⟩,e4,cD⟩:=ah (show(g T1).bind _=_ from cD)
          obtain⟨outs,e5,cD⟩:=ah cD
          obtain⟨S3,e6,cD⟩:=ah cD
          refine xZ ⟨_,T1,F3,yd,T2,JJ,e4,fun yv F4 H5 N7 N8 N9=>?_⟩
          obtain⟨Ra,vh,yp⟩:=back T2 F4 H5 outs S3 N7 e5 e6
          refine⟨ds.length - (i+1),by omega,S3,F4,acc++[yd],Ra,vh,fun b o z=>yp b o (le b o z),(ry.le yp).append (.cons N9 .nil),by simp;omega,hlt,rfl,cD⟩
        | false=>
          obtain⟨outs,e5,cD⟩:=ah (show(aK (U.t da :: U.t db :: ws) T1).bind _=_ from cD)
          obtain⟨S3,e6,cD⟩:=ah cD
          obtain⟨Ra,vh,yp⟩:=back T1 F3 H4 outs S3 JJ e5 e6
          exact xY ⟨ds.length - (i+1),by omega,S3,F3,acc,Ra,vh,fun b o z=>yp b o (le b o z),ry.le yp,by omega,hlt,rfl,cD⟩
      . cases cD
    . have e:i=ds.length:=by omega
      subst e
      rw[List.drop_length] at cD
      cases cD
      refine .inl ⟨w'.2 (Nat.le_refl _),fun p hp=>?_⟩
      have n:=iC.obj (F:=F2) hp (.lst ys)
      refine k (.ref p) F2 _ (R2.new n (R2.sub.same n.same)) (st2.trans n.step) ⟨p,rfl,none_of st2.ext.there hp,R2.sub.fresh hp,⟨ys,aV,ry⟩,fun m=>?_,none_of R2.ext.there hp⟩
      obtain⟨o,ho⟩:=R2.has m
      rw[hp] at ho
      cases ho
  . cases hg
theorem CT {X:Cx}{elt iter:Expr}{ifs:List Expr}{x y0:Str}{px py pt pos:Pos}{k0:Nat}{scope:Scope}{cl:List (Str×Addr)}{bJ:List Str}{cap:List Nat}{gi:GI}{q:GT}{g:GD}(T:m6 X x y0 bJ cap scope cl) (hc:X.calm=true) (hi:Oo X (.Tuple [.Name x px,.Name y0 py] k0 pt) iter gi)
  (ht:∀C s H fp,N5 (cJ X (x :: y0 :: bJ) scope cl C s H fp) ifs q) (he:∀C s H fp,JD (cJ X (x :: y0 :: bJ) scope cl C s H fp) elt g)
  (hs:∀x,foldedSetIterable iter X.env x=pure x:=by intro _;rfl):JE X (.ListComp elt [⟨.Tuple [.Name x px,.Name y0 py] k0 pt,iter,ifs,0⟩] scope pos) (m8 cap gi q g):=⟨fun B=>
 (vm (tc:=fun σ H Q=>∃B,tQ X.K B q σ H Q) (te:=fun σ H Q=>∃B,tD X.K B g σ H Q) T hc (hi.h B) (fun C s H fp pins s' σ H' Q I ⟨B',z⟩=>(ht C s H fp).h B' pins s' σ H' Q I z) (fun C s H fp pins s' σ H' Q I ⟨B',z⟩=>(he C s H fp).h B' pins s' σ H' Q I z) hs).imp fun σ H Q h=>An h⟩
section
variable {X:Cx}{tg a b:Expr}{p pos:Pos}{ta:TA}{gA:GA}
variable {p2 pos2:Pos}
end
end L2
end
section
namespace L2
open PySem PySem.Spec PyProof.Rows
section
variable {M:Model}{A:Around}{E:Value->Shared->Prop}{s:Shared}{Q:Value->Shared->Prop}
end
noncomputable def Ow (g g':GS):GS:=fun S=>(g S).or (g' S)
theorem Ox {X:Cx}{st:List Stmt}{g g':GS}(h:JB X st g) (h':JB X st g'):JB X st (Ow g g'):=⟨fun B pins s σ H Q I ⟨S,F,o,R,hg,q⟩=>by
 unfold Ow at hg
 cases e:g S with
 | some o'=>
  rw[e] at hg
  exact h.h B pins s σ H Q I ⟨S,F,o,R,by rw[e];exact hg,q⟩
 | none=>
  rw[e] at hg
  exact h'.h B pins s σ H Q I ⟨S,F,o,R,hg,q⟩⟩
section
variable {prog:Program}{w:World}{K:Type} [DecidableEq K] {knd:HeapKind prog w K}{A:Around}{E:Value->Shared->Prop}{s:Shared}
end
section
variable {X:Cx}{pins:List (Addr×Obj)}{σ:St}{H:Hp}{s:Shared}{a:Addr}{y v r:V}{u z:Value}{A:Around}{E:Value->Shared->Prop}
end
section
variable {X:Cx}{o e f:Expr}{td ty tx:TE}{x:Str}{px pos apos cpos:Pos}{gk gd:GD}
noncomputable def SG (o:MO) (k d:D):Option (D×MO):=match o with
 | .dct kvs=>(keyOf k).bind fun kk=>match bx kvs kk with
  | some e=>some (e,.dct kvs)
  | none=>if kvs.length < 100000 then some (d,.dct (putD kvs kk d)) else none
 | .cS kvs=>(ju k).bind fun kk=>match bx kvs kk with
  | some e=>some (e,.cS kvs)
  | none=>if kvs.length < 10000000 then some (d,.cS (putD kvs kk d)) else none
 | _=>none
end
noncomputable def iJ:List D->Option U
 | [.lst ds]=>(bR ds).bind fun ns=>if ns.length<=1000 then some (.t (.int (firstMet (fun i=>ns.getD i 0) ns.length).length)) else none
 | _=>none
theorem wB {d:D}{u:U}(h:iJ [d]=some u):∃ds ns,d= .lst ds/\bR ds=some ns/\ns.length<=1000/\u= .t (.int (firstMet (fun i=>ns.getD i 0) ns.length).length):=by
 cases d with
 | lst ds=>
  obtain⟨zs,h5,h6⟩:=ah (show(bR ds).bind _=some u from h)
  split at h6
  ·rename_i hl;cases h6;exact⟨ds,zs,rfl,h5,hl,rfl⟩
  ·cases h6
 | _=>cases h
theorem p6:∀{ns:List Int}{its:List Value},Vals (ns.map V.int) its->IntsAre its ns
 | [],_,r=>by cases r;exact .nil
 | n :: ns,_,r=>by
  cases r with
  | cons h t=>obtain⟨t',rfl⟩:=h;exact .cons _ _ (p6 t)
section
variable {X:Cx}{a:Expr}{pos p p1 p2:Pos}{ga:GD}
theorem tL (hc:X.calm=true) (SH:Gl X "len") (hm1:X.mg "len" =none) (YU:Gl X "set") (hm2:X.mg "set" =none) (ha:JD X a ga)
  (hs1:starEach [.Call (.Name "set" p1) [a] [] p2] X.env=(false,eval (.Call (.Name "set" p1) [a] [] p2) X.env) :: starEach [] X.env:=by rfl)
  (hs2:starEach [a] X.env=(false,eval a X.env) :: starEach [] X.env:=by rfl):
  JE X (.Call (.Name "len" p) [.Call (.Name "set" p1) [a] [] p2] [] pos) (eP iJ (aa ga aq)):=⟨fun B=>by
 rintro pins s σ H Q I ⟨S,F,u,S',R,hg,q⟩
 obtain⟨⟨dl,S1⟩,h1,hg⟩:=ah hg
 obtain⟨w',h2,hg⟩:=au hg
 cases hg
 obtain⟨⟨d,S2⟩,h3,h1⟩:=ah h1
 obtain⟨⟨dr,S3⟩,h4,h1⟩:=au h1
 cases h4
 cases h1
 obtain⟨ds,ns,rfl,h5,hlen,rfl⟩:=wB h2
 refine wpAny_Call_Name_kw (mK I SH hm1 PySem.boot_len ?_ (by decide) (by decide))
 refine PyProof.Rows.callWith_builtin1 ?_ hs1 rfl
 rw[hs1]
 show wpAny _ _ (spliced ((false,eval (.Call (.Name "set" p1) [a] [] p2) X.env) :: backTo pos (starEach [] X.env))) _ _ s
 refine Calls.spliced_cons ?_
 refine wpAny_Call_Name_kw (mK I YU hm2 PyProof.Rows.Boot.set ?_ (by decide) (by decide))
 refine PyProof.Rows.callWith_type1 (fK (lI (ha.h B) oX hs2 p2 pins s σ H (fun vs H1=>∃v F1,vs=[v]/\Rel X.K B S2 σ F1 H1/\Step S S2 σ F H F1 H1/\Rep F1 v (.lst ds)) I ⟨S,F,_,S2,R,h3,fun v F1 H1 R1 st1 r1=>⟨v,F1,rfl,R1,st1,r1⟩⟩) ?_) hs2 rfl
 rintro us s1 ⟨vs,H1,I1,r1,v,F1,rfl,R1,st1,rd⟩
 obtain⟨a',vs',rfl,fa,hla,oA⟩:=R1.sub.jW rd
 obtain rfl:=pg oA h5
 obtain⟨u',rfl,ru⟩:=vals1 r1
 cases ru
 obtain⟨its,rv,pl,hz⟩:=I1.list (.inl hla)
 have hil:its.length=ns.length:=by have:=rv.length;simpa using this.symm
 refine call_set_list (ns:=ns) (I1.ok.hd hc) pl.isList (by simpa using p6 rv) (by rw[List.size_toArray,hil];unfold scanBound;omega) fun h' tk hS hk=>?_
 have hz2:its.toArray.size=ns.length:=by rw[List.size_toArray,hil]
 rw[hz2] at hS
 refine Calls.spliced_nil ?_
 obtain⟨o,es,ep,t,ho,hex,hd,hel,hmem,hbd,hf,hn⟩:=hS
 refine call_len_set ho hex hd hf (by unfold scanBound at hbd;omega) ?_
 rw[hn]
 exact⟨.int _,H1,I1.kept (t':=tk+1+1) fun b o e=>hk b o (Heap.lt_size e) e,⟨_,rfl⟩,q (.int _) F1 H1 R1 st1 (.int _)⟩⟩
end
noncomputable def p7:List D->Option U
 | [d,.dh]=>some (.t (.bl (!yz d)))
 | _=>none
theorem Ao {X:Cx}:zZ X (compareOp .IsNot) p7:=by
 intro pins s σ H x y v u Q I rx ry ⟨F,ds,w,sb,rs,hw,q⟩
 obtain⟨d,e,rfl,r1,r2⟩:=u5 rs
 cases e <;> try (cases d <;> simp[p7] at hw;done)
 cases hw
 cases r2
 refine GO pins s σ H _ _ v u Q I rx ry ⟨rfl,?_⟩
 have k:Rep F (V.bl (!decide (x= .dh))) (.bl (!yz d)):=by
  cases r1 <;> exact .bl _
 exact q _ F H (iC.refl ..) sb k
@[simp] theorem MK (d:D):p7 [d,.dh]=some (.t (.bl (!yz d))):=rfl
theorem Hw:typeLookup (.type "list") "keys" =pure none:=by rw[typeLookup_type,builtinLookup_eq_fast];kernel_rfl
theorem vn:entryFor table "dict.update.loop" =some Builtin.«dict.update.loop»:=entryFor_of_tree (by kernel_rfl)
theorem nT:plainId "dict.update.loop" =true:=by decide +kernel
section
variable {prog:Program}{w:World}{A:Around}{E:Value->Shared->Prop}{s:Shared}
theorem Hx {a:Addr}{o:Obj}{xs:Array Value}{k:Nat}{name:Str}{u:Tok}{Q:Value->Shared->Prop}
  (hx:s.heap.get? a=some o) (hc:o.cls= .type "list") (hdat:o.data= .seq xs k) (hd:o.dict=none) (hmiss:typeLookup (.type "list") name=pure none) (hname:(["__module__","__name__","__qualname__","__doc__","__annotations__"]:List Str).contains name=false) (hA:A.handled=none)
  (h:∀h' tk e,Heap.NewExcOf s.heap h' e "AttributeError"->E (.ref e) {s with heap:=h',toks:=tk}) (hsz:name.length+100<=sizeLine:=by size_fits):
  wpAny (model prog w) A (getAttrBy (.ref a) (.str name u) false) Q E s:=by
 obtain⟨c,dct,dat,sl⟩:=o
 simp only at hc hdat hd
 subst hc hdat hd
 obtain⟨hp,g,d,tk,os⟩:=s
 have hT:∀tk',(⟨hp,g,d,tk',os⟩:Shared).TypeIs (.ref a) "list":=fun _=>⟨_,hx,rfl⟩
 have f1:=sub_AttributeError
 have f3:=F.slot_list_getattribute.lookup
 have f4:=F.slot_list_getattribute.bind (.ref a)
 have f5:=am_list_getattr_none
 unfold getAttrBy
 repeat (any_goals (first | assumption | exact hT _ | ((with_reducible show wpAny _ _ (call (Value.builtin "list.__getattribute__") _ _) _ _ _);refine call_meets F.slot_list_getattribute (hT _) am_entry_list_getattribute (F.args_list_getattribute_2 _ _) (meets_getattribute_miss_list a xs k sl name _ hmiss hname hsz) ⟨hx,hA,fun h' tk' e hx'=>?_⟩) | wp_step))
 obtain⟨t',u',he⟩:=hx'.there
 show wpAny _ _ (getattributeRaised _ _ _ _ _ _ _) _ _ _
 unfold getattributeRaised
 repeat (any_goals (first | assumption | wp_step))
 exact h _ _ _ hx'.of
theorem Lo {a:Addr}{o:Obj}{xs:Array Value}{k:Nat}{name:Str}{Q:Option Value->Shared->Prop}
  (hx:s.heap.get? a=some o) (hc:o.cls= .type "list") (hdat:o.data= .seq xs k) (hd:o.dict=none) (hmiss:typeLookup (.type "list") name=pure none) (hname:(["__module__","__name__","__qualname__","__doc__","__annotations__"]:List Str).contains name=false) (hA:A.handled=none)
  (h:∀h' tk e,Heap.NewExcOf s.heap h' e "AttributeError"->Q none {s with heap:=h',toks:=tk}) (hsz:name.length+100<=sizeLine:=by size_fits):
  wpAny (model prog w) A (getAttr? (.ref a) name) Q E s:=by
 unfold getAttr?
 refine wpAny_bind (wpAny_mkText ?_)
 unfold getAttrBy?
 refine wpAny_bind (wpAny_attempt (Hx hx hc hdat hd hmiss hname hA (fun h' tk e n=>?_) hsz))
 obtain⟨ob,vs,h1,h2,_⟩:=n.there
 show wpAny _ _ (isInstance (.ref e) (.type "AttributeError") >>= _) _ _ _
 refine wpAny_bind (wpAny_isInstance (T:="AttributeError") ⟨ob,h1,h2⟩ sub_AttributeError ?_)
 exact wpAny_pure (h h' tk e n)
end
section
variable {prog:Program}{w:World}{A:Around}{R:Result->Shared->Prop}{I:Addr}{fp wr:List Addr}{G:Array GenState->Array GenState->Prop}{n:Nat}{P:Nat->Value->Prop}{St:Nat->Shared->Prop}{K:Type} [DecidableEq K] {knd:KeyKind prog w K}
noncomputable def putAll (ps:Nat->K×Value) (n:Nat):List (K×Value):=(List.range n).foldl (fun kvs i=>stored kvs (ps i).1 (ps i).2) []
theorem q9 (ps:Nat->K×Value) (n:Nat):putAll ps (n+1)=stored (putAll ps n) (ps n).1 (ps n).2:=by
 unfold putAll
 rw[List.range_succ,List.foldl_append]
 rfl
theorem Ew (W:WalksS prog w A.in1 I fp wr G n P St) (S:Addr) (hSf:S∉fp) (h0:Heap) (ps:Nat->K×Value) (hz:∀i,i<=n->(putAll ps i).length<=sizeLine)
  (hval:∀i v,P i v->∃b o key m,v= .ref b/\b≠S/\b∉wr/\h0.get? b=some o/\o.cls= .type "tuple"/\o.data= .seq #[key,(ps i).2] m/\knd.is (ps i).1 key=true):
  ∀(k i:Nat) (s:Shared) (q:Int) (t:Tok),n - i=k->i<=n->St i s->s.heap.DictOf knd S (putAll ps i)->(∀b o,b≠S->b∉wr->h0.get? b=some o->s.heap.get? b=some o)->
   (∀s',Moved (S :: wr) G s s'->s'.heap.DictOf knd S (putAll ps n)->R (.ok (.ret .none)) s')->
   codeAny (model prog w) A (.builtin "dict.update.loop" ⟨[.ref S,.ref I,.int q t,.none],[]⟩) R s:=by
 have Xb:S∉wr:=fun h=>hSf (W.sub _ h)
 have hsub:∀b∈wr,b∈S :: wr:=fun b hb=>List.mem_cons_of_mem _ hb
 intro k
 induction k with
 | zero=>
  intro i s q t hk hi hst hS hh hR
  have hin:i=n:=by omega
  subst hin
  refine codeAny_builtin vn ?_
  rw[Around.under_plainId nT _]
  show wpAny _ A.in1 (pyNext (.ref I) >>= _) _ _ s
  refine wpAny_bind (W.done s _ _ hst fun s' hm=>?_)
  show wpAny _ A.in1 (Builtin.Dict.addKeywords S [] >>= _) _ _ s'
  refine wpAny_bind (wpAny_pure ?_)
  exact wpAny_pure (hR s' (hm.mono hsub) (by
   obtain⟨o,es,ep,ho,rest⟩:=hS
   exact⟨o,es,ep,hm.heap S _ Xb ho,rest⟩))
 | succ k ih=>
  intro i s q t hk hi hst hS hh hR
  have hlt:i < n:=by omega
  refine codeAny_builtin vn ?_
  rw[Around.under_plainId nT _]
  show wpAny _ A.in1 (pyNext (.ref I) >>= _) _ _ s
  refine wpAny_bind (W.item i s _ _ hlt hst fun v s' hP SI hm=>?_)
  obtain⟨b,o,key,m,rfl,YV,Xc,hb,hc,hd,hkey⟩:=hval i v hP
  have hb':s'.heap.get? b=some o:=hm.heap b o Xc (hh b o YV Xc hb)
  have hS':s'.heap.DictOf knd S (putAll ps i):=by
   obtain⟨o,es,ep,ho,rest⟩:=hS
   exact⟨o,es,ep,hm.heap S _ Xb ho,rest⟩
  refine wpAny_bind (wpAny_holding ?_)
  refine wpAny_bind (wpAny_tryCatch ?_)
  unfold Builtin.Dict.pairItems
  refine wpAny_bind (wpAny_typeOf (T:="tuple") ⟨o,hb',hc⟩ ?_)
  rw[if_pos (by decide)]
  refine wpAny_bind (wpAny_seqItems hb' hd (wpAny_pure ?_))
  show wpAny _ A.in1 (holding [key,(ps i).2] (dictSet S key (ps i).2)) _ _ s'
  refine wpAny_holding (wpAny_dictSet_pairs hkey hS' (fun h' hD hsb=>?_) (hz i hi))
  rw[<-q9] at hD
  refine wpAny_pure ⟨plainId_quiet nT _,ih (i+1) _ _ _ (by omega) hlt (W.frame _ s' _ _ SI (Nat.le_succ _) fun c hc o e=>?_) hD (fun c o hcS hcw e=>?_) fun s'' SJ SK=>?_⟩
  ·rw[hsb.2 c (fun h:c=S=>hSf (by rw[<-h];exact hc))];exact e
  ·show h'.get? c=some o
   rw[hsb.2 c hcS];exact hm.heap c o hcw (hh c o hcS hcw e)
  ·refine hR s'' (Moved.trans W.gtrans ((hm.mono hsub).then_heap (Nat.le_succ _) fun b o hb e=>?_) SJ) SK
   rw[hsb.2 b (fun h:b=S=>hb (by rw[h];exact List.mem_cons_self))];exact e
end
section
variable {prog:Program}{w:World}{A:Around}{E:Value->Shared->Prop}{s:Shared}{K:Type} [DecidableEq K] {knd:KeyKind prog w K}
theorem uB {l b:Addr}{o ob:Obj}{m mb:Nat}{k:K}{key x:Value}{Q:Value->Shared->Prop}(hh:A.handled=none) (hl:s.heap.get? l=some o) (hc:o.cls= .type "list") (hd:o.dict=none) (hdat:o.data= .seq #[.ref b] m)
  (hb:s.heap.get? b=some ob) (hbc:ob.cls= .type "tuple") (hbd:ob.data= .seq #[key,x] mb) (hk:knd.is k key=true)
  (h:∀h' tk,h'.DictOf knd s.heap.objs.size (stored [] k x)->(∀c oc,s.heap.get? c=some oc->h'.get? c=some oc)->Q (.ref s.heap.objs.size) {s with heap:=h',toks:=tk}):
  wpAny (model prog w) A (call (.type "dict") [.ref l]) Q E s:=by
 refine callType_codes (Q₁:=fun obj s₁=>obj= .ref s.heap.objs.size/\s₁={s with heap:=s.heap.push {cls:=.type "dict",data:=.dict #[]}}) F.kt_called_dict (F.kt_typeCall_dict_1 _) F.entry_dict_init (kt_code_dict_new _ ⟨rfl,rfl⟩) ?_
 rintro obj s₁ ⟨rfl,rfl⟩
 have hnew:(s.heap.push {cls:=.type "dict",data:=.dict #[]}).DictOf knd s.heap.objs.size []:=Heap.DictOf.new s.heap
 have ol:(s.heap.push {cls:=.type "dict",data:=.dict #[]}).get? l=some o:=Heap.get?_push_of_some _ hl
 refine⟨hnew.typeIs,F.args_dict_init_2 _ _,?_⟩
 unfold Builtin.«dict.__init__»
 refine wpAny_bind ?_
 unfold Builtin.Dict.selfAndRest
 refine wpAny_bind (wpAny_notOrdered_dict hnew.typeIs ?_)
 show wpAny _ _ (pure (s.heap.objs.size,[Value.ref l])) _ _ _
 refine wpAny_pure ?_
 show wpAny _ _ (Builtin.Dict.updateFrom "dict.__init__" s.heap.objs.size (.ref l) [] .none) _ _ _
 unfold Builtin.Dict.updateFrom
 refine wpAny_bind (wpAny_typeOf (T:="list") ⟨o,ol,hc⟩ ?_)
 rw[if_pos (by decide)]
 refine wpAny_bind (Lo ol hc hdat hd Hw (by decide +kernel) (by simpa using hh) fun h1 tk1 e1 ne=>?_)
 rw[if_pos (show(none:Option Value).isNone=true from rfl)]
 have Xd:h1.DictOf knd s.heap.objs.size []:=by
  obtain⟨o',es,ep,ho,r⟩:=hnew
  exact⟨o',es,ep,ne.keeps _ _ ho,r⟩
 have Xe:h1.IsList l #[.ref b]:=⟨o,ne.keeps _ _ ol,hc,m,hdat⟩
 refine wpAny_bind (wpAny_rule ?_)
 refine wpAny_bind (wpAny_pyIter_list Xe ?_)
 have nS:s.heap.objs.size < h1.objs.size:=by
  obtain⟨o',es,ep,ho,r⟩:=Xd
  exact Heap.lt_size ho
 have nl:l < s.heap.objs.size:=Heap.lt_size hl
 have nb:b < s.heap.objs.size:=Heap.lt_size hb
 have keep:∀c oc,s.heap.get? c=some oc->(h1.push {cls:=.type "list_iterator",data:=.fields #[.ref l,.int 0 0]}).get? c=some oc:=fun c oc z=>Heap.get?_push_of_some _ (ne.keeps _ _ (Heap.get?_push_of_some _ z))
 refine wpAny_pure ⟨plainId_quiet nT _,?_⟩
 refine Ew (Walks.list (by simpa using hh) _ l (Nat.ne_of_lt (Nat.lt_trans nl nS)) #[.ref b]).toS s.heap.objs.size ?_ s.heap (fun _=>(k,x)) ?_ ?_ 1 0 _ 0 0 rfl (Nat.zero_le _) ⟨⟨_,Heap.get?_push_size _ rfl,rfl,rfl⟩,Xe.push _⟩ (Xd.push _) (fun c oc _ _ z=>keep c oc z) fun s' hm hD=>?_
 ·simp only[List.mem_cons,List.not_mem_nil,or_false,not_or]
  exact⟨Nat.ne_of_lt nS,Nat.ne_of_gt nl⟩
 ·intro i hi
  have:i=0\/i=1:=by have:(#[Value.ref b]).size=1:=rfl;omega
  rcases this with rfl | rfl
  ·exact Nat.zero_le _
  ·rw[q9];show(stored [] k x).length<=_;unfold stored;simp;decide
 ·intro i v hP
  have hP:(#[Value.ref b])[i]? =some v:=hP
  have hi:i=0:=by
   have:=(Array.getElem?_eq_some_iff.mp hP).1
   have z:(#[Value.ref b]).size=1:=rfl
   omega
  subst hi
  cases hP
  refine⟨b,ob,key,mb,rfl,Nat.ne_of_lt nb,?_,hb,hbc,hbd,hk⟩
  simp only[List.mem_cons,List.not_mem_nil,or_false]
  exact Nat.ne_of_lt (Nat.lt_trans nb nS)
 ·obtain⟨h',g',d',tk',os'⟩:=s'
  have eg:g'=s.gens:=hm.gens
  have ed:d'=s.drawn:=hm.drawn
  have eo:os'=s.os:=hm.os
  subst eg;subst ed;subst eo
  refine⟨rfl,h h' tk' hD fun c oc z=>?_⟩
  have nc:c < s.heap.objs.size:=Heap.lt_size z
  refine hm.heap c oc ?_ (keep c oc z)
  simp only[List.mem_cons,List.not_mem_nil,or_false,not_or]
  exact⟨Nat.ne_of_lt nc,Nat.ne_of_lt (Nat.lt_trans nc nS)⟩
end
noncomputable def p8:List D->Option U
 | [.lst [.tup [k,x]]]=>(keyOf k).map fun kk=>.m (.dct [(kk,x)])
 | _=>none
theorem yH {d:D}{u:U}(h:p8 [d]=some u):∃k x kk,d= .lst [.tup [k,x]]/\keyOf k=some kk/\u= .m (.dct [(kk,x)]):=by
 unfold p8 at h
 split at h
 ·rename_i k x e
  cases e
  obtain⟨kk,h1,h2⟩:=au h
  exact⟨k,x,kk,rfl,h1,h2.symm⟩
 ·cases h
section
variable {X:Cx}{a:Expr}{pos p p1 p2:Pos}{ga:GD}
theorem CU (hc : X.calm = true) (SH : Gl X "dict") (hm1 : X.mg "dict" = none) (ha : JD X a ga) (hs2 : starEach [a] X.env = (false, eval a X.env) :: starEach [] X.env := by rfl) :
    JE X (.Call (.Name "dict" p) [a] [] pos) (eP p8 (aa ga aq)):=⟨fun B=>by
  rintro pins s σ H Q I ⟨S,F,u,S',R,hg,q⟩
  obtain⟨⟨dl,S1⟩,h1,hg⟩:=ah hg
  obtain⟨w',h2,hg⟩:=au hg
  cases hg
  obtain⟨⟨d,S2⟩,h3,h1⟩:=ah h1
  obtain⟨⟨dr,S3⟩,h4,h1⟩:=au h1
  cases h4
  cases h1
  obtain⟨k,x,kk,rfl,hk,rfl⟩:=yH h2
  refine wpAny_Call_Name_kw (mK I SH hm1 PyProof.Rows.Boot.dict ?_ (by decide) (by decide))
  refine PyProof.Rows.callWith_type1 (fK (lI (ha.h B) oX hs2 pos pins s σ H (fun vs H1=>∃v F1,vs=[v]/\Rel X.K B S2 σ F1 H1/\Step S S2 σ F H F1 H1/\Rep F1 v (.lst [.tup [k,x]])) I ⟨S,F,_,S2,R,h3,fun v F1 H1 R1 st1 r1=>⟨v,F1,rfl,R1,st1,r1⟩⟩) ?_) hs2 rfl
  rintro us s1 ⟨vs,H1,I1,r1,v,F1,rfl,R1,st1,rd⟩
  obtain⟨a',vs',rfl,fa,hla,oA⟩:=R1.sub.jW rd
  obtain⟨u',rfl,ru⟩:=vals1 r1
  cases ru
  cases oA with
  | cons rt rr =>
    cases rr
    obtain⟨b,vb,rfl,fb,hlb,Oz⟩:=R1.sub.jV rt
    cases Oz with
    | cons rk Oz =>
      cases Oz with
      | cons rx Oz =>
        cases Oz
        rename_i kv xv
        obtain⟨its,rv,pl,hz⟩:=I1.list (.inl hla)
        obtain⟨itb,jr,pb,hzb⟩:=I1.tuple (.inl hlb)
        cases rv with
        | cons r0 rv=>
          cases rv
          cases r0
          cases jr with
          | cons r2 jr=>
            cases jr with
            | cons r3 jr=>
              cases jr
              rename_i ku xu
              obtain⟨o,n,e1,e2,e3,e4⟩:=pl
              obtain⟨ob,e5,e6,nb,e7⟩:=pb
              have ky:=iT rk hk
              refine uB (knd:=ia X.prog X.w) (I1.ok.hd hc) e1 e2 e3 e4 e5 e6 e7 (ky.is r2) fun h' tk hD keep=>?_
              have rel:KV [(kk,xv)] (stored [] kk xu):=by
                have:KV (putK [] kk xv) (stored [] kk xu):=KV.put .nil kk r3
                exact this
              have hsm:(s1.heap.objs.size == sysModules)=false:=by
                rw[beq_eq_false_iff_ne]
                exact Nat.ne_of_gt I1.big
              have I2:=I1.laid (a:=s1.heap.objs.size) (o:=.dK [(kk,xv)]) (h':=h') (t':=tk) keep (Nat.le_refl _) (zV (by show 1<=sizeLine;decide) hsm rel hD)
              have hp:H1 s1.heap.objs.size=none:=I1.hok.fresh (Nat.le_refl _)
              have nw:=iC.obj (F:=F1) hp (.dK [(kk,xv)])
              refine⟨.ref s1.heap.objs.size,_,I2,rfl,?_⟩
              exact q _ F1 _ (R1.new nw (R1.sub.same nw.same)) (st1.trans nw.step) (D6.Lb (u:=.m (.dct [(kk,x)])) R1 st1 ⟨_,rfl,hp,R1.sub.fresh hp,_,aV,.cons ⟨rfl,rx⟩ .nil⟩)⟩
end
structure NB (B B':Base) (N:List Addr):Prop where
 p:B'.P=B.P
 f:B'.F=B.F
 out:∀c,c∉N->B'.H c=B.H c
 new:∀c,c∈N->B.H c=none/\¬B.M c/\B.F c=none
structure NR (K:PySem.W.Frag) (B B':Base) (S:SS) (σ:St) (F H:Hp) (a:Addr) (bs:List Addr) (nest:List (List D)):Prop where
 r:Rel K B' S σ F H
 b:NB B B' (a :: bs)
 na:a∉bs
 nd:bs.Nodup
 top:B'.H a=some (.lst (bs.map V.ref))
 len:bs.length=nest.length
 ins:∀(k:Nat) c ds,bs[k]? =some c->nest[k]? =some ds->∃vs,B'.H c=some (.lst vs)/\bB F vs ds
noncomputable def Hy (K:PySem.W.Frag) (B:Base) (S:SS) (σ:St) (F H:Hp) (a:Addr) (nest:List (List D)):Prop:=∃B' bs,NR K B B' S σ F H a bs nest
section
variable {K:PySem.W.Frag}{B B':Base}{S S':SS}{σ:St}{F H F' H':Hp}{a:Addr}{bs:List Addr}{nest:List (List D)}
theorem NB.notM {N:List Addr}(n:NB B B' N){c:Addr}(h:c∈N):¬B'.M c:=fun z=>(n.new c h).2.1 (by unfold Base.M at z ⊢;rw[n.p] at z;exact z)
theorem NR.at {c:Addr}{o:HO}(R:NR K B B' S σ F H a bs nest) (hc:c∈a :: bs) (h:B'.H c=some o):H c=some o/\F c=none:=
 ⟨R.r.ext.keep c o h (R.b.notM hc),R.r.ext.ig c o h (R.b.notM hc) (by rw[R.b.f];exact(R.b.new c hc).2.2)⟩
theorem NR.apart {c:Addr}{o:HO}(R:NR K B B' S σ F H a bs nest) (hc:c∈a :: bs) (h:B'.H c=some o):¬cy S σ c:=fun⟨i,u,h1,h2,h3⟩=>by
 cases u with
 | m q=>rw[R.r.own i q c h1 h3] at h;cases h
 | b q=>exact R.b.notM hc (R.r.bor i q c h1 h3)
 | t d=>cases h2
 | v d=>cases h2
 | s d=>cases h2
 | f d=>cases h2
theorem NR.step (R:NR K B B' S σ F H a bs nest) (R':Rel K B' S' σ F' H') (le:∀b o,F b=some o->F' b=some o):NR K B B' S' σ F' H' a bs nest:=
 ⟨R',R.b,R.na,R.nd,R.top,R.len,fun k c ds h1 h2=>let⟨vs,e,r⟩:=R.ins k c ds h1 h2;⟨vs,e,r.le le⟩⟩
theorem NR.bind {σ':St}(R:NR K B B' S σ F H a bs nest) (R':Rel K B' S' σ' F H):NR K B B' S' σ' F H a bs nest:=⟨R',R.b,R.na,R.nd,R.top,R.len,R.ins⟩
theorem NR.app (R : NR K B B' S σ F H a bs nest) {k : Nat} {c : Addr} {ds : List D} {vs : List V} {y : V} {d : D} (hc : bs[k]? = some c) (hn : nest[k]? = some ds) (hv : B'.H c = some (.lst vs)) (rs : bB F vs ds) (ry : Rep F y d) :
    NR K B ⟨B'.P,B'.F,upd B'.H c (.lst (vs++[y]))⟩ S σ F (upd H c (.lst (vs++[y]))) a bs (nest.set k (ds++[d])):=by
  have mc:c∈bs:=List.mem_of_getElem? hc
  have SM:c∈a :: bs:=List.mem_cons_of_mem _ mc
  have YW:a≠c:=fun z=>R.na (z▸mc)
  obtain⟨hH,hF⟩:=R.at SM hv
  have ap:=R.apart SM hv
  have JF:∀b o u,H b=some (.jA o u)->upd H c (.lst (vs++[y])) b=some (.jA o u):=fun b o u z=>by
    rw[aE (fun e=>by rw[e,hH] at z;cases z)];exact z
  refine⟨⟨fun b o z=>?_,R.r.len,fun i u h=>?_,R.r.yc,fun i o b h1 h2=>?_,R.r.bor,R.r.par,⟨R.r.ext.le,fun b o z n=>?_,fun b o z n f=>?_,fun b o z=>?_,fun b o u z=>?_⟩⟩,⟨R.b.p,R.b.f,fun b hb=>?_,R.b.new⟩,R.na,R.nd,?_,by rw[List.length_set];exact R.len,fun j b es h1 h2=>?_⟩
  . rw[aE (fun e=>by rw[e,hF] at z;cases z)];exact R.r.sub b o z
  . obtain⟨v,h1,h2⟩:=R.r.rep i u h
    refine⟨v,h1,h2.le (fun _ _ z=>z) JF fun b hm hb=>⟨fun o q=>?_,?_⟩⟩
    . rw[aE (fun e=>ap ⟨i,u,h,hm,by rw[h1,hb,e]⟩)];exact q
    . obtain⟨b',o,e,f,_⟩:=h2.cy hm
      rw[hb] at e
      cases e
      exact f
  . have z:=R.r.own i o b h1 h2
    show upd B'.H c _ b=none
    rw[aE (fun e=>by rw[e,hv] at z;cases z)]
    exact z
  . have z:upd B'.H c (.lst (vs++[y])) b=some o:=z
    by_cases e:b=c
    . subst e;rw[aV] at z ⊢;exact z
    . rw[aE e] at z ⊢;exact R.r.ext.keep b o z n
  . have z:upd B'.H c (.lst (vs++[y])) b=some o:=z
    by_cases e:b=c
    . subst e;exact hF
    . rw[aE e] at z;exact R.r.ext.ig b o z n f
  . have z:upd B'.H c (.lst (vs++[y])) b=some o:=z
    by_cases e:b=c
    . exact⟨_,by rw[e];exact aV⟩
    . rw[aE e] at z ⊢;exact R.r.ext.there b o z
  . have z:upd B'.H c (.lst (vs++[y])) b=some (.jA o u):=z
    have e:b≠c:=fun e=>by rw[e,aV] at z;cases z
    rw[aE e] at z ⊢
    exact R.r.ext.jA b o u z
  . show upd B'.H c _ b=_
    rw[aE (fun e:b=c=>hb (by rw[e];exact SM))]
    exact R.b.out b hb
  . show upd B'.H c _ a=_
    rw[aE YW]
    exact R.top
  . show ∃ws,upd B'.H c _ b=_/\_
    by_cases e:j=k
    . subst e
      rw[hc] at h1
      cases h1
      have hl:=(List.getElem?_eq_some_iff.mp hn).1
      rw[List.getElem?_set_self hl] at h2
      cases h2
      exact⟨vs++[y],aV,rs.append (.cons ry .nil)⟩
    . rw[List.getElem?_set_ne (Ne.symm e)] at h2
      obtain⟨ws,e1,r1⟩:=R.ins j b es h1 h2
      have ne:b≠c:=fun z=>e (by
        subst z
        have l1:=(List.getElem?_eq_some_iff.mp h1)
        have l2:=(List.getElem?_eq_some_iff.mp hc)
        obtain⟨p1,q1⟩:=l1
        obtain⟨p2,q2⟩:=l2
        have z1:=R.nd.idxOf_getElem j p1
        have z2:=R.nd.idxOf_getElem k p2
        rw[q1] at z1
        rw[q2] at z2
        rw[<-z1,<-z2])
      exact⟨ws,by rw[aE ne];exact e1,r1⟩
theorem NR.freeze (R : NR K B B' S σ F H a bs nest) {i : Nat} (hi : S[i]? = some (some (.f a))) : ∃ F', Rel K B (S.set i (some (.t (.lst (nest.map D.lst))))) σ F' H /\ (∀ b o, F b = some o -> F' b = some o) := by
  have hl:=(List.getElem?_eq_some_iff.mp hi).1
  have there:∀c,c∈a :: bs->∃o,B'.H c=some o:=fun c hc=>by
    rcases List.mem_cons.mp hc with rfl | m
    . exact⟨_,R.top⟩
    . obtain⟨k,hk⟩:=List.getElem?_of_mem m
      have:k < nest.length:=by rw[<-R.len];exact(List.getElem?_eq_some_iff.mp hk).1
      obtain⟨vs,e,_⟩:=R.ins k c _ hk (List.getElem?_eq_getElem this)
      exact⟨_,e⟩
  let F':Hp:=fun c=>if c∈a :: bs then H c else F c
  have sA:∀c,c∈a :: bs->F' c=H c:=fun c hc=>if_pos hc
  have out:∀c,c∉a :: bs->F' c=F c:=fun c hc=>if_neg hc
  have le:∀b o,F b=some o->F' b=some o:=fun b o z=>by
    by_cases m:b∈a :: bs
    . rw[sA b m];exact R.r.sub b o z
    . rw[out b m];exact z
  have back:∀{j:Nat}{w:U},(S.set i (some (.t (.lst (nest.map D.lst)))))[j]? =some (some w)->(i=j/\w= .t (.lst (nest.map D.lst)))\/(i≠j/\S[j]? =some (some w)):=fun {j w} h=>by
    rcases get_set h with⟨e,q,_⟩ | q
    . cases q;exact .inl ⟨e,rfl⟩
    . exact .inr q
  have SN:σ[i]? =some (some (.ref a)):=by
    obtain⟨v,h1,h2⟩:=R.r.rep i _ hi
    rw[h1]
    exact congrArg (fun z=>some (some z)) h2
  refine⟨F',⟨fun b o z=>?_,by rw[List.length_set];exact R.r.len,fun j u h=>?_,fun j k u w c h1 m1 h2 m2=>?_,fun j o c h=>?_,fun j o c h=>?_,fun j c h=>?_,?_⟩,le⟩
  . by_cases m:b∈a :: bs
    . rw[sA b m] at z;exact z
    . rw[out b m] at z;exact R.r.sub b o z
  . rcases back h with⟨rfl,rfl⟩ | ⟨ne,q⟩
    . refine⟨.ref a,SN,.lst (.inl (by rw[sA a List.mem_cons_self];exact(R.at List.mem_cons_self R.top).1)) ?_⟩
      have go:∀(cs:List Addr) (ns:List (List D)),cs.length=ns.length->(∀(k:Nat) c ds,cs[k]? =some c->ns[k]? =some ds->c∈a :: bs/\∃vs,B'.H c=some (.lst vs)/\bB F vs ds)->bB F' (cs.map V.ref) (ns.map D.lst):=by
        intro cs
        induction cs with
        | nil=>intro ns e _;cases ns with | nil=>exact .nil | cons=>cases e
        | cons c cs ih=>
          intro ns e h
          cases ns with
          | nil=>cases e
          | cons n ns=>
            obtain⟨m,vs,e1,r1⟩:=h 0 c n rfl rfl
            refine .cons (.lst (.inl (by rw[sA c m];exact(R.at m e1).1)) (r1.le le)) (ih ns (by simpa using e) fun k=>h (k+1))
      exact go bs nest R.len fun k c ds h1 h2=>⟨List.mem_cons_of_mem _ (List.mem_of_getElem? h1),R.ins k c ds h1 h2⟩
    . obtain⟨v,h1,h2⟩:=R.r.rep j u q
      refine⟨v,h1,h2.le le (fun _ _ _ z=>z) fun c hm hc=>⟨fun o z=>z,?_⟩⟩
      have nm:c∉a :: bs:=fun m=>by
        obtain⟨o,ho⟩:=there c m
        exact R.apart m ho ⟨j,u,q,hm,by rw[h1,hc]⟩
      rw[out c nm]
      obtain⟨c',o,e,f,_⟩:=h2.cy hm
      rw[hc] at e
      cases e
      exact f
  . rcases back h1 with⟨_,rfl⟩ | ⟨_,q1⟩
    . cases m1
    . rcases back h2 with⟨_,rfl⟩ | ⟨_,q2⟩
      . cases m2
      . exact R.r.yc j k u w c q1 m1 q2 m2
  . rcases back h with⟨_,z⟩ | ⟨_,q⟩
    . cases z
    . intro hc
      have z:=R.r.own j o c q hc
      by_cases m:c∈a :: bs
      . exact(R.b.new c m).1
      . rw[<-R.b.out c m];exact z
  . rcases back h with⟨_,z⟩ | ⟨_,q⟩
    . cases z
    . intro hc
      have z:=R.r.bor j o c q hc
      unfold Base.M at z ⊢
      rw[<-R.b.p];exact z
  . obtain⟨h1,o,h2⟩:=R.r.par j c (by rw[R.b.p];exact h)
    refine⟨h1,o,?_⟩
    have ne:i≠j:=fun z=>by subst z;rw[hi] at h2;cases h2
    rw[List.getElem?_set_ne ne]
    exact h2
  . have old:∀b o,B.H b=some o->b∉a :: bs/\B'.H b=some o:=fun b o z=>by
      have m:b∉a :: bs:=fun m=>by rw[(R.b.new b m).1] at z;cases z
      exact⟨m,by rw[R.b.out b m];exact z⟩
    have mm:∀b,B'.M b->B.M b:=fun b z=>by unfold Base.M at z ⊢;rw[<-R.b.p];exact z
    refine⟨fun b o z=>le b o (R.r.ext.le b o (by rw[R.b.f];exact z)),fun b o z n=>R.r.ext.keep b o (old b o z).2 fun q=>n (mm b q),fun b o z n f=>?_,fun b o z=>R.r.ext.there b o (old b o z).2,fun b o u z=>R.r.ext.jA b o u (old b _ z).2⟩
    rw[out b (old b o z).1]
    exact R.r.ext.ig b o (old b o z).2 (fun q=>n (mm b q)) (by rw[R.b.f];exact f)
end
noncomputable abbrev GN:=Addr->SS->List (List D)->Option (SS×List (List D))
noncomputable def Ex (S:SS) (i:Nat) (a:Addr):Bool:=match S[i]? with
 | some (some (.f b))=>b == a
 | _=>false
theorem Aq {S:SS}{i:Nat}{a:Addr}(h:Ex S i a=true):S[i]? =some (some (.f a)):=by
 unfold Ex at h
 split at h
 ·rename_i b e;rw[e,eq_of_beq h]
 ·cases h
noncomputable def tN (K:PySem.W.Frag) (B:Base) (i:Nat) (g:GN):TS:=fun D σ H=>∃S F a nest S' rA,Hy K B S σ F H a nest/\S[i]? =some (some (.f a))/\g a S nest=some (S',rA)/\
 ∀σ' F' H',Hy K B S' σ' F' H' a rA->S'[i]? =some (some (.f a))->(∀b o,F b=some o->F' b=some o)->D.nx σ' H'
structure JN (X:Cx) (i:Nat) (st:Stmt) (g:GN):Prop where
 h:∀B,PS X st (tN X.K B i g)
noncomputable def Ey (i:Nat) (gk gv:GD):GN:=fun a S nest=>(gk S).bind fun p=>match p.1 with
 | .int k=>(xA nest.length k).bind fun j=>(nest[j]?).bind fun ds=>(gv p.2).bind fun q=>if Ex q.2 i a=true/\ds.length < 100000 then some (q.2,nest.set j (ds++[q.1])) else none
 | _=>none
section
variable {X:Cx}{e1 e2:Expr}{pos px ps apos cpos:Pos}{x:Str}{gk gv:GD}{i:Nat}
theorem Lp (hk:JD X e1 gk) (hv:JD X e2 gv) (hx:su e1) (hN:X.N[i]? =some x:=by rfl) (SO:Dl X.env.scope x:=by first | exact Or.inl rfl | exact Or.inr (Or.inl rfl) | exact Or.inr (Or.inr rfl))
  (hbase:attributeBase (.Subscript (.Name x px) e1 ps) "append" X.env (eval (.Subscript (.Name x px) e1 ps) X.env)=eval (.Subscript (.Name x px) e1 ps) X.env:=by rfl)
  (hfew:((backTo cpos (starEach [e2] X.env)).all (fun x=>!x.1) && (backToKw cpos (keywordEach [] X.env)).all (fun x=>x.1.isSome)
   && decide (([e2]:List Expr).length+([]:List Keyword).length+(if([]:List Keyword).isEmpty then 0 else 1) < 30))=true:=by rfl)
  (hline:(apos.endLine == cpos.line)=true:=by rfl) (hs:starEach [e2] X.env=(false,eval e2 X.env) :: starEach [] X.env:=by rfl) (hplain:(backTo cpos (starEach [] X.env)).any (·.1)=false:=by rfl)
  (hsw:swapsWith (.Call (.Attribute (.Subscript (.Name x px) e1 ps) "append" apos) [e2] [] cpos) none pos.line X.env=pure false:=by rfl)
  (hd:(x == ("__debug__":Str))=false:=by decide) (hcd:(x == ("__classdict__":Str))=false:=by decide):
  JN X i (.Expr (.Call (.Attribute (.Subscript (.Name x px) e1 ps) "append" apos) [e2] [] cpos) pos) (Ey i gk gv):=⟨fun B=>by
 intro pins s σ H D I ⟨S,F,a,nest,S',rA,⟨B',bs,R⟩,hi,hg,q⟩
 refine(A7 (Js PySem.F.plainAttrs_list PySem.F.slot_list_append PySem.F.type_list_append dj (Bh vY (iQ hN SO hd hcd) (hk.h B') hx) (lI (hv.h B') oX hs) hbase hfew hline hs hplain) hsw) pins s σ H D I ?_
 unfold Ey at hg
 obtain⟨⟨dk,S1⟩,h1,hg⟩:=ah hg
 dsimp only at hg
 split at hg
 ·rename_i k
  obtain⟨j,h2,hg⟩:=ah hg
  obtain⟨ds,h3,hg⟩:=ah hg
  obtain⟨⟨d,S2⟩,h4,hg⟩:=ah hg
  obtain⟨⟨h5,h6⟩,hg⟩:=kR hg
  cases hg
  have SN:σ[i]? =some (some (.ref a)):=by
   obtain⟨v,z1,z2⟩:=R.r.rep i _ hi
   rw[z1]
   exact congrArg (fun z=>some (some z)) z2
  refine⟨.ref a,SN,S,F,_,S1,R.r,h1,fun v1 F1 H1 R1 st1 r1=>?_⟩
  have N1:=R.step R1 st1.ext.le
  have hj:j < bs.length:=by rw[R.len];exact(List.getElem?_eq_some_iff.mp h3).1
  have hb:bs[j]? =some bs[j]:=List.getElem?_eq_getElem hj
  generalize hbj:bs[j]=c at hb
  have mc:c∈a :: bs:=List.mem_cons_of_mem _ (List.mem_of_getElem? hb)
  obtain⟨vs,e1,oA⟩:=N1.ins j c ds hb h3
  have hat:cX (bs.map V.ref) k=some (V.ref c):=by
   unfold cX
   rw[List.length_map,R.len,h2]
   show(bs.map V.ref)[j]? =_
   rw[List.getElem?_map,hb]
   rfl
  refine⟨a,bs.map V.ref,k,.ref c,rfl,i9 r1,oW.of (N1.at List.mem_cons_self N1.top).1,hat,.inl ⟨rfl,vs,oW.of (N1.at mc e1).1⟩,?_⟩
  refine⟨S1,F1,d,S2,R1,h4,fun v2 F2 H2 R2 st2 r2=>?_⟩
  have N2:=N1.step R2 st2.ext.le
  refine⟨c,vs,v2,rfl,rfl,(N2.at mc e1).1,?_,?_⟩
  ·rw[oA.length];exact Nat.lt_of_lt_of_le h6 (by decide)
  ·exact q σ F2 _ ⟨_,bs,N2.app hb h3 e1 (oA.le st2.ext.le) r2⟩ (Aq h5) fun b o z=>st2.ext.le b o (st1.ext.le b o z)
 ·cases hg⟩
end
noncomputable def BB (bd:GB) (g:GN) (a:Addr):List D->SS->List (List D)->Option (SS×List (List D))
 | [],S,nest=>some (S,nest)
 | d :: ds,S,nest=>(bd d S).bind fun S1=>(g a S1 nest).bind fun q=>BB bd g a ds q.1 q.2
noncomputable def Ez (i:Nat) (bd:GB) (gi:GI) (g:GN):GN:=fun a S nest=>(gi S).bind fun p=>if Ex p.2 i a=true then BB (fun d S=>(bd d S).bind fun S1=>if Ex S1 i a=true then some S1 else none) g a p.1 p.2 nest else none
section
variable {X:Cx}{tg iter:Expr}{body:Stmt}{bd:GB}{gi:GI}{g:GN}{i:Nat}{pos:Pos}
theorem Lq (hp:PassesOwn (model X.prog X.w) X.A X.env X.xe) (hc:X.calm=true) (hi:Oo X tg iter gi) (hg:JG X tg bd) (hb:JN X i body g) (hs:∀x,foldedSetIterable iter X.env x=pure x:=by intro _;rfl):
  JN X i (.For tg iter [body] [] pos) (Ez i bd gi g):=⟨fun B=>by
 refine(PS.orelse fun D σ H ⟨S,F,a,nest,Sf,nf,⟨B',bs,R⟩,hS,hw,k⟩=>?_)
 refine⟨_,zS hp hc (hi.h B') (g:=fun v σ H Q=>∃B,W7 X.K B bd v σ H Q) (fun pins s σ H v u Q I r ⟨B2,z⟩=>hg.h B2 pins s σ H v u Q I r z) (A6 (hb.h B)) hs,?_⟩
 obtain⟨⟨ds,S1⟩,h1,hw⟩:=ah hw
 dsimp only at hw
 obtain⟨YX,hw⟩:=kR hw
 refine⟨S,F,ds,S1,R.r,h1,fun J F1 H1 R1 st1 w=>?_⟩
 refine⟨fun n m σ' H'=>∃S' F' rA,Hy X.K B S' σ' F' H' a rA/\S'[i]? =some (some (.f a))/\(∀b o,F1 b=some o->F' b=some o)/\n<=ds.length/\m=ds.length - n/\BB (fun d S=>(bd d S).bind fun S1=>if Ex S1 i a=true then some S1 else none) g a (ds.drop n) S' rA=some (Sf,nf),⟨_,S1,F1,nest,⟨B',bs,R.step R1 st1.ext.le⟩,Aq YX,fun _ _ z=>z,Nat.zero_le _,rfl,hw⟩,?_⟩
 rintro n m σ' H' ⟨S',F',rA,⟨B2,cs,R'⟩,hS',le,hl,rfl,cD⟩
 have w':=w F' H' le R'.r.sub n
 by_cases hlt:n < ds.length
 ·have hd:ds[n]? =some ds[n]:=List.getElem?_eq_getElem hlt
  obtain⟨go,yl⟩:=w'.1 _ hd
  rw[List.drop_eq_getElem_cons hlt] at cD
  obtain⟨S2,e2,cD⟩:=ah cD
  obtain⟨S2',YY,e2⟩:=ah e2
  obtain⟨Ot,e2⟩:=kR e2
  cases e2
  obtain⟨⟨S3,JL⟩,e3,cD⟩:=ah cD
  refine .inr ⟨go,_,fun σ2 H2 z=>⟨ds.length - (n+1),by omega,z⟩,fun x H2 y=>?_⟩
  obtain⟨F2,nw,Su,rx⟩:=yl x H2 y
  have R2:=R'.r.new nw Su
  have N2:=R'.step R2 nw.le
  refine⟨B2,S',F2,_,S2,R2,rx,YY,fun σ3 R3=>⟨S2,F2,a,rA,S3,JL,⟨B2,cs,N2.bind R3⟩,Aq Ot,e3,fun xB F4 H4 R4 YZ rS=>?_⟩⟩
  exact⟨S3,F4,JL,R4,YZ,fun b o z=>rS b o (nw.le b o (le b o z)),hlt,rfl,cD⟩
 ·have e:n=ds.length:=by omega
  subst e
  rw[List.drop_length] at cD
  cases cD
  exact .inl ⟨w'.2 (Nat.le_refl _),k σ' F' H' ⟨B2,cs,R'⟩ hS' fun b o z=>le b o (st1.ext.le b o z)⟩⟩
end
section
variable {K:PySem.W.Frag}{B:Base}{S:SS}{σ:St}{F H:Hp}{a:Addr}{bs:List Addr}{i:Nat}
theorem Hz (R : Rel K B S σ F H) (hl : i < S.length) (nb : ∀ o, S[i]? ≠ some (some (.b o))) (ha : H a = some (.lst (bs.map V.ref))) (hb : ∀ c, c ∈ bs -> H c = some (.lst [])) (na : a ∉ bs) (nd : bs.Nodup)
    (fr:∀c,c∈a :: bs->F c=none/\¬cy S σ c/\B.H c=none/\¬B.M c/\B.F c=none):
    Hy K B (S.set i (some (.f a))) (σ.set i (some (.ref a))) F H a (List.replicate bs.length []):=by
  have hl':i < σ.length:=by rw[<-R.len];exact hl
  have CV:∀{j:Nat},i≠j->(σ.set i (some (V.ref a)))[j]? =σ[j]?:=fun ne=>List.getElem?_set_ne ne
  have back:∀{j:Nat}{w:U},(S.set i (some (.f a)))[j]? =some (some w)->(i=j/\w= .f a)\/(i≠j/\S[j]? =some (some w)):=fun {j w} h=>by
    rcases get_set h with⟨e,q,_⟩ | q
    . cases q;exact .inl ⟨e,rfl⟩
    . exact .inr q
  let B':Base:=⟨B.P,B.F,fun c=>if c∈a :: bs then H c else B.H c⟩
  have sA:∀c,c∈a :: bs->B'.H c=H c:=fun c hc=>if_pos hc
  have out:∀c,c∉a :: bs->B'.H c=B.H c:=fun c hc=>if_neg hc
  refine⟨B',bs,⟨R.sub,by rw[List.length_set,List.length_set];exact R.len,fun j u h=>?_,fun j k u w c h1 m1 h2 m2 g1 g2=>?_,fun j o c h hc=>?_,fun j o c h hc=>?_,fun j c h=>?_,⟨R.ext.le,fun b o z n=>?_,fun b o z n f=>?_,fun b o z=>?_,fun b o u z=>?_⟩⟩,⟨rfl,rfl,out,fun c hc=>⟨(fr c hc).2.2.1,(fr c hc).2.2.2.1,(fr c hc).2.2.2.2⟩⟩,na,nd,by rw[sA a List.mem_cons_self];exact ha,by rw[List.length_replicate],fun k c ds h1 h2=>?_⟩
  . rcases back h with⟨rfl,rfl⟩ | ⟨ne,q⟩
    . exact⟨.ref a,List.getElem?_set_self hl',rfl⟩
    . obtain⟨v,h1,h2⟩:=R.rep j u q
      exact⟨v,by rw[CV ne];exact h1,h2⟩
  . rcases back h1 with⟨_,rfl⟩ | ⟨n1,q1⟩
    . cases m1
    . rcases back h2 with⟨_,rfl⟩ | ⟨n2,q2⟩
      . cases m2
      . rw[CV n1] at g1
        rw[CV n2] at g2
        exact R.yc j k u w c q1 m1 q2 m2 g1 g2
  . rcases back h with⟨_,z⟩ | ⟨n,q⟩
    . cases z
    . rw[CV n] at hc
      rw[out c (fun m=>(fr c m).2.1 ⟨j,_,q,rfl,hc⟩)]
      exact R.own j o c q hc
  . rcases back h with⟨_,z⟩ | ⟨n,q⟩
    . cases z
    . rw[CV n] at hc
      exact R.bor j o c q hc
  . obtain⟨h1,o,h2⟩:=R.par j c h
    have ne:i≠j:=fun z=>by subst z;exact nb o h2
    exact⟨by rw[CV ne];exact h1,o,by rw[List.getElem?_set_ne ne];exact h2⟩
  . by_cases m:b∈a :: bs
    . rw[sA b m] at z;exact z
    . rw[out b m] at z;exact R.ext.keep b o z n
  . by_cases m:b∈a :: bs
    . exact(fr b m).1
    . rw[out b m] at z;exact R.ext.ig b o z n f
  . by_cases m:b∈a :: bs
    . rw[sA b m] at z;exact⟨o,z⟩
    . rw[out b m] at z;exact R.ext.there b o z
  . by_cases m:b∈a :: bs
    . rw[sA b m] at z;exact z
    . rw[out b m] at z;exact R.ext.jA b o u z
  . have m:c∈bs:=List.mem_of_getElem? h1
    have e:ds=[]:=by
      have:=List.mem_of_getElem? h2
      exact List.eq_of_mem_replicate this
    subst e
    exact⟨[],by rw[sA c (List.mem_cons_of_mem _ m)];exact hb c m,.nil⟩
end
open Classical in
noncomputable def p9 (i:Nat) (g:GN) (S:SS) (n:Nat):Option SS:=
 if h:∃r,∀a,(g a (S.set i (some (.f a))) (List.replicate n [])).map (fun q=>q.1.set i (some (.t (.lst (q.2.map D.lst)))))=some r then some (Classical.choose h) else none
theorem wC {i:Nat}{g:GN}{S r:SS}{n:Nat}(h:p9 i g S n=some r) (a:Addr):∃S' nest,g a (S.set i (some (.f a))) (List.replicate n [])=some (S',nest)/\r=S'.set i (some (.t (.lst (nest.map D.lst)))):=by
 unfold p9 at h
 split at h
 ·rename_i hx
  cases h
  obtain⟨⟨S',nest⟩,e,q⟩:=au (Classical.choose_spec hx a)
  exact⟨S',nest,e,q.symm⟩
 ·cases h
theorem Ar {i:Nat}{g:GN}{S r:SS}{n:Nat}(h:∀a,(g a (S.set i (some (.f a))) (List.replicate n [])).map (fun q=>q.1.set i (some (.t (.lst (q.2.map D.lst)))))=some r):p9 i g S n=some r:=by
 unfold p9
 rw[dif_pos ⟨r,h⟩]
 have:=Classical.choose_spec (⟨r,h⟩:∃r,∀a,(g a (S.set i (some (.f a))) (List.replicate n [])).map (fun q=>q.1.set i (some (.t (.lst (q.2.map D.lst)))))=some r) 0
 rw[h 0] at this
 exact congrArg some (Option.some.inj this).symm
noncomputable def BC (i:Nat) (gi:GI) (g:GN):GS:=fun S=>(gi S).bind fun p=>match p.2[i]? with
 | some (some (.b _))=>none
 | some _=>if p.1.length<=100000 then(p9 i g p.2 p.1.length).map .nx else none
 | none=>none
section
variable {X:Cx}{iter:Expr}{st2:Stmt}{rest:List Stmt}{gi:GI}{g:GN}{gr:GS}{i:Nat}{pos px py pe spos:Pos}{x y:Str}{scope:Scope}{cl:List (Str×Addr)}
theorem HA (hN : X.N.Nodup) (hy : X.N[i]? = some y) (hx : Loc X.env.scope y) (T : iF X x [] [] scope cl) (hc : X.calm = true) (hi : JI X (.Name x px) iter gi) (h2 : JN X i st2 g) (hr : JB X rest gr)
    (hsw:swapsWith (.ListComp (.List [] pe) [⟨.Name x px,iter,[],0⟩] scope pos) (some (.Name y py)) spos.line X.env=pure true:=by rfl) (hf:X.fn y=true\/X.env.scope.names.lookup y=some .local:=by first | exact .inl rfl | exact .inr rfl | assumption)
    (hs:∀x,foldedSetIterable iter X.env x=pure x:=by intro _;rfl):
    JB X (.Assign [.Name y py] (.ListComp (.List [] pe) [⟨.Name x px,iter,[],0⟩] scope pos) spos :: st2 :: rest) (aR (BC i gi g) gr):=⟨fun B=>by
  refine(sM (x9 T hc (hi.h B) (fun C s H fp=>Bl) (fun C s H fp=>DI oX) hs hN hy hx hsw hf) (sM (h2.h B) (hr.h B))).imp fun D σ H ⟨S,F,o,R,h,k⟩=>?_
  obtain⟨o1,e1,h⟩:=ah h
  obtain⟨⟨ds,S1⟩,h1,e1⟩:=ah e1
  dsimp only at e1
  split at e1
  . cases e1
  . rename_i w hi1 hnb
    obtain⟨hlen,e1⟩:=kR e1
    obtain⟨r,h3,e1⟩:=au e1
    cases e1
    have hil:i < S1.length:=(List.getElem?_eq_some_iff.mp hnb).1
    refine⟨S,F,ds,S1,R,h1,fun J F1 H1 R1 st1 w=>?_⟩
    refine⟨fun n m ys H'=>∃bs:List Addr,ys=bs.map V.ref/\bs.length=n/\n<=ds.length/\m=ds.length - n/\iC F1 H1 F1 H'/\Sub F1 H'/\bs.Nodup/\∀c,c∈bs->H' c=some (.lst [])/\H1 c=none,⟨_,[],rfl,rfl,Nat.zero_le _,rfl,iC.refl ..,R1.sub,List.nodup_nil,fun c hc=>(by cases hc)⟩,?_⟩
    rintro n m ys H' ⟨bs,rfl,SQ,hn,rfl,nw,sb,nd,hb⟩
    refine⟨by rw[List.length_map,SQ];exact Nat.lt_of_le_of_lt (Nat.le_trans hn hlen) (by decide),?_⟩
    have w':=w F1 H' (fun _ _ z=>z) sb n
    by_cases hlt:n < ds.length
    . have hd:ds[n]? =some ds[n]:=List.getElem?_eq_getElem hlt
      obtain⟨go,yl⟩:=w'.1 _ hd
      refine .inr ⟨go,fun xv H3 y=>?_⟩
      obtain⟨rfl,rx⟩:=yl xv H3 y
      simp only[NN,↓reduceIte]
      refine⟨by show 0<=_;exact Nat.zero_le _,fun p hp=>⟨ds.length - (n+1),by omega,bs++[p],by rw[List.map_append];rfl,by rw[List.length_append,SQ];rfl,hlt,rfl,nw.trans (iC.obj hp _),sb.same (iC.obj (F:=F1) hp (.lst [])).same,?_,fun c hc=>?_⟩⟩
      . rw[List.nodup_append]
        refine⟨nd,by simp,fun c hc d hd e=>?_⟩
        rw[List.mem_singleton] at hd
        rw[<-e,] at hd
        rw[<-hd] at hp
        rw[(hb c hc).1] at hp
        cases hp
      . have old:H1 p=none:=none_of (fun b o z=>⟨o,nw.same b o z⟩) hp
        rcases List.mem_append.mp hc with m | m
        . have ne:c≠p:=fun e=>by rw[e] at m;rw[(hb p m).1] at hp;cases hp
          exact⟨by rw[aE ne];exact(hb c m).1,(hb c m).2⟩
        . rw[List.mem_singleton.mp m]
          exact⟨aV,old⟩
    . have e:n=ds.length:=by omega
      subst e
      refine .inl ⟨w'.2 (Nat.le_refl _),fun p hp=>?_⟩
      have old:H1 p=none:=none_of (fun b o z=>⟨o,nw.same b o z⟩) hp
      have Xf:=nw.trans (iC.obj (F:=F1) hp (.lst (bs.map V.ref)))
      have R2:=R1.new Xf (R1.sub.same Xf.same)
      have Xg:p∉bs:=fun m=>by rw[(hb p m).1] at hp;cases hp
      have fresh:∀c,H1 c=none->F1 c=none/\¬cy S1 σ c/\B.H c=none/\¬B.M c/\B.F c=none:=fun c hc=>by
        have fc:=R1.sub.fresh hc
        refine⟨fc,fun mm=>?_,none_of R1.ext.there hc,fun mm=>?_,?_⟩
        . obtain⟨o,ho⟩:=R1.has mm;rw[hc] at ho;cases ho
        . obtain⟨q,hq⟩:=List.getElem?_of_mem mm
          obtain⟨g1,o,g2⟩:=R1.par q c hq
          obtain⟨v,g3,g4⟩:=R1.rep q _ g2
          rw[g1] at g3
          cases g3
          obtain⟨c',g5,_,g6⟩:=g4
          cases g5
          obtain⟨u,g7⟩:=g6.has
          rw[hc] at g7
          cases g7
        . cases e:B.F c with
          | none=>rfl
          | some o=>rw[R1.ext.le c o e] at fc;cases fc
      have RN:=Hz R2 hil (fun o z=>by rw[hnb] at z;cases z;exact hi1 _ rfl) aV (fun c hc=>by rw[aE (fun e:c=p=>Xg (e▸hc))];exact(hb c hc).1) Xg nd fun c hc=>by
        rcases List.mem_cons.mp hc with rfl | m
        . exact fresh c old
        . exact fresh c (hb c m).2
      rw[SQ] at RN
      obtain⟨S2,nest,e4,rfl⟩:=wC h3 p
      refine⟨_,F1,p,_,S2,nest,RN,List.getElem?_set_self hil,e4,fun σ' F' H2 ⟨B2,cs,R3⟩ Ot le=>?_⟩
      obtain⟨F3,R4,Y0⟩:=R3.freeze Ot
      exact⟨_,F3,o,R4,h,k.mono fun b o z=>Y0 b o (le b o (st1.ext.le b o z))⟩
  . cases e1⟩
end
noncomputable def As (gk gv:GD):GE:=fun S=>(gk S).bind fun p=>match p.1 with
 | .int k=>(gv p.2).map fun q=>(.m (.dct [(.inl k,q.1)]),q.2)
 | _=>none
section
variable {X:Cx}{e1 e2:Expr}{pos:Pos}{gk gv:GD}
theorem EA (hk:JD X e1 gk) (hv:JD X e2 gv):JE X (.Dict [some e1] [e2] pos) (As gk gv):=⟨fun B=>(G0 (xV (hk.h B) (hv.h B) Be) rfl rfl (by simp) (by show 1<=15;decide)).imp fun σ H Q ⟨S,F,u,S',R,hg,q⟩=>by
 obtain⟨⟨d1,S1⟩,h1,hg⟩:=ah hg
 dsimp only at hg
 split at hg
 ·rename_i k
  obtain⟨⟨d2,S2⟩,h2,hg⟩:=au hg
  cases hg
  intro p hp
  have n:=iC.obj (F:=F) hp (.dK [])
  have hn:¬cy S σ p:=fun m=>by obtain⟨o,ho⟩:=R.has m;rw[hp] at ho;cases ho
  refine⟨S,F,_,S1,R.new n (R.sub.same n.same),h1,fun v1 F1 H1 R1 st1 r1=>?_⟩
  refine⟨S1,F1,_,S2,R1,h2,fun v2 F2 H2 R2 st2 r2=>?_⟩
  have st:=st1.trans st2
  have hp1:H2 p=some (.dK []):=st.ext.keep p _ aV hn
  have hf1:F2 p=none:=st.ext.ig p _ aV hn (R.sub.fresh hp)
  have hn1:¬cy S2 σ p:=fun m=>hn (st.mu p m)
  have hB:B.H p=none:=none_of R.ext.there hp
  refine⟨hp1,[(.inl k,v2)],by rw[i9 r1];rfl,by show 1<=15;decide,?_⟩
  have R3:=R2.Oe (o':=.dK (qq [] [(.inl k,v2)])) hn1 hf1 hB hp1 (fun _ _ z=>by cases z)
  refine q (.ref p) F2 _ R3 ⟨⟨st.ext.le,fun b o z m=>?_,fun b o z m f=>?_,fun b o z=>?_,fun b ob w z=>?_⟩,st.mu,st.slots⟩ ⟨p,rfl,hp,hf1,⟨_,aV,.cons ⟨rfl,r2⟩ .nil⟩,hn1,hB⟩
  ·have hb:b≠p:=bu z hp
   rw[aE hb]
   exact st.ext.keep b o (by rw[aE hb];exact z) m
  ·have hb:b≠p:=bu z hp
   exact st.ext.ig b o (by rw[aE hb];exact z) m f
  ·have hb:b≠p:=bu z hp
   rw[aE hb]
   exact st.ext.there b o (by rw[aE hb];exact z)
  ·have hb:b≠p:=bu z hp
   rw[aE hb]
   exact st.ext.jA b ob w (by rw[aE hb];exact z)
 ·cases hg⟩
end
@[simp] theorem OA (gk gv:GD) (S:SS):As gk gv S=(gk S).bind fun p=>match p.1 with | .int k=>(gv p.2).map fun q=>(.m (.dct [(.inl k,q.1)]),q.2) | _=>none:=rfl
@[simp] theorem ML (k x:D):p8 [.lst [.tup [k,x]]]=(keyOf k).map fun q1=>.m (.dct [(q1,x)]):=rfl
noncomputable abbrev BD (h:Heap) (N:Nat) (f0:Value) (f1:Bool):Prop:=
 h.get? (N+4)=some {cls:=.type "zip",dict:=none,data:=.fields #[f0,.bool f1,.bool false,.ref (N+2),.ref (N+3)],slots:=#[]}
structure HB (N:Nat) (k0 k1:Bool) (l0 l1:Nat) (i:Nat) (h:Heap):Prop where
 z:∃f0 f1,BD h N f0 f1/\(f0= .none\/∃a:Nat,f0=rawInt a)
 ti:TupAt h (N+2) #[.ref N,.ref (N+1)]
 to:∃v:List Value,v.length=2/\TupAt h (N+3) v.toArray
 c0:mG k0 h N l0 i
 c1:mG k1 h (N+1) l1 i
section
variable {prog:Program}{w:World}{A:Around}{E:Value->Shared->Prop}{s:Shared}
theorem JM {N:Nat}{f0:Value}{f1:Bool}{Q:Bool->Shared->Prop}(hz:BD s.heap N f0 f1) (hf:f0= .none\/∃a:Nat,f0=rawInt a) (qt:Q true s)
  (qf:∀h',BD h' N f0 true->Heap.SameBut (N+4) s.heap h'->Q false {s with heap:=h'}):wpAny (model prog w) A (Builtin.SmallTypes.ownedTupleIsFree (.ref (N+4))) Q E s:=by
 unfold Builtin.SmallTypes.ownedTupleIsFree
 refine wpAny_bind (wpAny_field hz rfl (x:=f0) rfl ?_)
 rcases hf with rfl | ⟨a,rfl⟩
 ·exact wpAny_pure qt
 ·show wpAny _ _ (loadIfAlive (Int.toNat (a:Int)) >>= _) _ _ _
  refine wpAny_bind (fun Γ p hΓ=>?_)
  show Sem.wp _ _ (Sem.loadIfAlive _ Sem.pure) _ _ _ _
  rw[Sem.wp_loadIfAlive]
  refine wpAny_pure ?_ Γ p hΓ
  cases hg:s.heap.get? (Int.toNat (a:Int)) with
  | none=>exact wpAny_pure qt
  | some o=>
   show wpAny _ _ (field (.ref (N+4)) 1 >>= _) _ _ _
   refine wpAny_bind (wpAny_field hz rfl (x:=.bool f1) rfl ?_)
   cases f1 with
   | true=>exact wpAny_pure (qf s.heap hz (Heap.SameBut.refl ..))
   | false=>exact wpAny_bind (wpAny_setField_rec hz (by simp) fun h' z e=>wpAny_pure (qf h' z e))
theorem EB {N i:Nat}{k0 k1:Bool}{l0 l1:Nat}{v0 v1:Array Value}{x0 x1:Value}{Q:Option Value->Shared->Prop}(st:HB N k0 k1 l0 l1 i s.heap)
  (Gu:q8 k0 s.heap l0 v0) (CW:v0[i]? =some x0) (Qg:l0 < N)
  (Gv:q8 k1 s.heap l1 v1) (EC:v1[i]? =some x1) (Qh:l1 < N)
  (q:∀h',HB N k0 k1 l0 l1 (i+1) h'->TupAt h' s.heap.objs.size #[x0,x1]->(∀(b:Nat) o,b∉mC N->s.heap.get? b=some o->h'.get? b=some o)->Q (some (.ref s.heap.objs.size)) {s with heap:=h'}):
  wpAny (model prog w) A (pyNext (.ref (N+4))) Q E s:=by
 obtain⟨⟨f0,f1,hz,Qi⟩,hTI,⟨w0,hw0,hTO⟩,d0,d1⟩:=st
 obtain⟨a0,a1,rfl⟩:∃a0 a1,w0=[a0,a1]:=by
  match w0,hw0 with
  | [a0,a1],_=>exact⟨_,_,rfl⟩
 have hT:s.TypeIs (.ref (N+4)) "zip":=⟨_,hz,rfl⟩
 unfold pyNext
 refine wpAny_bind (wpAny_attempt (wpAny_callSpecial?_slot (name:=Str.ofString "__next__") hT F.slot_zip_next (wpAny_call_entry F.slot_zip_next hT F.entry_zip_next ?_ (F.args_zip_next_1 _))))
 show wpAny _ _ (field (.ref (N+4)) 2 >>= _) _ _ _;refine wpAny_bind (wpAny_field hz rfl (x:=.bool false) rfl ?_)
 show wpAny _ _ (field (.ref (N+4)) 3 >>= _) _ _ _;refine wpAny_bind (wpAny_field hz rfl (x:=.ref (N+2)) rfl ?_)
 refine wpAny_bind (wpAny_seqItems hTI rfl ?_);show wpAny _ _ (Builtin.SmallTypes.ownedTupleIsFree (.ref (N+4)) >>= _) _ _ _
 refine wpAny_bind (JM hz Qi ?_ fun g0 z0 e0=>?_)
 ·simp only[if_true];refine wpAny_bind (wpAny_rule ?_);refine wpAny_bind (wpAny_field hz rfl (x:=.ref (N+3)) rfl ?_)
  refine wpAny_bind (wpAny_setField_rec hz (by simp) fun g0 z0 e0=>?_)
  have z0:BD g0 N .ellipsis f1:=z0
  have e0:Heap.SameBut (N+4) s.heap g0:=e0
  refine wpAny_bind ?_;simp only[List.zipIdx_cons,List.zipIdx_nil,List.forIn_cons,List.forIn_nil]
  have t0:TupAt g0 (N+3) #[a0,a1]:=(e0.2 _ (by first | omega | (show @Ne Nat _ _;omega))).trans hTO
  have m0:∀(b:Nat) o,b∉mC N->s.heap.get? b=some o->g0.get? b=some o:=fun b o hb y=>(e0.2 b fun z=>hb (bq.mpr (by have z:@Eq Nat b _:=z;omega))).trans y
  have HC:mG k0 g0 N l0 i:=d0.at fun o y=>(e0.2 _ (by first | omega | (show @Ne Nat _ _;omega))).trans y
  have Au:mG k1 g0 (N+1) l1 i:=d1.at fun o y=>(e0.2 _ (by first | omega | (show @Ne Nat _ _;omega))).trans y
  refine wpAny_bind (wpAny_bind (wpAny_onRaise ?_));show wpAny _ _ (Builtin.SmallTypes.nextOf (.ref N) >>= _) _ _ _
  refine wpAny_bind (nextK HC (Gu.at fun o y=>m0 _ o (fun z=>by have:=bq.mp z;omega) y) CW fun g1 c0 e1=>wpAny_pure ?_)
  have e1:Heap.SameBut N g0 g1:=e1
  have t1:TupAt g1 (N+3) #[a0,a1]:=(e1.2 _ (by first | omega | (show @Ne Nat _ _;omega))).trans t0
  refine wpAny_bind (wpAny_seqItems t1 rfl ?_);refine wpAny_bind (Lm t1 (show 2<=sizeLine by decide) fun g2 t2 e2=>?_)
  have t2:TupAt g2 (N+3) #[x0,a1]:=t2
  have e2:Heap.SameBut (N+3) g1 g2:=e2
  have z1:BD g2 N .ellipsis f1:=(e2.2 _ (by first | omega | (show @Ne Nat _ _;omega))).trans ((e1.2 _ (by first | omega | (show @Ne Nat _ _;omega))).trans z0)
  have m2:∀(b:Nat) o,b∉mC N->s.heap.get? b=some o->g2.get? b=some o:=fun b o hb y=>(e2.2 b fun z=>hb (bq.mpr (by have z:@Eq Nat b _:=z;omega))).trans ((e1.2 b fun z=>hb (bq.mpr (by have z:@Eq Nat b _:=z;omega))).trans (m0 b o hb y))
  refine wpAny_bind (wpAny_letGo (wpAny_pure ?_))
  have c0:mG k0 g2 N l0 (i+1):=c0.at fun o y=>(e2.2 _ (by first | omega | (show @Ne Nat _ _;omega))).trans y
  have Au:mG k1 g2 (N+1) l1 i:=Au.at fun o y=>(e2.2 _ (by first | omega | (show @Ne Nat _ _;omega))).trans ((e1.2 _ (by first | omega | (show @Ne Nat _ _;omega))).trans y)
  have i0:g2.get? (N+2)=s.heap.get? (N+2):=by rw[e2.2 _ (by first | omega | (show @Ne Nat _ _;omega)),e1.2 _ (by first | omega | (show @Ne Nat _ _;omega)),e0.2 _ (by first | omega | (show @Ne Nat _ _;omega))]
  have s0:g2.objs.size=s.heap.objs.size:=by rw[e2.1,e1.1,e0.1]
  refine wpAny_bind (wpAny_bind (wpAny_onRaise ?_));show wpAny _ _ (Builtin.SmallTypes.nextOf (.ref (N+1)) >>= _) _ _ _
  refine wpAny_bind (nextK Au (Gv.at fun o y=>m2 _ o (fun z=>by have:=bq.mp z;omega) y) EC fun g3 c1 e3=>wpAny_pure ?_)
  have e3:Heap.SameBut (N+1) g2 g3:=e3
  have t3:TupAt g3 (N+3) #[x0,a1]:=(e3.2 _ (by first | omega | (show @Ne Nat _ _;omega))).trans t2
  refine wpAny_bind (wpAny_seqItems t3 rfl ?_);refine wpAny_bind (Lm t3 (show 2<=sizeLine by decide) fun g4 t4 e4=>?_)
  have t4:TupAt g4 (N+3) #[x0,x1]:=t4
  have e4:Heap.SameBut (N+3) g3 g4:=e4
  have z2:BD g4 N .ellipsis f1:=(e4.2 _ (by first | omega | (show @Ne Nat _ _;omega))).trans ((e3.2 _ (by first | omega | (show @Ne Nat _ _;omega))).trans z1)
  have m4:∀(b:Nat) o,b∉mC N->s.heap.get? b=some o->g4.get? b=some o:=fun b o hb y=>(e4.2 b fun z=>hb (bq.mpr (by have z:@Eq Nat b _:=z;omega))).trans ((e3.2 b fun z=>hb (bq.mpr (by have z:@Eq Nat b _:=z;omega))).trans (m2 b o hb y))
  refine wpAny_bind (wpAny_letGo (wpAny_pure (wpAny_pure ?_)))
  have c0:mG k0 g4 N l0 (i+1):=c0.at fun o y=>(e4.2 _ (by first | omega | (show @Ne Nat _ _;omega))).trans ((e3.2 _ (by first | omega | (show @Ne Nat _ _;omega))).trans y)
  have c1:mG k1 g4 (N+1) l1 (i+1):=c1.at fun o y=>(e4.2 _ (by first | omega | (show @Ne Nat _ _;omega))).trans y
  have i1:g4.get? (N+2)=s.heap.get? (N+2):=by rw[e4.2 _ (by first | omega | (show @Ne Nat _ _;omega)),e3.2 _ (by first | omega | (show @Ne Nat _ _;omega)),i0]
  have s1:g4.objs.size=s.heap.objs.size:=by rw[e4.1,e3.1,s0]
  refine wpAny_bind (wpAny_seqItems t4 rfl ?_);refine wpAny_bind (wpAny_newTuple ?_)
  have Xh:(N+4) < g4.objs.size:=Heap.lt_size z2
  show wpAny _ _ (Builtin.SmallTypes.ownedTupleHandOut (.ref (N+4)) (.ref g4.objs.size) >>= _) _ _ _;refine wpAny_bind ?_;unfold Builtin.SmallTypes.ownedTupleHandOut
  have y0:BD (g4.push {cls:=.type "tuple",data:=.seq #[x0,x1]}) N .ellipsis f1:=Heap.get?_push_of_some _ z2
  refine wpAny_bind (wpAny_setField_rec y0 (by simp) fun Y3 y1 r1=>?_)
  have y1:BD Y3 N (rawInt g4.objs.size) f1:=y1
  refine wpAny_setField_rec y1 (by simp) fun Qj y2 r2=>?_
  have y2:BD Qj N (rawInt g4.objs.size) false:=y2
  have up:∀b o,b≠(N+4)->g4.get? b=some o->Qj.get? b=some o:=fun b o hb y=>r2.extBut _ _ hb (r1.extBut _ _ hb (Heap.get?_push_of_some _ y))
  have tt:TupAt Qj g4.objs.size #[x0,x1]:=r2.extBut _ _ (Nat.ne_of_gt Xh) (r1.extBut _ _ (Nat.ne_of_gt Xh) (Heap.get?_push_size _ rfl))
  rw[s1] at y2 tt
  refine wpAny_pure ⟨_,rfl,wpAny_pure ?_⟩
  rw[s1]
  exact q Qj ⟨⟨_,_,y2,.inr ⟨_,rfl⟩⟩,up _ _ (by first | omega | (show @Ne Nat _ _;omega)) (i1.trans hTI),⟨[x0,x1],rfl,up _ _ (by first | omega | (show @Ne Nat _ _;omega)) t4⟩,c0.at fun o y=>up _ o (by first | omega | (show @Ne Nat _ _;omega)) y,c1.at fun o y=>up _ o (by first | omega | (show @Ne Nat _ _;omega)) y⟩ tt fun b o hb y=>up b o (fun z=>hb (bq.mpr (by have z:@Eq Nat b _:=z;omega))) (m4 b o hb y)
 ·simp only[Bool.false_eq_true,if_false]
  have g0z:Heap.SameBut (N+4) s.heap g0:=e0
  have m0:∀(b:Nat) o,b∉mC N->s.heap.get? b=some o->g0.get? b=some o:=fun b o hb y=>(e0.2 b fun z=>hb (bq.mpr (by have z:@Eq Nat b _:=z;omega))).trans y
  have HC:mG k0 g0 N l0 i:=d0.at fun o y=>(e0.2 _ (by first | omega | (show @Ne Nat _ _;omega))).trans y
  have Au:mG k1 g0 (N+1) l1 i:=d1.at fun o y=>(e0.2 _ (by first | omega | (show @Ne Nat _ _;omega))).trans y
  refine wpAny_bind ?_
  simp only[<-Array.forIn_toList,List.forIn_cons,List.forIn_nil]
  refine wpAny_bind (wpAny_bind (wpAny_holding ?_));show wpAny _ _ (Builtin.SmallTypes.nextOf (.ref N) >>= _) _ _ _
  refine wpAny_bind (nextK HC (Gu.at fun o y=>m0 _ o (fun z=>by have:=bq.mp z;omega) y) CW fun g1 c0 e1=>wpAny_pure ?_)
  have e1:Heap.SameBut N g0 g1:=e1
  have m1:∀(b:Nat) o,b∉mC N->s.heap.get? b=some o->g1.get? b=some o:=fun b o hb y=>(e1.2 b fun z=>hb (bq.mpr (by have z:@Eq Nat b _:=z;omega))).trans (m0 b o hb y)
  have Au:mG k1 g1 (N+1) l1 i:=Au.at fun o y=>(e1.2 _ (by first | omega | (show @Ne Nat _ _;omega))).trans y
  refine wpAny_pure ?_
  refine wpAny_bind (wpAny_bind (wpAny_holding ?_));show wpAny _ _ (Builtin.SmallTypes.nextOf (.ref (N+1)) >>= _) _ _ _
  refine wpAny_bind (nextK Au (Gv.at fun o y=>m1 _ o (fun z=>by have:=bq.mp z;omega) y) EC fun g2 c1 e2=>wpAny_pure ?_)
  have e2:Heap.SameBut (N+1) g1 g2:=e2
  have m2:∀(b:Nat) o,b∉mC N->s.heap.get? b=some o->g2.get? b=some o:=fun b o hb y=>(e2.2 b fun z=>hb (bq.mpr (by have z:@Eq Nat b _:=z;omega))).trans (m1 b o hb y)
  refine wpAny_pure (wpAny_pure ?_)
  refine wpAny_bind (wpAny_newTuple ?_ (hsz:=show 2<=sizeLine by decide))
  have sz:g2.objs.size=s.heap.objs.size:=by rw[e2.1,e1.1,e0.1]
  have up:∀b o,g2.get? b=some o->(g2.push {cls:=.type "tuple",data:=.seq #[x0,x1]}).get? b=some o:=fun b o y=>Heap.get?_push_of_some _ y
  refine wpAny_pure ⟨_,rfl,wpAny_pure ?_⟩
  have tt:TupAt (g2.push {cls:=.type "tuple",data:=.seq #[x0,x1]}) g2.objs.size #[x0,x1]:=Heap.get?_push_size _ rfl
  rw[sz] at tt
  show Q (some (.ref g2.objs.size)) _
  rw[sz]
  exact q _ ⟨⟨_,_,up _ _ ((e2.2 _ (by first | omega | (show @Ne Nat _ _;omega))).trans ((e1.2 _ (by first | omega | (show @Ne Nat _ _;omega))).trans z0)),Qi⟩,up _ _ ((e2.2 _ (by first | omega | (show @Ne Nat _ _;omega))).trans ((e1.2 _ (by first | omega | (show @Ne Nat _ _;omega))).trans ((e0.2 _ (by first | omega | (show @Ne Nat _ _;omega))).trans hTI))),⟨[a0,a1],rfl,up _ _ ((e2.2 _ (by first | omega | (show @Ne Nat _ _;omega))).trans ((e1.2 _ (by first | omega | (show @Ne Nat _ _;omega))).trans ((e0.2 _ (by first | omega | (show @Ne Nat _ _;omega))).trans hTO)))⟩,c0.at fun o y=>up _ o ((e2.2 _ (by first | omega | (show @Ne Nat _ _;omega))).trans y),c1.at fun o y=>up _ o y⟩ tt fun b o hb y=>up b o (m2 b o hb y)
theorem HD {N i : Nat} {k0 k1 : Bool} {l0 l1 : Nat} {v0 v1 : Array Value} {Q : Option Value -> Shared -> Prop} (hn : A.handled = none) (st : HB N k0 k1 l0 l1 i s.heap)
    (Gu:q8 k0 s.heap l0 v0) (Qg:l0 < N)
    (Gv:q8 k1 s.heap l1 v1) (Qh:l1 < N)
    (hend:v0[i]? =none\/v1[i]? =none)
    (q:∀h',(∀(b:Nat) o,b∉mC N->s.heap.get? b=some o->h'.get? b=some o)->Q none {s with heap:=h'}):
    wpAny (model prog w) A (pyNext (.ref (N+4))) Q E s:=by
  obtain⟨⟨f0,f1,hz,Qi⟩,hTI,⟨w0,hw0,hTO⟩,d0,d1⟩:=st
  obtain⟨a0,a1,rfl⟩:∃a0 a1,w0=[a0,a1]:=by
    match w0,hw0 with
    | [a0,a1],_=>exact⟨_,_,rfl⟩
  have hT:s.TypeIs (.ref (N+4)) "zip":=⟨_,hz,rfl⟩
  unfold pyNext
  refine wpAny_bind (wpAny_attempt (wpAny_callSpecial?_slot (name:=Str.ofString "__next__") hT F.slot_zip_next (wpAny_call_entry F.slot_zip_next hT F.entry_zip_next ?_ (F.args_zip_next_1 _))))
  show wpAny _ _ (field (.ref (N+4)) 2 >>= _) _ _ _;refine wpAny_bind (wpAny_field hz rfl (x:=.bool false) rfl ?_)
  show wpAny _ _ (field (.ref (N+4)) 3 >>= _) _ _ _;refine wpAny_bind (wpAny_field hz rfl (x:=.ref (N+2)) rfl ?_)
  refine wpAny_bind (wpAny_seqItems hTI rfl ?_);show wpAny _ _ (Builtin.SmallTypes.ownedTupleIsFree (.ref (N+4)) >>= _) _ _ _
  refine wpAny_bind (JM hz Qi ?_ fun g0 z0 e0=>?_)
  . simp only[if_true];refine wpAny_bind (wpAny_rule ?_);refine wpAny_bind (wpAny_field hz rfl (x:=.ref (N+3)) rfl ?_)
    refine wpAny_bind (wpAny_setField_rec hz (by simp) fun g0 z0 e0=>?_)
    have z0:BD g0 N .ellipsis f1:=z0
    have e0:Heap.SameBut (N+4) s.heap g0:=e0
    refine wpAny_bind ?_;simp only[List.zipIdx_cons,List.zipIdx_nil,List.forIn_cons,List.forIn_nil]
    have t0:TupAt g0 (N+3) #[a0,a1]:=(e0.2 _ (by first | omega | (show @Ne Nat _ _;omega))).trans hTO
    have m0:∀(b:Nat) o,b∉mC N->s.heap.get? b=some o->g0.get? b=some o:=fun b o hb y=>(e0.2 b fun z=>hb (bq.mpr (by have z:@Eq Nat b _:=z;omega))).trans y
    have HC:mG k0 g0 N l0 i:=d0.at fun o y=>(e0.2 _ (by first | omega | (show @Ne Nat _ _;omega))).trans y
    have Au:mG k1 g0 (N+1) l1 i:=d1.at fun o y=>(e0.2 _ (by first | omega | (show @Ne Nat _ _;omega))).trans y
    refine wpAny_bind (wpAny_bind (wpAny_onRaise ?_));show wpAny _ _ (Builtin.SmallTypes.nextOf (.ref N) >>= _) _ _ _
    have ED:q8 k0 g0 l0 v0:=Gu.at fun o y=>m0 _ o (fun z=>by have:=bq.mp z;omega) y
    cases CW:v0[i]? with
    | none=>
      refine wpAny_bind (CM hn HC ED CW fun u1 e r1 he=>?_)
      have r1:Heap.ExtBut N g0 u1:=r1
      obtain⟨oe,EE,hce⟩:=he
      have y1:BD u1 N .ellipsis f1:=r1 _ _ (by first | omega | (show @Ne Nat _ _;omega)) z0
      have SR:e≠(N+4):=fun x=>by subst x;rw[y1] at EE;cases EE;simp at hce
      refine wpAny_setField_rec y1 (by simp) fun u2 _ r2=>?_
      have r2:Heap.SameBut (N+4) u1 u2:=r2
      refine wpAny_bind (wpAny_isInstance (T:="StopIteration") (b:=true) ⟨oe,r2.extBut _ _ SR EE,hce⟩ isSubtype_stop (wpAny_pure (q _ fun b o hb y=>r2.extBut _ _ (fun z=>hb (bq.mpr (by have z:@Eq Nat b _:=z;omega))) (r1 _ _ (fun z=>hb (bq.mpr (by have z:@Eq Nat b _:=z;omega))) (m0 b o hb y)))))
    | some x0=>
      refine wpAny_bind (nextK HC ED CW fun g1 c0 e1=>wpAny_pure ?_)
      have e1:Heap.SameBut N g0 g1:=e1
      have t1:TupAt g1 (N+3) #[a0,a1]:=(e1.2 _ (by first | omega | (show @Ne Nat _ _;omega))).trans t0
      refine wpAny_bind (wpAny_seqItems t1 rfl ?_);refine wpAny_bind (Lm t1 (show 2<=sizeLine by decide) fun g2 t2 e2=>?_)
      have t2:TupAt g2 (N+3) #[x0,a1]:=t2
      have e2:Heap.SameBut (N+3) g1 g2:=e2
      have z1:BD g2 N .ellipsis f1:=(e2.2 _ (by first | omega | (show @Ne Nat _ _;omega))).trans ((e1.2 _ (by first | omega | (show @Ne Nat _ _;omega))).trans z0)
      have m2:∀(b:Nat) o,b∉mC N->s.heap.get? b=some o->g2.get? b=some o:=fun b o hb y=>(e2.2 b fun z=>hb (bq.mpr (by have z:@Eq Nat b _:=z;omega))).trans ((e1.2 b fun z=>hb (bq.mpr (by have z:@Eq Nat b _:=z;omega))).trans (m0 b o hb y))
      refine wpAny_bind (wpAny_letGo (wpAny_pure ?_))
      have Au:mG k1 g2 (N+1) l1 i:=Au.at fun o y=>(e2.2 _ (by first | omega | (show @Ne Nat _ _;omega))).trans ((e1.2 _ (by first | omega | (show @Ne Nat _ _;omega))).trans y)
      refine wpAny_bind (wpAny_bind (wpAny_onRaise ?_));show wpAny _ _ (Builtin.SmallTypes.nextOf (.ref (N+1)) >>= _) _ _ _
      have Lr:q8 k1 g2 l1 v1:=Gv.at fun o y=>m2 _ o (fun z=>by have:=bq.mp z;omega) y
      cases EC:v1[i]? with
      | none=>
        refine wpAny_bind (CM hn Au Lr EC fun u1 e r1 he=>?_)
        have r1:Heap.ExtBut (N+1) g2 u1:=r1
        obtain⟨oe,EE,hce⟩:=he
        have y1:BD u1 N .ellipsis f1:=r1 _ _ (by first | omega | (show @Ne Nat _ _;omega)) z1
        have SR:e≠(N+4):=fun x=>by subst x;rw[y1] at EE;cases EE;simp at hce
        refine wpAny_setField_rec y1 (by simp) fun u2 _ r2=>?_
        have r2:Heap.SameBut (N+4) u1 u2:=r2
        refine wpAny_bind (wpAny_isInstance (T:="StopIteration") (b:=true) ⟨oe,r2.extBut _ _ SR EE,hce⟩ isSubtype_stop (wpAny_pure (q _ fun b o hb y=>r2.extBut _ _ (fun z=>hb (bq.mpr (by have z:@Eq Nat b _:=z;omega))) (r1 _ _ (fun z=>hb (bq.mpr (by have z:@Eq Nat b _:=z;omega))) (m2 b o hb y)))))
      | some x1=>
          exact absurd hend (by simp only[CW,EC];rintro(h | h) <;> cases h)
  . simp only[Bool.false_eq_true,if_false]
    have e0:Heap.SameBut (N+4) s.heap g0:=e0
    have m0:∀(b:Nat) o,b∉mC N->s.heap.get? b=some o->g0.get? b=some o:=fun b o hb y=>(e0.2 b fun z=>hb (bq.mpr (by have z:@Eq Nat b _:=z;omega))).trans y
    have HC:mG k0 g0 N l0 i:=d0.at fun o y=>(e0.2 _ (by first | omega | (show @Ne Nat _ _;omega))).trans y
    have Au:mG k1 g0 (N+1) l1 i:=d1.at fun o y=>(e0.2 _ (by first | omega | (show @Ne Nat _ _;omega))).trans y
    refine wpAny_bind ?_
    simp only[<-Array.forIn_toList,List.forIn_cons,List.forIn_nil]
    refine wpAny_bind (wpAny_bind (wpAny_holding ?_));show wpAny _ _ (Builtin.SmallTypes.nextOf (.ref N) >>= _) _ _ _
    have ED:q8 k0 g0 l0 v0:=Gu.at fun o y=>m0 _ o (fun z=>by have:=bq.mp z;omega) y
    cases CW:v0[i]? with
    | none=>
      refine wpAny_bind (CM hn HC ED CW fun u1 e r1 he=>?_)
      have r1:Heap.ExtBut N g0 u1:=r1
      obtain⟨oe,EE,hce⟩:=he
      refine wpAny_bind (wpAny_isInstance (T:="StopIteration") (b:=true) ⟨oe,EE,hce⟩ isSubtype_stop (wpAny_pure (q _ fun b o hb y=>(r1 _ _ (fun z=>hb (bq.mpr (by have z:@Eq Nat b _:=z;omega))) (m0 b o hb y)))))
    | some x0=>
      refine wpAny_bind (nextK HC ED CW fun g1 c0 e1=>wpAny_pure ?_)
      have e1:Heap.SameBut N g0 g1:=e1
      have m1:∀(b:Nat) o,b∉mC N->s.heap.get? b=some o->g1.get? b=some o:=fun b o hb y=>(e1.2 b fun z=>hb (bq.mpr (by have z:@Eq Nat b _:=z;omega))).trans (m0 b o hb y)
      have Au:mG k1 g1 (N+1) l1 i:=Au.at fun o y=>(e1.2 _ (by first | omega | (show @Ne Nat _ _;omega))).trans y
      refine wpAny_pure ?_
      refine wpAny_bind (wpAny_bind (wpAny_holding ?_));show wpAny _ _ (Builtin.SmallTypes.nextOf (.ref (N+1)) >>= _) _ _ _
      have Lr:q8 k1 g1 l1 v1:=Gv.at fun o y=>m1 _ o (fun z=>by have:=bq.mp z;omega) y
      cases EC:v1[i]? with
      | none=>
        refine wpAny_bind (CM hn Au Lr EC fun u1 e r1 he=>?_)
        have r1:Heap.ExtBut (N+1) g1 u1:=r1
        obtain⟨oe,EE,hce⟩:=he
        refine wpAny_bind (wpAny_isInstance (T:="StopIteration") (b:=true) ⟨oe,EE,hce⟩ isSubtype_stop (wpAny_pure (q _ fun b o hb y=>(r1 _ _ (fun z=>hb (bq.mpr (by have z:@Eq Nat b _:=z;omega))) (m1 b o hb y)))))
      | some x1=>
          exact absurd hend (by simp only[CW,EC];rintro(h | h) <;> cases h)
end
theorem HE {prog:Program}{w:World}{A:Around}{E:Value->Shared->Prop}{s:Shared}{N:Nat}{f0:Value}{f1:Bool}{Q:Value->Shared->Prop}(hz:BD s.heap N f0 f1) (h:Q (.ref (N+4)) s):wpAny (model prog w) A (pyIter (.ref (N+4))) Q E s:=by
 have hT:s.TypeIs (.ref (N+4)) "zip":=⟨_,hz,rfl⟩
 refine wpAny_pyIter_slot hT F.slot_zip_iter (wpAny_call_entry F.slot_zip_iter hT F.entry_zip_iter ?_ (F.args_zip_iter_1 _))
 show wpAny _ _ (ret (.ref (N+4))) _ _ s
 exact wpAny_pure ⟨_,rfl,"zip",_,hT,F.slot_zip_next.lookup,h⟩
theorem Av {P:Program}{w:World}{K:PySem.W.Frag}{nm:Str}{pos:Pos}(k0 k1:Bool) (l0 l1:Nat) (N:Nat) (Qg:l0 < N) (Qh:l1 < N):Turn P w K (.Name nm pos) (Oi K k0 k1 l0 l1) (mC N) (N+4) (fun i h=>HB N k0 k1 l0 l1 i h) where
 mem:=by rw[bq];omega
 obj:=fun i h ⟨⟨f0,f1,hz,_⟩,hTI,⟨w0,hw0,hTO⟩,d0,d1⟩ b hb=>by
  unfold mC at hb
  simp only[List.mem_cons,List.not_mem_nil,or_false] at hb
  rcases hb with rfl | rfl | rfl | rfl | rfl
  ·exact⟨_,hz,fun v z=>by cases z⟩
  ·exact⟨_,hTI,fun v z=>by cases z⟩
  ·exact⟨_,hTO,fun v z=>by cases z⟩
  ·exact d0.obj
  ·exact d1.obj
 keep:=fun i h h' ⟨⟨f0,f1,hz,hf⟩,hTI,⟨w0,hw0,hTO⟩,d0,d1⟩ g=>⟨⟨f0,f1,g _ (by rw[bq];omega) _ hz,hf⟩,g _ (by rw[bq];omega) _ hTI,⟨w0,hw0,g _ (by rw[bq];omega) _ hTO⟩,d0.at fun o q=>g _ (by rw[bq];omega) o q,d1.at fun o q=>g _ (by rw[bq];omega) o q⟩
 item:=by
  intro X hP hw hK hc i pins s σ H E I hf st hg
  subst hP hw hK
  obtain⟨a0,x0,a1,x1,⟨b0,CW⟩,⟨b1,EC⟩⟩:=hg
  obtain⟨OB,Qk,p0,hz0⟩:=I.Hl b0
  obtain⟨u0,Y4,Y5⟩:=Qk.get CW
  obtain⟨OC,Ql,p1,hz1⟩:=I.Hl b1
  obtain⟨u1,hu1,Y6⟩:=Ql.get EC
  have slt:∀b∈mC N,b < s.heap.objs.size:=fun b hb=>by obtain⟨_,_,hz,_⟩:=st.z;have h1:=bq.mp hb;have h2:@LT.lt Nat _ (N+4) s.heap.objs.size:=Heap.lt_size hz;show @LT.lt Nat _ b s.heap.objs.size;omega
  refine EB st p0 (by simpa using Y4) Qg p1 (by simpa using hu1) Qh fun h' st' hT hk=>?_
  refine⟨_,rfl,?_⟩
  show wpAny _ _ (pure ()) _ _ _
  refine wpAny_pure ?_
  have I2:Inv X pins σ (upd H s.heap.objs.size (.tup [x0,x1])) {s with heap:=h',toks:=s.toks}:=
   I.handed (its:=[u0,u1]) hf slt (fun b o hb q=>hk b o hb q) hT (.cons Y5 (.cons Y6 (.nil))) (show 2<=sizeLine by decide)
  refine⟨.ref s.heap.objs.size,_,I2,rfl,⟨_,x0,x1,I.fresh,rfl,rfl,fun ys hy=>by rw[I.wk hy b0];exact CW,fun ys hy=>by rw[I.wk hy b1];exact EC⟩,st',fun b hb=>?_⟩
  rw[aE (Nat.ne_of_lt (slt b hb))]
  exact(hf b hb).1
 done:=by
  intro X hP hw hK hc i pins s σ H E I hf st hg
  subst hP hw hK
  obtain⟨a0,a1,b0,b1,hend⟩:=hg
  obtain⟨OB,Qk,p0,hz0⟩:=I.Hl b0
  have hl0:=Qk.length
  obtain⟨OC,Ql,p1,hz1⟩:=I.Hl b1
  have hl1:=Ql.length
  refine HD (I.ok.hd hc) st p0 Qg p1 Qh ?_ fun h' hk=>⟨rfl,I.wm (t':=s.toks) hk hf⟩
  simp only[List.getElem?_toArray,List.getElem?_eq_none_iff]
  omega
 self:=fun _ _ _ _ _ st h=>by
  obtain⟨_,_,hz,_⟩:=st.z
  exact HE hz h
section
variable {X:Cx}{a b c e:Expr}{nm:Str}{pos p tpos:Pos}
theorem EF {ta:TA}(hg:Gl X "zip") (hm:X.mg "zip" =none) (ha:PA X [a,b] ta) (hs:starEach [a,b] X.env=[(false,eval a X.env),(false,eval b X.env)]:=by rfl) (hs2:starEach [b] X.env=[(false,eval b X.env)]:=by rfl):
  PI X (.Name nm tpos) (.Call (.Name "zip" p) [a,b] [] pos) (Ol X.K ta):=by
 intro pins s σ H R I h
 refine Call_ (mK I hg hm boot_zip (PyProof.Rows.callWith_type1 (fK (ha pos pins s σ H _ I h) fun us s1 ⟨vs,H1,I1,r1,q1⟩=>?_) (by rw[hs,hs2]) (by rw[hs2];rfl)))
 obtain⟨k0,k1,a0,a1,Qa,Qc,rfl,h0,h1,q⟩:=q1
 obtain⟨u0,u1,rfl,e0,e1⟩:=r1.two
 cases e0
 cases e1
 obtain⟨OB,Qk,p0,hz0⟩:=I1.Hl h0
 obtain⟨OC,Ql,p1,hz1⟩:=I1.Hl h1
 refine En p0 p1 fun h' st hk=>wpAny_pyIter_zip st.z ?_
 refine⟨_,mC s1.heap.objs.size,_,_,H1,rfl,I1.kept (t':=s1.toks) hk,Av k0 k1 a0 a1 s1.heap.objs.size p0.lt p1.lt,⟨⟨_,_,st.z,.inl rfl⟩,st.ti,st.to,st.c0,st.c1⟩,fun b hb=>?_,q⟩
 have hb:s1.heap.objs.size<=b:=(bq.mp hb).1
 exact I1.xO hb (I1.hok.fresh hb)
theorem yJ {gA : GA} (hg : Gl X "zip") (hm : X.mg "zip" = none) (ha : JA X [a, b] gA) (hs : starEach [a, b] X.env = [(false, eval a X.env), (false, eval b X.env)] := by rfl) (hs2 : starEach [b] X.env = [(false, eval b X.env)] := by rfl) :
    Oo X (.Name nm tpos) (.Call (.Name "zip" p) [a,b] [] pos) (tG gA):=
  ⟨fun B=>PI.orelse fun σ H R0 ⟨S,F,ds,S',R,hg',k⟩=>by
  obtain⟨⟨args,S1⟩,h1,hg'⟩:=ah hg'
  refine⟨_,EF hg hm (ha.h B) hs hs2,S,F,args,S1,R,h1,fun vs F1 H1 R1 st1 r1=>?_⟩
  dsimp only at hg'
  split at hg'
  . obtain⟨⟨k0,Y7⟩,h2,hg'⟩:=ah hg'
    obtain⟨⟨k1,es1⟩,h3,hg'⟩:=au hg'
    cases hg'
    cases r1 with
    | cons r rr=>
      cases rr with
      | cons r' rr=>
        cases rr
        obtain⟨a0,Qm,rfl,Xi,Gu⟩:=R1.sub.Eo (K:=X.K) r h2
        obtain⟨a1,Qn,rfl,oA,Gv⟩:=R1.sub.Eo (K:=X.K) r' h3
        refine⟨k0,k1,a0,a1,Qm,Qn,rfl,Gu F1 H1 (fun _ _ z=>z) R1.sub,Gv F1 H1 (fun _ _ z=>z) R1.sub,k _ F1 H1 R1 st1 fun F' H' le sb i=>⟨fun d hd=>?_,fun hl=>⟨Qm,Qn,Gu F' H' le sb,Gv F' H' le sb,?_⟩⟩⟩
        . rw[List.getElem?_zipWith] at hd
          cases q0:Y7[i]? with
          | none=>rw[q0] at hd;cases hd
          | some d0=>
            cases q1:es1[i]? with
            | none=>rw[q0,q1] at hd;cases hd
            | some d1=>
              rw[q0,q1] at hd
              cases hd
              obtain⟨v0,m0,n0⟩:=Xi.get q0
              obtain⟨v1,m1,n1⟩:=oA.get q1
              refine⟨⟨Qm,v0,Qn,v1,⟨Gu F' H' le sb,m0⟩,Gv F' H' le sb,m1⟩,fun x H2 y=>?_⟩
              obtain⟨p,y0,y1,hp,rfl,rfl,Y8,hy1⟩:=y
              have e0:=Y8 Qm (Gu F' H' le sb)
              have e1:=hy1 Qn (Gv F' H' le sb)
              rw[m0] at e0
              rw[m1] at e1
              cases e0
              cases e1
              have SV:=fun b o z=>mU (o:=.tup [v0,v1]) (sb.fresh hp) b o (le b o z)
              exact⟨_,iC.root sb hp _,sb.sV hp,.tup aV (.cons (n0.le SV) (.cons (n1.le SV) .nil))⟩
        . rw[List.length_zipWith,<-Xi.length,<-oA.length] at hl
          omega
  . cases hg'⟩
end
section
variable (S:SS) (d e:D) (o:MO) (i j:Nat) (g ga gb gc:GD) (ge:GE) (q q1 q2:GT) (gA:GA) (gu:GU) (a b:GS) (f f':List D->Option U) (fm:FM) (bd:GB) (gi:GI)
@[simp] theorem SW:ao i S=match S[i]? with | some (some (.t d))=>some (.t d,S) | some (some (.s d))=>some (.s d,S) | some (some (.f d))=>some (.f d,S) | some (some _)=>some (.v i,S) | _=>none:=rfl
@[simp] theorem Y9:eC d S=some (d,S):=rfl
@[simp] theorem SX:aq S=some ([],S):=rfl
@[simp] theorem Qo:aa g gA S=(g S).bind fun p=>(gA p.2).map fun q=>(p.1 :: q.1,q.2):=rfl
@[simp] theorem Za:eP f gA S=(gA S).bind fun p=>(f p.1).map fun u=>(u,p.2):=rfl
@[simp] theorem Zb:eF ge S=(ge S).bind fun p=>fz p.1 p.2:=rfl
@[simp] theorem Zc:eT g S=(g S).map fun p=>(.t p.1,p.2):=rfl
@[simp] theorem SY:fz (.t d) S=some (d,S):=rfl
@[simp] theorem S4 (ds:List D):fz (.m (.lst ds)) S=some (.lst ds,S):=rfl
@[simp] theorem S5:fz (.v i) S=match S[i]? with | some (some (.t d))=>some (d,S) | some (some (.m (.lst ds)))=>some (.lst ds,S.set i (some (.t (.lst ds)))) | _=>none:=rfl
@[simp] theorem Zd:qB g S=(g S).bind fun p=>match p.1 with | .bl k=>some (k,p.2) | _=>none:=rfl
@[simp] theorem S6:ux q S=(q S).map fun p=>(!p.1,p.2):=rfl
@[simp] theorem S7:yg q1 q2 S=(q1 S).bind fun p=>if p.1 then q2 p.2 else some (false,p.2):=rfl
@[simp] theorem Xj:P8 q1 q2 S=(q1 S).bind fun p=>if p.1 then some (true,p.2) else q2 p.2:=rfl
@[simp] theorem Ze:eQ q S=(q S).map fun p=>(.bl p.1,p.2):=rfl
@[simp] theorem Qp:aO S=some (true,S):=rfl
@[simp] theorem S8:kI S=some (.nx S):=rfl
@[simp] theorem S9:aR a b S=(a S).bind fun o=>match o with | .nx S1=>b S1 | o=>some o:=rfl
@[simp] theorem Tc:bz i ge S=(ge S).bind fun p=>match p.1 with | .m o=>(oB i (.m o) p.2).map .nx | u=>(fz u p.2).bind fun q=>(oB i (.t q.1) q.2).map .nx:=rfl
@[simp] theorem dO (u:U):oB i u S=match S[i]? with | some (some (.b _))=>none | some _=>some (S.set i (some u)) | none=>none:=rfl
@[simp] theorem Qq:jo ge S=(ge S).map fun p=>.nx p.2:=rfl
@[simp] theorem Td:ff ge S=(ge S).bind fun p=>match p.1 with
 | .v i=>match p.2[i]? with
  | some (some (.t d))=>some (.rt (.t d) p.2)
  | some (some (.m o))=>some (.rt (.m o) (p.2.set i none))
  | _=>none
 | .s _=>none
 | .f _=>none
 | u=>some (.rt u p.2):=rfl
@[simp] theorem Xk:uz q a b S=(q S).bind fun p=>if p.1 then a p.2 else b p.2:=rfl
@[simp] theorem Te:Eb bd g S=(g S).bind fun p=>(bd p.1 p.2).map .nx:=rfl
@[simp] theorem Qs:bName i d S=oB i (.t d) S:=rfl
@[simp] theorem wF:jX bd gi a S=(gi S).bind fun p=>loop bd a p.1 p.2:=rfl
@[simp] theorem Ls:CF g S=(g S).bind fun p=>match p.1 with | .tup ds=>some (ds,p.2) | .lst ds=>some (ds,p.2) | _=>none:=rfl
@[simp] theorem HF:iO gA S=(gA S).bind fun p=>match p.1 with | [.int j]=>if j < 1000000/\-1000000 < j then some (mD 0 j.toNat,p.2) else none | _=>none:=rfl
@[simp] theorem Lu:loop bd a [] S=some (.nx S):=rfl
@[simp] theorem Tf:bX S=some ([],S):=rfl
@[simp] theorem Tg:bg g gu S=(g S).bind fun p=>(gu p.2).map fun q=>(.t p.1 :: q.1,q.2):=rfl
@[simp] theorem Th:gY ge gu S=(ge S).bind fun p=>(gu p.2).map fun q=>(p.1 :: q.1,q.2):=rfl
@[simp] theorem Qt:bA fm gu S=(gu S).bind fun p=>if(slotsOf p.1).Nodup/\cN p.1<=1 then(cA p.2 p.1).bind fun us=>(fm us).bind fun r=>(wb p.1 r.2 p.2).map fun S2=>(r.1,S2) else none:=rfl
@[simp] theorem MM:cA S []=some []:=rfl
@[simp] theorem Lv (u:U) (us:List U):cA S (u :: us)=(resolve S u).bind fun w=>(cA S us).map fun ws=>w :: ws:=rfl
@[simp] theorem Qu:resolve S (.t d)=some (.t d):=rfl
@[simp] theorem Qv:resolve S (.m o)=some (.b o):=rfl
@[simp] theorem Qw (ns:List Int):resolve S (.s ns)=some (.s ns):=rfl
@[simp] theorem Qx:resolve S (.v i)=match S[i]? with | some (some (.m o))=>some (.b o) | some (some (.b o))=>some (.b o) | _=>none:=rfl
@[simp] theorem OD:slotsOf []=[]:=rfl
@[simp] theorem Ti (us:List U):slotsOf (.t d :: us)=slotsOf us:=rfl
@[simp] theorem Tj (us:List U):slotsOf (.m o :: us)=slotsOf us:=rfl
@[simp] theorem Tn (ns:List Int) (us:List U):slotsOf (.s ns :: us)=slotsOf us:=rfl
@[simp] theorem To (us:List U):slotsOf (.v i :: us)=i :: slotsOf us:=rfl
@[simp] theorem OE:cN []=0:=rfl
@[simp] theorem Tp (us:List U):cN (.t d :: us)=cN us:=rfl
@[simp] theorem Tq (us:List U):cN (.m o :: us)=cN us+1:=rfl
@[simp] theorem Tr (ns:List Int) (us:List U):cN (.s ns :: us)=cN us:=rfl
@[simp] theorem Tt (us:List U):cN (.v i :: us)=cN us:=rfl
@[simp] theorem OF:wb [] [] S=some S:=rfl
@[simp] theorem Tu (us:List U) (os:List MO):wb (.t d :: us) os S=wb us os S:=by cases os <;> rfl
@[simp] theorem Tv (us:List U) (os:List MO):wb (.m o :: us) (o' :: os) S=wb us os S:=rfl
@[simp] theorem Tw (us:List U) (os:List MO):wb (.v i :: us) (o :: os) S=match S[i]? with | some (some (.m _))=>wb us os (S.set i (some (.m o))) | some (some (.b _))=>wb us os (S.set i (some (.b o))) | _=>none:=rfl
@[simp] theorem Tz:aL i gb S=match S[i]? with | some (some _)=>(gb S).bind fun p=>(match p.2[i]? with | some (some u)=>(dz u p.1).map fun d=>(d,p.2) | _=>none) | _=>none:=rfl
@[simp] theorem TF:d7 i S=match S[i]? with | some (some u)=>(qy u).map fun n=>(.int (n:Nat),S) | _=>none:=rfl
@[simp] theorem Zf (h:List D->MO->Option (D×MO)):eM i h gA S=if xC S i then(gA S).bind fun p=>jq p.2 i (h p.1) else none:=rfl
@[simp] theorem TH (gk gv:GD):pX i gk gv S=(gv S).bind fun p=>match p.2[i]? with | some (some _)=>(gk p.2).bind fun r=>(jq r.2 i fun o=>(ir o r.1 p.1).map fun o'=>(.dh,o')).map fun z=>.nx z.2 | _=>none:=rfl
@[simp] theorem Lw (ds:List D) (k:Int):dz (.t (.tup ds)) (.int k)=cX ds k:=rfl
@[simp] theorem Lx (ds:List D) (k:Int):dz (.t (.lst ds)) (.int k)=cX ds k:=rfl
@[simp] theorem Ly (ds:List D) (k:Int):dz (.m (.lst ds)) (.int k)=cX ds k:=rfl
@[simp] theorem Lz (ds:List D) (k:Int):dz (.b (.lst ds)) (.int k)=cX ds k:=rfl
@[simp] theorem Aw (kvs:List (Key×D)) (k:D):dz (.m (.dct kvs)) k=(keyOf k).bind (bx kvs):=by cases k <;> rfl
@[simp] theorem Ax (kvs:List (Key×D)) (k:D):dz (.b (.dct kvs)) k=(keyOf k).bind (bx kvs):=by cases k <;> rfl
@[simp] theorem MN (ns:List Int) (k:Int):dz (.s ns) (.int k)=(cX ns k).map D.int:=rfl
@[simp] theorem Qy (k:Int):keyOf (.int k)=some (.inl k):=rfl
@[simp] theorem Qz (k:Str):keyOf (.str k)=some (.inr k):=rfl
@[simp] theorem MP (ds:List D):qy (.t (.tup ds))=some ds.length:=rfl
@[simp] theorem MQ (ds:List D):qy (.t (.lst ds))=some ds.length:=rfl
@[simp] theorem MR (ds:List D):qy (.m (.lst ds))=some ds.length:=rfl
@[simp] theorem MS (ds:List D):qy (.b (.lst ds))=some ds.length:=rfl
@[simp] theorem OG (ns:List Int):qy (.s ns)=some ns.length:=rfl
@[simp] theorem Xl (C:Int->Int->Bool) (h:Int->Int->D) (x y:Int):Gr C h [.int x,.int y]=if C x y then some (.t (h x y)) else none:=rfl
@[simp] theorem OH (x y:Int):kr [.int x,.int y]=some (.t (.int (x+y))):=rfl
@[simp] theorem OI (x y:Str):kr [.str x,.str y]=if x.length+y.length<=100000 then some (.t (.str (x++y))) else none:=rfl
@[simp] theorem OJ (x y:List D):kr [.tup x,.tup y]=if x.length+y.length<=100000 then some (.t (.tup (x++y))) else none:=rfl
@[simp] theorem OL (x y:List D):kr [.lst x,.lst y]=if x.length+y.length<=100000 then some (.m (.lst (x++y))) else none:=rfl
@[simp] theorem TJ (x y:Int):Ag [.int x,.int y]=if((decide (-(2 ^ 64) < x) && decide (x < 2 ^ 64)) || (decide (-(2 ^ 64) < y) && decide (y < 2 ^ 64))) then some (.t (.int (x * y))) else none:=rfl
@[simp] theorem TL (ds:List D):fE ds=if ds.length<=100000 then some (.t (.tup ds)) else none:=rfl
@[simp] theorem TM (ds:List D):gW ds=if ds.length<=100000 then some (.m (.lst ds)) else none:=rfl
@[simp] theorem QA (ds:List D) (k:Int):sY [.tup ds,.int k]=(cX ds k).map .t:=rfl
@[simp] theorem QB (ds:List D) (k:Int):sY [.lst ds,.int k]=(cX ds k).map .t:=rfl
@[simp] theorem Xm:xD [d,e]=if iS d<=40 then some (.t (.bl (wj d e))) else none:=rfl
@[simp] theorem Xn:Od [d,e]=if iS d<=40 then some (.t (.bl (!wj d e))) else none:=rfl
@[simp] theorem OM (ds:List D):uy [.tup ds]=some (.t (.int ds.length)):=rfl
@[simp] theorem ON (ds:List D):uy [.lst ds]=some (.t (.int ds.length)):=rfl
@[simp] theorem MT (ds:List D):yr [.tup ds]=some (.m (.lst ds)):=rfl
@[simp] theorem MU (ds:List D):yr [.lst ds]=some (.m (.lst ds)):=rfl
@[simp] theorem LA (ds:List D):cu [.tup ds]=some (.t (.tup ds)):=rfl
@[simp] theorem LB (ds:List D):cu [.lst ds]=some (.t (.tup ds)):=rfl
@[simp] theorem QC:jE [d]=if Ek d then some (.t (.str (toPy d).shown)) else none:=rfl
@[simp] theorem QD (x y:Int):wj (.int x) (.int y)=(x == y):=by simp[wj]
@[simp] theorem QE (x:Str):iS (.str x)=0:=by simp[iS]
@[simp] theorem QF (x:Int):iS (.int x)=0:=by simp[iS]
@[simp] theorem TN (h:MO->Option (D×MO)):jq S i h=match S[i]? with | some (some (.m o))=>(h o).map fun r=>(r.1,S.set i (some (.m r.2))) | some (some (.b o))=>(h o).map fun r=>(r.1,S.set i (some (.b r.2))) | _=>none:=rfl
@[simp] theorem Xo:xC S i=match S[i]? with | some (some (.m (.lst _)))=>true | some (some (.b (.lst _)))=>true | _=>false:=rfl
@[simp] theorem CY (kvs:List (Key×D)) (k:D):ir (.dct kvs) k d=(keyOf k).bind fun kk=>if kvs.length < 100000 then some (.dct (putD kvs kk d)) else none:=rfl
@[simp] theorem MV (ds:List D) (k:Int):ir (.lst ds) (.int k) d=(xA ds.length k).map fun j=>.lst (ds.set j d):=rfl
@[simp] theorem OO (ds:List D):hAppend [d] (.lst ds)=if ds.length < 100000 then some (.dh,.lst (ds++[d])) else none:=rfl
@[simp] theorem QG (us:List U) (o2:MO):aK (.b o2 :: us) (some (.b o) :: S)=(aK us S).map fun os=>o :: os:=rfl
@[simp] theorem BE (us:List U) (x:Option U):aK (.t d :: us) (x :: S)=aK us S:=by cases x <;> rfl
end
end L2
end
section
namespace Sw
open PySem PySem.Spec PyProof.Rows L2
noncomputable def kY (T:List (Str×Int)):D:=.tup (T.map fun p=>.tup [.str p.1,.int p.2])
noncomputable def upTo (n:Nat):List Int:=(List.range n).map fun(k:Nat)=>(k:Int)
theorem EG (n:Nat):mD 0 n=(upTo n).map D.int:=by
 unfold mD upTo
 simp
theorem EH:∀(ts:List D) (S:SS),S.length=ts.length->aK (ts.map U.t) S=some []
 | [],S,_=>by cases S <;> rfl
 | d :: ts,[],h=>by cases h
 | d :: ts,x :: S,h=>by
  show aK (U.t d :: ts.map U.t) (x :: S)=_
  rw[BE]
  exact EH ts S (by simpa using h)
theorem JO (S:SS):∀ts:List D,cA S (ts.map U.t)=some (ts.map U.t)
 | []=>rfl
 | d :: ts=>by
  show(some (U.t d)).bind _=_
  rw[JO S ts]
  rfl
theorem OP:∀ts:List D,slotsOf (ts.map U.t)=[]
 | []=>rfl
 | d :: ts=>OP ts
theorem OQ:∀ts:List D,cN (ts.map U.t)=0
 | []=>rfl
 | d :: ts=>OQ ts
theorem LC (S:SS):∀ts:List D,wb (ts.map U.t) [] S=some S
 | []=>rfl
 | d :: ts=>LC S ts
theorem wG {cap:List Nat}{q:GT}{g:GD}{S:SS}{ts:List D}(hc:bL S cap=some (ts.map U.t)) (p:D->Bool) (f:D->D):∀(ds acc:List D),
    (∀d∈ds,q (some (.t d) :: ts.map fun x=>some (.t x))=some (p d,some (.t d) :: ts.map fun x=>some (.t x)))->(∀d∈ds,p d=true->g (some (.t d) :: ts.map fun x=>some (.t x))=some (f d,some (.t d) :: ts.map fun x=>some (.t x)))->
    aW cap q g ds S acc=some (acc++(ds.filter p).map f,S)
  | [],acc,_,_=>by simp[aW]
  | d :: ds, acc, hq, hg => by
    have em:(ts.map U.t).map some=ts.map fun x=>some (U.t x):=by simp
    have eo:aK (.t d :: ts.map U.t) (some (.t d) :: ts.map fun x=>some (.t x))=some []:=by rw[BE];exact EH ts _ (by simp)
    have q0:=hq d (List.mem_cons_self)
    unfold aW
    rw[hc]
    simp only[Option.bind_some]
    rw[if_pos ⟨by rw[OP];exact List.nodup_nil,by rw[OQ];exact Nat.zero_le _⟩,JO]
    simp only[Option.bind_some]
    rw[em,q0]
    simp only[Option.bind_some]
    by_cases hp:p d=true
    . rw[if_pos hp,hg d List.mem_cons_self hp]
      simp only[Option.bind_some]
      rw[eo]
      simp only[Option.bind_some]
      rw[LC]
      simp only[Option.bind_some]
      rw[wG hc p f ds (acc++[f d]) (fun e he=>hq e (List.mem_cons_of_mem _ he)) (fun e he=>hg e (List.mem_cons_of_mem _ he)),List.filter_cons_of_pos hp]
      simp
    . rw[if_neg hp,eo]
      simp only[Option.bind_some]
      rw[LC]
      simp only[Option.bind_some]
      rw[wG hc p f ds acc (fun e he=>hq e (List.mem_cons_of_mem _ he)) (fun e he=>hg e (List.mem_cons_of_mem _ he)),List.filter_cons_of_neg hp]
@[simp] theorem HG (cap:List Nat) (gi:GI) (q:GT) (g:GD) (S:SS):bO cap gi q g S=(gi S).bind fun p=>if p.1.length<=100000 then(aW cap q g p.1 p.2 []).map fun r=>(.m (.lst r.1),r.2) else none:=rfl
theorem eB (g:GD) (S:SS):cU g S=(g S).bind fun p=>match p.1 with | .tup ds=>some (ds,p.2) | .lst ds=>some (ds,p.2) | .str z=>some (z.cps.toList.map fun c=>.str ⟨#[c]⟩,p.2) | _=>none:=rfl
noncomputable def Ay (p:Str×Int):D:=.tup [.str p.1,.int p.2]
mutual
noncomputable def Sane:D->Prop
 | .int i=>i.natAbs < 10 ^ 30
 | .str z=>∀c∈z.cps.toList,c < 16 ^ 8
 | .tup ds=>vo ds
 | .lst ds=>vo ds
 | .dh=>True
 | .bl _=>True
noncomputable def vo:List D->Prop
 | []=>True
 | d :: ds=>Sane d/\vo ds
end
mutual
noncomputable def wD:D->Nat
 | .dh=>6
 | .bl _=>6
 | .int _=>40
 | .str z=>10 * z.length+2
 | .tup ds=>Gw ds+4
 | .lst ds=>Gw ds+4
noncomputable def Gw:List D->Nat
 | []=>0
 | d :: ds=>wD d+2+Gw ds
end
theorem CZ (s:String):(Str.ofString s).length=s.length:=PySem.ofString_length s
theorem BF:∀(ts:List Str) (k:Nat) (acc:Str),(textFrom k acc ts).length<=acc.length+piled ts
  | [],k,acc=>Nat.le_refl _
  | t :: ts, k, acc => by
    have ih:=BF ts (k+1) (acc++(if k > 0 then ", " else "":String)++t)
    have e:(acc++(if k > 0 then ", " else "":String)++t).length<=acc.length+2+t.length:=by
      rw[strLen_append,strLen_append]
      split
      . show acc.length+2+t.length<=_;omega
      . show acc.length+0+t.length<=_;omega
    rw[piled_cons]
    show(textFrom (k+1) _ ts).length<=_
    omega
mutual
theorem shown_le:∀d:D,Sane d->(toPy d).shown.length<=wD d
 | .dh,_=>by show(Str.ofString "None").length<=6;decide
 | .bl b,_=>by cases b <;> (show(Str.ofString _).length<=6;decide)
 | .int i,h=>by
  show(Str.ofString (toString i)).length<=40
  rw[CZ]
  exact Nat.le_trans (int_text_length_le10 (k:=30) (by decide) h) (by decide)
 | .str z,h=>PySem.StrLaws.reprText_len z h
 | .tup ds,h=>by
  have k:=qC ds h
  show(tupleText (PyData.shownAll (gT ds))).length<=Gw ds+4
  unfold tupleText
  rw[strLen_append,strLen_append]
  have e1:("(":Str).length=1:=rfl
  have e2:((if(PyData.shownAll (gT ds)).length == 1 then ",)" else ")":String):Str).length<=2:=by split <;> decide
  by_cases hn:PyData.shownAll (gT ds)=[]
  ·rw[hn] at e2 ⊢
   have e3:(Str.join ", " []).length=0:=rfl
   omega
  ·have:=join_length_add _ hn
   omega
 | .lst ds,h=>by
  have k:=qC ds h
  show(listText (PyData.shownAll (gT ds))).length<=Gw ds+4
  unfold listText
  rw[strLen_append]
  have e1:=BF (PyData.shownAll (gT ds)) 0 "["
  have e2:("[":Str).length=1:=rfl
  have e3:("]":Str).length=1:=rfl
  omega
theorem qC:∀ds:List D,vo ds->piled (PyData.shownAll (gT ds))<=Gw ds
 | [],_=>Nat.le_refl _
 | d :: ds,h=>by
  show piled ((toPy d).shown :: PyData.shownAll (gT ds))<=wD d+2+Gw ds
  rw[piled_cons]
  have:=shown_le d h.1
  have:=qC ds h.2
  omega
end
mutual
theorem rB:∀d:D,Sane d->(toPy d).showable=true
 | .dh,_=>rfl
 | .bl b,_=>rfl
 | .int i,h=>by
  show decide (i.natAbs.log2 < 1920)=true
  rw[decide_eq_true_eq]
  by_cases hz:i.natAbs=0
  ·rw[hz];decide
  ·exact(Nat.log2_lt hz).mpr (Nat.lt_trans h (Nat.lt_of_lt_of_le (show(10:Nat) ^ 30 < 2 ^ 100 by decide) (Nat.pow_le_pow_right (by decide) (by decide))))
 | .str z,_=>rfl
 | .tup ds,h=>by show PyData.showableAll (gT ds)=true;exact lT ds h
 | .lst ds,h=>by show PyData.showableAll (gT ds)=true;exact lT ds h
theorem lT:∀ds:List D,vo ds->PyData.showableAll (gT ds)=true
 | [],_=>rfl
 | d :: ds,h=>by
  show((toPy d).showable && PyData.showableAll (gT ds))=true
  rw[rB d h.1,lT ds h.2]
  rfl
end
mutual
theorem depth_eq:∀d:D,(toPy d).depth=iS d
 | .dh=>rfl
 | .bl _=>rfl
 | .int _=>rfl
 | .str _=>rfl
 | .tup ds=>by show PyData.depthAll (gT ds)+1=gj ds+1;rw[qD ds]
 | .lst ds=>by show PyData.depthAll (gT ds)+1=gj ds+1;rw[qD ds]
theorem qD:∀ds:List D,PyData.depthAll (gT ds)=gj ds
 | []=>rfl
 | d :: ds=>by show max (toPy d).depth (PyData.depthAll (gT ds))=max (iS d) (gj ds);rw[depth_eq d,qD ds]
end
theorem LD {d:D}(h:Sane d) (hw:wD d<=1000000) (hd:iS d<=20):Ek d:=
 ⟨rB d h,by rw[depth_eq];exact hd,Nat.le_trans (shown_le d h) (Nat.le_trans hw (by decide))⟩
structure Good (n k:Nat) (d:D):Prop where
 EI:Sane d
 w:wD d<=n
 dep:iS d<=k
theorem Good.mono {n k n' k':Nat}{d:D}(h:Good n k d) (a:n<=n') (b:k<=k'):Good n' k' d:=⟨h.EI,Nat.le_trans h.w a,Nat.le_trans h.dep b⟩
theorem Good.Ek {n k:Nat}{d:D}(h:Good n k d) (a:n<=1000000) (b:k<=20):L2.Ek d:=LD h.EI (Nat.le_trans h.w a) (Nat.le_trans h.dep b)
structure wH (z:Str):Prop where
 len:z.length<=8
 chs:∀c∈z.cps.toList,c < 16 ^ 8
structure wI (p:Str×Int):Prop where
 nm:wH p.1
 lo:0<=p.2
 hi:p.2<=10
theorem getD_mem {α:Type}{l:List α}{i:Nat}{x:α}(h:i < l.length):l.getD i x∈l:=by simp[List.getD,h]
end Sw
end
section
namespace L2
open PySem PySem.Spec PyProof.Rows
section
variable (S:SS) (d:D) (i:Nat) (g ga gb gc:GD) (gA:GA)
@[simp] theorem TQ (f:Int->Int->Int):Hi f i g S=match S[i]? with
 | some (some (.t (.int n)))=>(g S).bind fun p=>match p.1 with
  | .int m=>(oB i (.t (.int (f n m))) p.2).map .nx
  | _=>none
 | _=>none:=rfl
@[simp] theorem QH (k:Bool):CH [.bl k]=some (.t (.int (if k then 1 else 0))):=rfl
@[simp] theorem TR (ds:List D) (k:Int):Sm [.lst ds,.int k]=if 0<=k/\k.toNat<=100000/\ds.length * k.toNat<=100000 then some (.m (.lst (List.replicate k.toNat ds).flatten)) else none:=rfl
@[simp] theorem MW (es ds:List D):kC [.lst es] (.lst ds)=if ds.length+es.length<=100000 then some (.dh,.lst (ds++es)) else none:=rfl
@[simp] theorem QI:oK gA S=(gA S).bind fun p=>match p.1 with
 | [d]=>(rT d).map fun q=>(jv q.2,p.2)
 | _=>none:=rfl
@[simp] theorem QJ:tG gA S=(gA S).bind fun p=>match p.1 with
 | [d,e]=>(rT d).bind fun q=>(rT e).map fun r=>(List.zipWith (fun a b=>.tup [a,b]) q.2 r.2,p.2)
 | _=>none:=rfl
@[simp] theorem OR (ds:List D):rT (.lst ds)=some (true,ds):=rfl
@[simp] theorem OS (ds:List D):rT (.tup ds)=some (false,ds):=rfl
theorem bZ (cap:List Nat) (gi:GI) (q:GT):bO cap gi q g S=(gi S).bind fun p=>if p.1.length<=100000 then(aW cap q g p.1 p.2 []).map fun r=>(.m (.lst r.1),r.2) else none:=rfl
end
end L2
namespace Sq
open PySem PySem.Spec PyProof.Rows L2 Sw
theorem wJ {bd:GB}{body:GS}:∀(ds:List D) (I:List D->SS->Prop) (S:SS),I ds S->(∀d r S,I (d :: r) S->∃S1 S2,bd d S=some S1/\body S1=some (.nx S2)/\I r S2)->∃S',loop bd body ds S=some (.nx S')/\I [] S'
 | [],I,S,h,_=>⟨S,rfl,h⟩
 | d :: ds,I,S,h,k=>by
  obtain⟨S1,S2,e1,e2,h2⟩:=k d ds S h
  obtain⟨S',e,h'⟩:=wJ ds I S2 h2 k
  refine⟨S',?_,h'⟩
  show((bd d S).bind fun S1=>(body S1).bind _)=_
  rw[e1,Option.bind_some,e2,Option.bind_some]
  exact e
theorem fO (cap : List Nat) (q : GT) (g : GD) (d : D) (ds : List D) (S : SS) (acc : List D) : aW cap q g (d :: ds) S acc = (aW cap q g [d] S acc).bind fun r => aW cap q g ds r.2 r.1 := by
  simp only[aW]
  cases bL S cap with
  | none=>rfl
  | some us =>
    simp only[Option.bind_some]
    split
    . cases cA S us with
      | none=>rfl
      | some ws =>
        simp only[Option.bind_some]
        cases q (some (.t d) :: ws.map some) with
        | none=>rfl
        | some p=>
          simp only[Option.bind_some]
          split
          . cases g p.2 with
            | none=>rfl
            | some r=>
              simp only[Option.bind_some]
              cases aK (.t d :: ws) r.2 with
              | none=>rfl
              | some outs=>
                simp only[Option.bind_some]
                cases wb us outs S with
                | none=>rfl
                | some S'=>rfl
          . cases aK (.t d :: ws) p.2 with
            | none=>rfl
            | some outs=>
              simp only[Option.bind_some]
              cases wb us outs S with
              | none=>rfl
              | some S'=>rfl
    . rfl
theorem BG {cap:List Nat}{g:GD}:∀(ds:List D) (I:List D->List D->SS->Prop) (S:SS) (acc:List D),I ds acc S->(∀d r acc S,I (d :: r) acc S->∃acc' S',aW cap aO g [d] S acc=some (acc',S')/\I r acc' S')->∃acc' S',aW cap aO g ds S acc=some (acc',S')/\I [] acc' S'
 | [],I,S,acc,h,_=>⟨acc,S,rfl,h⟩
 | d :: ds,I,S,acc,h,k=>by
  obtain⟨a1,S1,e1,h1⟩:=k d ds acc S h
  obtain⟨a2,S2,e2,h2⟩:=BG ds I S1 a1 h1 k
  exact⟨a2,S2,by rw[fO,e1];exact e2,h2⟩
theorem qE {α:Type}{l:List α}{i:Int}{x:α}(h0:0<=i) (h:l[i.toNat]? =some x):cX l i=some x:=by
 have hl:=(List.getElem?_eq_some_iff.mp h).1
 unfold cX xA
 rw[if_pos h0,if_pos (by omega)]
 exact h
theorem LF {α:Type}{l:List α}{i:Int}(h0:0<=i) (h1:i < l.length):∃x,cX l i=some x/\l[i.toNat]? =some x:=by
 have h:i.toNat < l.length:=by omega
 exact⟨l[i.toNat],qE h0 (List.getElem?_eq_getElem h),List.getElem?_eq_getElem h⟩
theorem qF {gA:GA}{S S':SS}{j:Int}(h:gA S=some ([.int j],S')) (h1:j < 1000000) (h2:-1000000 < j):iO gA S=some (mD 0 j.toNat,S'):=by
 unfold iO
 rw[h]
 simp only[Option.bind_some]
 rw[if_pos ⟨h1,h2⟩]
theorem LG (i n:Nat) (j:Int) (S:SS) (h:S[i]? =some (some (.t (.int j)))) (hj:j.toNat=n) (h1:j < 1000000) (h2:-1000000 < j):iO (aa (eF (ao i)) aq) S=some (mD 0 n,S):=by
 have e:(aa (eF (ao i)) aq) S=some ([.int j],S):=by simp[h]
 rw[qF e h1 h2,hj]
theorem Az (n:Nat):(-1000000:Int) < n:=Int.lt_of_lt_of_le (by decide) (Int.natCast_nonneg n)
theorem AA (i n:Nat) (S:SS) (h:S[i]? =some (some (.t (.int n)))) (hn:n < 1000000):iO (aa (eF (ao i)) aq) S=some (mD 0 n,S):=
 LG i n n S h (Int.toNat_natCast n) (Int.ofNat_lt.mpr hn) (Az n)
noncomputable abbrev fd (c i l:Int):MO:=.lst [.int c,.int i,.int l]
end Sq
end
section
namespace L2
open PySem PySem.Spec PyProof.Rows
noncomputable def iE:Option U->Bool
 | some (.b _)=>true
 | _=>false
@[simp] theorem Xp:iE none=false:=rfl
@[simp] theorem Xq (d:D):iE (some (.t d))=false:=rfl
@[simp] theorem Xr (o:MO):iE (some (.m o))=false:=rfl
theorem cE (i:Nat) (u:U) (S:SS):oB i u S=(S[i]?).bind fun x=>if iE x then none else some (S.set i (some u)):=by
 unfold oB
 cases S[i]? with
 | none=>rfl
 | some x=>cases x with
  | none=>rfl
  | some u=>cases u <;> rfl
@[simp] theorem TU (n:Nat) (bs:Gs) (ds:List D) (S:SS):oE n bs (.tup ds) S=if ds.length=n then bs ds S else none:=rfl
@[simp] theorem QK (b:GB) (bs:Gs) (d:D) (r:List D) (S:SS):eZ b bs (d :: r) S=(b d S).bind fun S1=>bs r S1:=rfl
@[simp] theorem TV (S:SS):o7 [] S=some S:=rfl
@[simp] theorem QL (S:SS):yC S=some (.m (.cS []),S):=rfl
@[simp] theorem QM (S:SS):tH S=some (.m (.dct []),S):=rfl
@[simp] theorem AB (kvs:List (D×D)) (k:D):dz (.m (.cS kvs)) k=(ju k).bind (bx kvs):=by cases k <;> rfl
@[simp] theorem AD (kvs:List (D×D)) (k:D):dz (.b (.cS kvs)) k=(ju k).bind (bx kvs):=by cases k <;> rfl
@[simp] theorem C0 (kvs:List (D×D)) (k d:D):ir (.cS kvs) k d=(ju k).bind fun kk=>if kvs.length < 10000000 then some (.cS (putD kvs kk d)) else none:=by cases k <;> rfl
@[simp] theorem OT (z:Str):uZ (.str z)=true:=rfl
@[simp] theorem OU (b:Bool):uZ (.bl b)=true:=rfl
@[simp] theorem OV (b:Int):uZ (.int b)=true:=rfl
theorem j5 {bd:GB}{body:GS}(ds:List D) (I:Nat->SS->Prop) (S:SS) (h0:I 0 S) (hs:∀j d S,ds[j]? =some d->I j S->∃S1 S2,bd d S=some S1/\body S1=some (.nx S2)/\I (j+1) S2):∃S',loop bd body ds S=some (.nx S')/\I ds.length S':=by
 obtain⟨S',e,j,hr,hj,hI⟩:=Sq.wJ (bd:=bd) (body:=body) ds (fun r S=>∃j,ds.drop j=r/\j<=ds.length/\I j S) S ⟨0,rfl,Nat.zero_le _,h0⟩ (by
  rintro d r S ⟨j,hr,hj,hI⟩
  have hlt:j < ds.length:=by
   have:=congrArg List.length hr
   rw[List.length_drop,List.length_cons] at this
   omega
  rw[List.drop_eq_getElem_cons hlt] at hr
  injection hr with h1 h2
  obtain⟨S1,S2,e1,e2,h3⟩:=hs j d S (by rw[List.getElem?_eq_getElem hlt,h1]) hI
  exact⟨S1,S2,e1,e2,j+1,h2,hlt,h3⟩)
 have:j=ds.length:=by
  have:=congrArg List.length hr
  rw[List.length_drop,List.length_nil] at this
  omega
 subst this
 exact⟨S',e,hI⟩
theorem kZ {cap:List Nat}{g:GD}(ds:List D) (I:Nat->List D->SS->Prop) (S:SS) (h0:I 0 [] S) (hs:∀j d acc S,ds[j]? =some d->I j acc S->∃x S',aW cap aO g [d] S acc=some (acc++[x],S')/\I (j+1) (acc++[x]) S'):∃acc S',aW cap aO g ds S []=some (acc,S')/\I ds.length acc S':=by
 obtain⟨acc,S',e,j,hr,hj,hI⟩:=Sq.BG (cap:=cap) (g:=g) ds (fun r acc S=>∃j,ds.drop j=r/\j<=ds.length/\I j acc S) S [] ⟨0,rfl,Nat.zero_le _,h0⟩ (by
  rintro d r acc S ⟨j,hr,hj,hI⟩
  have hlt:j < ds.length:=by
   have:=congrArg List.length hr
   rw[List.length_drop,List.length_cons] at this
   omega
  rw[List.drop_eq_getElem_cons hlt] at hr
  injection hr with h1 h2
  obtain⟨x,S',e1,h3⟩:=hs j d acc S (by rw[List.getElem?_eq_getElem hlt,h1]) hI
  exact⟨_,S',e1,j+1,h2,hlt,h3⟩)
 have:j=ds.length:=by
  have:=congrArg List.length hr
  rw[List.length_drop,List.length_nil] at this
  omega
 subst this
 exact⟨acc,S',e,hI⟩
theorem BH {n j:Nat}{d:D}(h:(mD 0 n)[j]? =some d):j < n/\d= .int j:=by
 unfold mD at h
 rw[List.getElem?_map] at h
 cases e:(List.range n)[j]? with
 | none=>rw[e] at h;cases h
 | some k=>
  rw[e] at h
  obtain⟨h1,h2⟩:=List.getElem?_eq_some_iff.mp e
  rw[List.getElem_range] at h2
  rw[List.length_range] at h1
  subst h2
  refine⟨h1,?_⟩
  have:=Option.some.inj h
  rw[<-this]
  show D.int (0+(j:Int))=_
  rw[Int.zero_add]
theorem jP (bd:GB) (body:GS) (d:D) (ds:List D) (S:SS):loop bd body (d :: ds) S=(bd d S).bind fun S1=>(body S1).bind fun o=>match o with
  | .nx S2=>loop bd body ds S2
  | .ct S2=>loop bd body ds S2
  | .bk S2=>some (.nx S2)
  | .rt u S2=>some (.rt u S2):=rfl
end L2
end
section
namespace Sw
open PySem PySem.Spec PyProof.Rows L2
noncomputable def one (p:Str×Int):List (Str×Int):=(upTo (p.2+1).toNat).map fun k=>(p.1,k)
noncomputable def pA (T:List (Str×Int)):List (Str×Int):=T.flatMap one
theorem yK (n:Nat):(upTo n).length=n:=by simp[upTo]
theorem tM:∀{T:List (Str×Int)},(∀p∈T,wI p)->(pA T).length<=11 * T.length
 | [],_=>Nat.le_refl _
 | p :: T,h=>by
  have ih:=tM (T:=T) fun q hq=>h q (List.mem_cons_of_mem _ hq)
  have a:=(h p List.mem_cons_self).lo
  have b:=(h p List.mem_cons_self).hi
  have e:(pA (p :: T)).length=(one p).length+(pA T).length:=by show(one p++pA T).length=_;rw[List.length_append]
  have e2:(one p).length=(p.2+1).toNat:=by unfold one;rw[List.length_map,yK]
  rw[e,e2]
  show _<=11 * (T.length+1)
  omega
theorem at2 (a b:D):cX [a,b] 0=some a/\cX [a,b] 1=some b:=⟨rfl,rfl⟩
end Sw
end
section
namespace Sq
open PySem PySem.Spec PyProof.Rows L2 Sw
theorem kE (n:Nat):(mD 0 n).length=n:=by simp[mD]
noncomputable def JP (x:Option U):Prop:=x=none\/∃d,x=some (.t d)
theorem JP.t {d:D}:JP (some (.t d)):=.inr ⟨d,rfl⟩
theorem JP.n:JP none:=.inl rfl
noncomputable def dB:GS:=
 (jo (eT (eM 1 kC (aa (eF (bO [2] (iO (aa (eF (eP kr (aa (eF (ao 3)) (aa (eC (.int 1)) aq)))) aq)) aO (eF (eP fE (aa (eF (ao 1)) (aa (eF (ao 0)) aq)))))) aq))))
noncomputable def d8:GS:=
 (aR (bz 1 (eP gW aq))
 (aR (jX (oE 2 (eZ (bName 2) (eZ (bName 3) o7))) (CF (eF (ao 0))) (dB))
 (ff (ao 1))))
noncomputable def lg:FM:=bG 4 d8
theorem EJ:∀us r,lg us=some r->bG 4 d8 us=some r:=fun _ _ h=>h
theorem C1 {p:Str×Int}{td:D}{acc:List D}{x2 x3:Option U}(hp:wI p) (ha:acc.length < 1000) (h2:JP x2) (h3:JP x3):∃S1,oE 2 (eZ (bName 2) (eZ (bName 3) o7)) (Ay p) [some (.t td),some (.m (.lst acc)),x2,x3]=some S1/\
  dB S1=some (.nx [some (.t td),some (.m (.lst (acc++(one p).map Ay))),some (.t (.str p.1)),some (.t (.int p.2))]):=by
 refine⟨[some (.t td),some (.m (.lst acc)),some (.t (.str p.1)),some (.t (.int p.2))],?_,?_⟩
 ·rcases h2 with rfl | ⟨a,rfl⟩ <;> rcases h3 with rfl | ⟨b,rfl⟩ <;> rfl
 ·have a:=hp.lo
  have b:=hp.hi
  have b1:p.2+1 < 1000000:=by omega
  have b2:-1000000 < p.2+1:=by omega
  have e:=wG (cap:=[2]) (q:=aO) (g:=eF (eP fE (aa (eF (ao 1)) (aa (eF (ao 0)) aq)))) (S:=[some (.t td),some (.m (.lst acc)),some (.t (.str p.1)),some (.t (.int p.2))]) (ts:=[.str p.1]) rfl (fun _=>true) (fun d=>.tup [.str p.1,d]) (mD 0 (p.2+1).toNat) [] (fun d _=>rfl) (fun d _ _=>by simp)
  have e5:(mD 0 (p.2+1).toNat).map (fun d=>D.tup [.str p.1,d])=(one p).map Ay:=by rw[EG];unfold one Ay;simp
  have e6:((one p).map Ay).length=(p.2+1).toNat:=by unfold one;rw[List.length_map,List.length_map,yK]
  rw[List.filter_eq_self.mpr (fun _ _=>rfl),e5,List.nil_append] at e
  have l1:(p.2+1).toNat<=100000:=by omega
  have l2:acc.length+((one p).map Ay).length<=100000:=by rw[e6];omega
  simp only[List.length_map] at l2
  simp[dB,HG,b1,b2,kE,l1,e,l2,xC,jq]
theorem HH {T:List (Str×Int)}(h:T.length<=4) (h2:∀p∈T,wI p):lg [.t (kY T)]=some (.m (.lst ((pA T).map Ay)),[]):=by
 obtain⟨S',e,done,rest,x2,x3,hd,hr,q2,q3,hs⟩:=wJ (bd:=oE 2 (eZ (bName 2) (eZ (bName 3) o7))) (body:=dB) (T.map Ay)
  (fun r S=>∃(done rest:List (Str×Int)) (x2 x3:Option U),T=done++rest/\r=rest.map Ay/\JP x2/\JP x3/\S=[some (.t (kY T)),some (.m (.lst ((pA done).map Ay))),x2,x3])
  [some (.t (kY T)),some (.m (.lst [])),none,none] ⟨[],T,none,none,rfl,rfl,.n,.n,rfl⟩ (by
  rintro d r S ⟨done,rest,x2,x3,hd,hr,q2,q3,rfl⟩
  cases rest with
  | nil=>cases hr
  | cons p rest=>
   injection hr with hr1 hr2
   subst hr1
   have hl:=tM (T:=done) fun q hq=>h2 q (by rw[hd];exact List.mem_append_left _ hq)
   have hdl:done.length<=4:=by have:=congrArg List.length hd;simp at this;omega
   obtain⟨S1,e1,e2⟩:=C1 (p:=p) (td:=kY T) (acc:=(pA done).map Ay) (x2:=x2) (x3:=x3) (h2 p (by rw[hd];simp)) (by rw[List.length_map];omega) q2 q3
   refine⟨S1,_,e1,e2,done++[p],rest,some (.t (.str p.1)),some (.t (.int p.2)),by rw[hd];simp,hr2,.t,.t,?_⟩
   have:pA (done++[p])=pA done++one p:=by simp[pA]
   rw[this,List.map_append])
 have:rest=[]:=by
  cases rest with
  | nil=>rfl
  | cons a b=>cases hr
 subst this
 rw[List.append_nil] at hd
 subst hd
 subst hs
 have e:loop (oE 2 (eZ (bName 2) (eZ (bName 3) o7))) dB (T.map Ay) [some (.t (kY T)),some (.m (.lst [])),none,none]=_:=e
 have ei:CF (eF (ao 0)) [some (.t (kY T)),some (.m (.lst [])),none,none]=some (T.map Ay,[some (.t (kY T)),some (.m (.lst [])),none,none]):=rfl
 simp only[lg,bG,d8]
 simp[ei,e,aK,-Ls]
noncomputable def bR (r:List Int):D:=.tup (r.map D.int)
theorem bw {a b:GS}{S S1:SS}(h:a S=some (.nx S1)):aR a b S=b S1:=by
 show(a S).bind _=_
 rw[h]
 rfl
end Sq
end
section
namespace Sx
open PySem PySem.Spec PyProof.Rows L2 Sw Sq
end Sx
end
section
namespace Sl
open PySem PySem.Spec PyProof.Rows L2
section
variable {κ:Type} [DecidableEq κ]
noncomputable def iM (acc:List κ):List κ->List κ
 | []=>acc
 | k :: ks=>iM (if k∈acc then acc else acc++[k]) ks
theorem fP {x:κ}:∀{ks acc:List κ},x∈iM acc ks↔x∈acc\/x∈ks
  | [],acc=>by simp[iM]
  | k :: ks, acc => by
    show x∈iM (if k∈acc then acc else acc++[k]) ks↔_
    rw[fP]
    by_cases h:k∈acc
    . rw[if_pos h,List.mem_cons]
      constructor
      . rintro(a | a);exact .inl a;exact .inr (.inr a)
      . rintro(a | rfl | a);exact .inl a;exact .inl h;exact .inr a
    . rw[if_neg h,List.mem_append,List.mem_singleton,List.mem_cons,or_assoc]
theorem pB:∀{ks acc:List κ},acc.Nodup->(iM acc ks).Nodup
  | [],acc,h=>h
  | k :: ks, acc, h => by
    show(iM (if k∈acc then acc else acc++[k]) ks).Nodup
    refine pB ?_
    by_cases c:k∈acc
    . rw[if_pos c];exact h
    . rw[if_neg c,List.nodup_append]
      exact⟨h,by simp,fun a ha b hb e=>c (by rw[<-List.mem_singleton.mp hb,<-e];exact ha)⟩
theorem BI:∀(ks acc:List κ),∃r,iM acc ks=acc++r
 | [],acc=>⟨[],by simp[iM]⟩
 | k :: ks,acc=>by
  obtain⟨r,e⟩:=BI ks (if k∈acc then acc else acc++[k])
  by_cases h:k∈acc
  ·rw[if_pos h] at e;exact⟨r,by show iM (if k∈acc then acc else acc++[k]) ks=_;rw[if_pos h,e]⟩
  ·rw[if_neg h] at e;exact⟨k :: r,by show iM (if k∈acc then acc else acc++[k]) ks=_;rw[if_neg h,e,List.append_assoc];rfl⟩
noncomputable def jJ (ks:List κ):List Nat:=ks.map fun k=>(iM [] ks).idxOf k
theorem lq (ks:List κ):(jJ ks).length=ks.length:=List.length_map ..
end
noncomputable def na (ns:List Nat) (i:Nat):Nat:=ns.getD i 0
theorem bU {ns:List Nat}{i:Nat}(h:i < ns.length):ns[i]? =some (na ns i):=by
 unfold na
 rw[List.getD_eq_getElem?_getD,List.getElem?_eq_getElem h]
 rfl
theorem cV {ns:List Nat}{i:Nat}(h:i < ns.length):na ns i∈ns:=List.mem_of_getElem? (bU h)
structure yL (ns:List Nat) (c:Nat):Prop where
 lt:∀v∈ns,v < c
 on:∀v,v < c->v∈ns
section
variable {κ:Type} [DecidableEq κ]
theorem sC {ks:List κ}{i:Nat}{k:κ}(h:ks[i]? =some k):na (jJ ks) i=(iM [] ks).idxOf k:=by
 unfold na jJ
 rw[List.getD_eq_getElem?_getD,List.getElem?_map,h]
 rfl
theorem qb {ks:List κ}{i j:Nat}{a b:κ}(ha:ks[i]? =some a) (hb:ks[j]? =some b):na (jJ ks) i=na (jJ ks) j↔a=b:=by
 rw[sC ha,sC hb]
 have ma:a∈iM [] ks:=fP.mpr (.inr (List.mem_of_getElem? ha))
 have mb:b∈iM [] ks:=fP.mpr (.inr (List.mem_of_getElem? hb))
 constructor
 ·intro e
  have la:=List.idxOf_lt_length_of_mem ma
  have lb:=List.idxOf_lt_length_of_mem mb
  have ea:(iM [] ks)[(iM [] ks).idxOf a]=a:=List.getElem_idxOf la
  have eb:(iM [] ks)[(iM [] ks).idxOf b]=b:=List.getElem_idxOf lb
  rw[<-ea,<-eb]
  simp only[e]
 ·rintro rfl;rfl
theorem ng (ks:List κ):yL (jJ ks) (iM [] ks).length where
 lt:=fun v hv=>by
  obtain⟨k,hk,rfl⟩:=List.mem_map.mp hv
  exact List.idxOf_lt_length_of_mem (fP.mpr (.inr hk))
 on:=fun v hv=>by
  have m:(iM [] ks)[v]∈ks:=by
   rcases fP.mp (List.getElem_mem hv) with h | h
   ·cases h
   ·exact h
  refine List.mem_map.mpr ⟨_,m,?_⟩
  exact List.Nodup.idxOf_getElem (pB List.nodup_nil) v hv
end
theorem vp {ns ns':List Nat}{c c' n:Nat}(h:yL ns c) (h':yL ns' c') (hl:ns.length=n) (hl':ns'.length=n) (fin:∀i j,i < n->j < n->na ns' i=na ns' j->na ns i=na ns j){f g:Nat}(hf:f < n) (hg:g < n) (e:na ns f=na ns g) (ne:na ns' f≠na ns' g):c+1<=c':=by
 have rep:∀v,v < c->ns.idxOf v < n/\na ns (ns.idxOf v)=v:=fun v hv=>by
  have m:=h.on v hv
  have l:=List.idxOf_lt_length_of_mem m
  refine⟨by omega,?_⟩
  have a:=bU l
  rw[List.getElem?_eq_getElem l,List.getElem_idxOf l] at a
  exact(Option.some.inj a).symm
 have v0:na ns f < c:=h.lt _ (cV (by omega))
 obtain⟨w,hw,Zg,hwn⟩:∃w,w < n/\na ns w=na ns f/\na ns' w≠na ns' (ns.idxOf (na ns f)):=by
  by_cases q:na ns' f=na ns' (ns.idxOf (na ns f))
  ·exact⟨g,hg,e.symm,fun z=>ne (q.trans z.symm)⟩
  ·exact⟨f,hf,rfl,q⟩
 have nd:(na ns' w :: (List.range c).map fun v=>na ns' (ns.idxOf v)).Nodup:=by
  rw[List.nodup_cons]
  constructor
  ·intro m
   obtain⟨v,hv,ev⟩:=List.mem_map.mp m
   have r:=rep v (List.mem_range.mp hv)
   have z:=fin _ _ r.1 hw ev
   rw[r.2,Zg] at z
   rw[z] at ev
   exact hwn ev.symm
  ·rw[List.nodup_iff_pairwise_ne,List.pairwise_map]
   refine List.Pairwise.imp_of_mem (R:=fun a b=>a≠b) ?_ (List.nodup_iff_pairwise_ne.mp List.nodup_range)
   intro a b ha hb hab q
   have ra:=rep a (List.mem_range.mp ha)
   have rb:=rep b (List.mem_range.mp hb)
   have z:=fin _ _ ra.1 rb.1 q
   rw[ra.2,rb.2] at z
   exact hab z
 have sub:∀v∈(na ns' w :: (List.range c).map fun v=>na ns' (ns.idxOf v)),v∈List.range c':=fun v hv=>by
  rw[List.mem_range]
  rcases List.mem_cons.mp hv with rfl | m
  ·exact h'.lt _ (cV (by omega))
  ·obtain⟨u,hu,rfl⟩:=List.mem_map.mp m
   have r:=rep u (List.mem_range.mp hu)
   exact h'.lt _ (cV (by omega))
 have:=nd.length_le_of_subset sub
 simpa using this
section
variable (nx:Nat->Nat->Nat) (wd:Nat->D) (W:Nat)
noncomputable def led:List Nat->Nat->Nat
 | [],s=>s
 | c :: cs,s=>led cs (nx s c)
variable {nx wd W}
end
end Sl
end
section
namespace Sl
open PySem PySem.Spec PyProof.Rows L2 Sw
section
variable {κ:Type} [DecidableEq κ]
noncomputable def ent:Nat->List κ->List (κ×D)
 | _,[]=>[]
 | i,k :: ks=>(k,.int (i:Nat)) :: ent (i+1) ks
theorem jK:∀(ks:List κ) (i:Nat),(ent i ks).length=ks.length
 | [],_=>rfl
 | k :: ks,i=>congrArg Nat.succ (jK ks (i+1))
theorem yM:∀(ks:List κ) (i:Nat) (k:κ),ent i (ks++[k])=ent i ks++[(k,.int ((i+ks.length:Nat):Int))]
 | [],_,_=>rfl
 | g :: ks,i,k=>by
  show _ :: ent (i+1) (ks++[k])=_
  rw[yM ks (i+1) k,show i+1+ks.length=i+(ks.length+1) by omega]
  rfl
theorem yO : ∀ {ks : List κ} {k : κ} (i : Nat), k ∈ ks -> bx (ent i ks) k = some (.int ((i + ks.idxOf k : Nat) : Int))
  | [],_,_,h=>by cases h
  | g :: ks, k, i, h => by
    unfold bx
    by_cases e:g=k
    . subst e
      simp[ent]
    . have m:k∈ks:=by
        rcases List.mem_cons.mp h with rfl | m
        . exact absurd rfl e
        . exact m
      have ih:=yO (i+1) m
      unfold bx at ih
      rw[show ent i (g :: ks)=(g,.int (i:Nat)) :: ent (i+1) ks from rfl,List.find?_cons_of_neg (by simpa using e),ih]
      have:(g :: ks).idxOf k=ks.idxOf k+1:=by rw[List.idxOf_cons,cond_eq_ite,if_neg (by simpa using e)]
      rw[this]
      congr 3
      omega
theorem fq {ks:List κ}{k:κ}(h:k∈ks):bx (ent 0 ks) k=some (.int (ks.idxOf k:Nat)):=by
 rw[yO 0 h,Nat.zero_add]
theorem gn:∀{ks:List κ}{k:κ}(i:Nat),k∉ks->bx (ent i ks) k=none
  | [],_,_,_=>rfl
  | g :: ks, k, i, h => by
    have ih:=gn (ks:=ks) (k:=k) (i+1) fun m=>h (List.mem_cons_of_mem _ m)
    unfold bx at ih ⊢
    rw[show ent i (g :: ks)=(g,.int (i:Nat)) :: ent (i+1) ks from rfl,List.find?_cons_of_neg (by
      simp only[decide_eq_true_eq];rintro rfl;exact h List.mem_cons_self)]
    exact ih
theorem yP {kvs:List (κ×D)}{k:κ}(h:bx kvs k=none):(kvs.any fun kv=>decide (kv.1=k))=false:=by
 unfold bx at h
 rw[Option.map_eq_none_iff,List.find?_eq_none] at h
 rw[List.any_eq_false]
 exact fun x hx=>h x hx
theorem BJ {kvs:List (κ×D)}{k:κ}{d:D}(h:bx kvs k=none):putD kvs k d=kvs++[(k,d)]:=by
 unfold putD
 rw[yP h]
 rfl
theorem nU {ks:List κ}{k:κ}(h:k∉ks):putD (ent 0 ks) k (.int (ks.length:Nat))=ent 0 (ks++[k]):=by
 rw[BJ (gn 0 h),yM,Nat.zero_add]
structure Kk (mk:List (κ×D)->MO) (ky:D->Option κ):Prop where
 has:∀kvs d k,ky d=some k->CO (.m (mk kvs)) d=some (bx kvs k).isSome
 rd:∀kvs d k,ky d=some k->dz (.m (mk kvs)) d=bx kvs k
 rb:∀kvs d k,ky d=some k->dz (.b (mk kvs)) d=bx kvs k
 wr:∀kvs d k v,ky d=some k->kvs.length < 100000->ir (mk kvs) d v=some (mk (putD kvs k v))
 ln:∀kvs,qy (.m (mk kvs))=some kvs.length
 dc:∀kvs,yE (.m (mk kvs))=true
 df:∀kvs d k v,ky d=some k->kvs.length < 100000->SG (mk kvs) d v=some (match bx kvs k with | some e=>(e,mk kvs) | none=>(v,mk (putD kvs k v)))
end
theorem yQ:Kk MO.dct keyOf where
 has:=fun kvs d k h=>by show(keyOf d).map _=_;rw[h];rfl
 rd:=fun kvs d k h=>by rw[Aw,h];rfl
 rb:=fun kvs d k h=>by rw[Ax,h];rfl
 wr:=fun kvs d k v h hl=>by rw[CY,h,Option.bind_some,if_pos hl]
 ln:=fun kvs=>rfl
 dc:=fun kvs=>rfl
 df:=fun kvs d k v h hl=>by
  show(keyOf d).bind _=_
  rw[h,Option.bind_some]
  cases bx kvs k with
  | some e=>rfl
  | none=>exact if_pos hl
theorem wK:Kk MO.cS ju where
 has:=fun kvs d k h=>by show(ju d).map _=_;rw[h];rfl
 rd:=fun kvs d k h=>by rw[AB,h];rfl
 rb:=fun kvs d k h=>by rw[AD,h];rfl
 wr:=fun kvs d k v h hl=>by rw[C0,h,Option.bind_some,if_pos (by omega)]
 ln:=fun kvs=>rfl
 dc:=fun kvs=>rfl
 df:=fun kvs d k v h hl=>by
  show(ju d).bind _=_
  rw[h,Option.bind_some]
  cases bx kvs k with
  | some e=>rfl
  | none=>exact if_pos (by omega)
noncomputable def iD (ns:List Nat):List D:=ns.map fun n=>.int (n:Nat)
noncomputable def cL:GS:=
 (uz (qB (lR true 1 (eF (ao 2)))) (pX 1 (eF (ao 2)) (d7 1)) kI)
noncomputable def yR:GS:=
 (uz (qB (lR true 1 (eF (ao 2)))) (pX 1 (eF (ao 2)) (d7 1)) kI)
noncomputable def eO:GS:=
 (Ow (aR (bz 1 tH)
 (aR (jX (bName 2) (cU (eF (ao 0))) (cL))
 (ff (bO [1] (cU (eF (ao 0))) aO (aL 1 (eF (ao 0)))))))
 (aR (bz 1 yC)
 (aR (jX (bName 2) (cU (eF (ao 0))) (yR))
 (ff (bO [1] (cU (eF (ao 0))) aO (aL 1 (eF (ao 0))))))))
noncomputable def tR:FM:=bG 3 eO
theorem HJ:∀us r,tR us=some r->bG 3 eO us=some r:=fun _ _ h=>h
section
variable {κ:Type} [DecidableEq κ] {mk:List (κ×D)->MO}{ky:D->Option κ}
theorem EK (K:Kk mk ky){sd d:D}{k:κ}{acc:List κ}(h:ky d=some k) (hl:acc.length < 1000):cL [some (.t sd),some (.m (mk (ent 0 acc))),some (.t d)]=some (.nx [some (.t sd),some (.m (mk (ent 0 (if k∈acc then acc else acc++[k])))),some (.t d)]):=by
 by_cases m:k∈acc
 ·have e:=K.has (ent 0 acc) d k h
  rw[fq m] at e
  rw[if_pos m]
  simp[cL,lR,e]
 ·have e:=K.has (ent 0 acc) d k h
  rw[gn 0 m] at e
  have e2:=K.wr (ent 0 acc) d k (.int (acc.length:Nat)) h (by rw[jK];omega)
  rw[nU m] at e2
  have e3:=K.ln (ent 0 acc)
  rw[jK] at e3
  rw[if_neg m]
  simp[cL,lR,e,e2,e3,jq]
theorem yS (K:Kk mk ky){sd:D}:∀(ds:List D) (ks:List κ) (acc:List κ) (x:Option U),ds.map ky=ks.map some->acc.length+ds.length < 1000->iE x=false->
    ∃x',loop (bName 2) cL ds [some (.t sd),some (.m (mk (ent 0 acc))),x]=some (.nx [some (.t sd),some (.m (mk (ent 0 (iM acc ks)))),x'])
  | [],ks,acc,x,h,_,_=>by
    cases ks with
    | nil=>exact⟨x,rfl⟩
    | cons=>cases h
  | d :: ds, ks, acc, x, h, hl, hx => by
    cases ks with
    | nil=>cases h
    | cons k ks=>
      have hl:acc.length+(ds.length+1) < 1000:=hl
      injection h with h1 h2
      obtain⟨x',e⟩:=yS K (sd:=sd) ds ks (if k∈acc then acc else acc++[k]) (some (.t d)) h2 (by split <;> (try rw[List.length_append,List.length_singleton]) <;> omega) rfl
      refine⟨x',?_⟩
      have eb:bName 2 d [some (.t sd),some (.m (mk (ent 0 acc))),x]=some [some (.t sd),some (.m (mk (ent 0 acc))),some (.t d)]:=by simp[-dO,cE,hx]
      rw[jP,eb,Option.bind_some,EK K h1 (by omega),Option.bind_some]
      exact e
theorem yT (K : Kk mk ky) {sd : D} {acc : List κ} {x : Option U} : ∀ (ds : List D) (ks : List κ) (out : List D), ds.map ky = ks.map some -> (∀ k ∈ ks, k ∈ acc) ->
    aW [1] aO (aL 1 (eF (ao 0))) ds [some (.t sd),some (.m (mk (ent 0 acc))),x] out=some (out++iD (ks.map fun k=>acc.idxOf k),[some (.t sd),some (.m (mk (ent 0 acc))),x])
  | [],ks,out,h,_=>by
    cases ks with
    | nil=>simp[aW,iD]
    | cons=>cases h
  | d :: ds, ks, out, h, hm => by
    cases ks with
    | nil=>cases h
    | cons k ks=>
      injection h with h1 h2
      have e:=K.rb (ent 0 acc) d k h1
      rw[fq (hm k List.mem_cons_self)] at e
      have e1:aW [1] aO (aL 1 (eF (ao 0))) [d] [some (.t sd),some (.m (mk (ent 0 acc))),x] out=some (out++[.int (acc.idxOf k:Nat)],[some (.t sd),some (.m (mk (ent 0 acc))),x]):=by
        simp[aW,bL,fM,e,aK]
      rw[Sq.fO,e1,Option.bind_some]
      refine(yT K (sd:=sd) (x:=x) ds ks (out++[D.int ((acc.idxOf k:Nat):Int)]) h2 fun q hq=>hm q (List.mem_cons_of_mem _ hq)).trans ?_
      simp[iD]
theorem yU (K:Kk mk ky){sd:D}{ds:List D}{ks:List κ}(hs:sd= .tup ds\/sd= .lst ds) (hk:ds.map ky=ks.map some) (hl:ds.length < 1000):
  ∃a S,(aR (jX (bName 2) (cU (eF (ao 0))) (cL)) (ff (bO [1] (cU (eF (ao 0))) aO (aL 1 (eF (ao 0)))))) [some (.t sd),some (.m (mk [])),none]=some (.rt (.m (.lst (iD (jJ ks)))) (a :: S)):=by
 obtain⟨x,e⟩:=yS K (sd:=sd) ds ks [] none hk (by simpa using hl) rfl
 have e2:=yT K (sd:=sd) (acc:=iM [] ks) (x:=x) ds ks [] hk fun k h=>fP.mpr (.inr h)
 have hz:ds.length<=100000:=by omega
 rw[List.nil_append] at e2
 have e:loop (bName 2) cL ds [some (.t sd),some (.m (mk [])),none]=some (.nx [some (.t sd),some (.m (mk (ent 0 (iM [] ks)))),x]):=e
 rcases hs with rfl | rfl
 ·exact⟨_,_,by simp[eB,e,bZ,e2,hz,jJ];exact⟨rfl,rfl⟩⟩
 ·exact⟨_,_,by simp[eB,e,bZ,e2,hz,jJ];exact⟨rfl,rfl⟩⟩
end
theorem LH {sd:D}{ds:List D}{ks:List Key}(hs:sd= .tup ds\/sd= .lst ds) (hk:ds.map keyOf=ks.map some) (hl:ds.length < 1000):tR [.t sd]=some (.m (.lst (iD (jJ ks))),[]):=by
 obtain⟨a,S,e⟩:=yU yQ hs hk hl
 have eg:eO [some (.t sd),none,none]=some (.rt (.m (.lst (iD (jJ ks)))) (a :: S)):=by
  unfold eO Ow
  rw[show(aR (bz 1 tH) (aR (jX (bName 2) (cU (eF (ao 0))) (cL)) (ff (bO [1] (cU (eF (ao 0))) aO (aL 1 (eF (ao 0))))))) [some (.t sd),none,none]=some (.rt (.m (.lst (iD (jJ ks)))) (a :: S)) from e]
  rfl
 show(eO [some (.t sd),none,none]).bind _=_
 rw[eg]
 rfl
theorem LI {sd : D} {ds : List D} {ks : List D} (hs : sd = .tup ds \/ sd = .lst ds) (h0 : ds ≠ []) (hk : ds.map ju = ks.map some) (hl : ds.length < 1000) : tR [.t sd] = some (.m (.lst (iD (jJ ks))), []) := by
  obtain⟨a,S,e⟩:=yU wK hs hk hl
  have no : (aR (bz 1 tH) (aR (jX (bName 2) (cU (eF (ao 0))) (cL)) (ff (bO [1] (cU (eF (ao 0))) aO (aL 1 (eF (ao 0))))))) [some (.t sd), none, none] = none := by
    cases ds with
    | nil=>exact absurd rfl h0
    | cons d ds=>
      cases ks with
      | nil=>cases hk
      | cons k ks=>
        injection hk with h1 h2
        cases d with
        | tup zs=>
          have ew:cL [some (.t sd),some (.m (.dct [])),some (.t (.tup zs))]=none:=rfl
          have el:loop (bName 2) cL (.tup zs :: ds) [some (.t sd),some (.m (.dct [])),none]=none:=by
            rw[jP,show bName 2 (.tup zs) [some (.t sd),some (.m (.dct [])),none]=some [some (.t sd),some (.m (.dct [])),some (.t (.tup zs))] from rfl,Option.bind_some,ew]
            rfl
          rcases hs with rfl | rfl <;> simp[eB,el]
        | _=>cases h1
  have eg:eO [some (.t sd),none,none]=some (.rt (.m (.lst (iD (jJ ks)))) (a :: S)):=by
    unfold eO Ow
    rw[no]
    exact e
  show(eO [some (.t sd),none,none]).bind _=_
  rw[eg]
  rfl
noncomputable def rw' (N:List (List Int)) (s:Nat):List Int:=N.getD s []
noncomputable def gZ (N:List (List Int)) (s c:Nat):Nat:=((rw' N s).getD c 0).toNat
theorem rw_get {N:List (List Int)}{s:Nat}(h:s < N.length):N[s]? =some (rw' N s):=by
 unfold rw'
 rw[List.getD_eq_getElem?_getD,List.getElem?_eq_getElem h]
 rfl
theorem HK {N:List (List Int)}{s:Nat}(h:s < N.length):cX (N.map Sq.bR) (s:Int)=some (.tup ((rw' N s).map D.int)):=
 Sq.qE (Int.natCast_nonneg s) (by rw[Int.toNat_natCast,List.getElem?_map,rw_get h];rfl)
theorem kJ {ns:List Nat}{s:Nat}(h:s < ns.length):cX (iD ns) (s:Int)=some (.int (na ns s:Nat)):=
 Sq.qE (Int.natCast_nonneg s) (by rw[Int.toNat_natCast,iD,List.getElem?_map,bU h];rfl)
theorem look_same {κ:Type} [DecidableEq κ] {kvs:List (κ×D)}{k:κ}{d:D}(h:bx kvs k=none):bx (kvs++[(k,d)]) k=some d:=by
 unfold bx at h ⊢
 rw[Option.map_eq_none_iff] at h
 rw[List.find?_append,h]
 simp
theorem tT {κ:Type} [DecidableEq κ] {kvs:List (κ×D)}{k k':κ}{d:D}(h:k≠k'):bx (kvs++[(k,d)]) k'=bx kvs k':=by
 unfold bx
 rw[List.find?_append,List.find?_cons_of_neg (by simpa using h),List.find?_nil,Option.or_none]
noncomputable def Wd (d:D):Prop:=(∃b,d= .bl b)\/∃z,d= .str z
theorem LJ {x y:Bool}(h:bI x=bI y):x=y:=by cases x <;> cases y <;> first | rfl | (exact absurd h (by decide))
noncomputable def HL:D->Key
 | .bl b=>.inl (bI b)
 | .str z=>.inr z
 | _=>.inl 0
theorem OW {a:D}(ha:Wd a):keyOf a=some (HL a):=by rcases ha with⟨x,rfl⟩ | ⟨x,rfl⟩ <;> rfl
theorem HM {a b:D}(ha:Wd a) (hb:Wd b) (h:HL a=HL b):a=b:=by
 rcases ha with⟨x,rfl⟩ | ⟨x,rfl⟩ <;> rcases hb with⟨y,rfl⟩ | ⟨y,rfl⟩
 ·injection h with h;rw[LJ h]
 ·cases h
 ·cases h
 ·injection h with h;rw[h]
noncomputable def iV (M:List D) (s:Nat):D:=M.getD s .dh
theorem tU {M:List D}{s:Nat}(h:s < M.length):M[s]? =some (iV M s):=by
 unfold iV
 rw[List.getD_eq_getElem?_getD,List.getElem?_eq_getElem h]
 rfl
theorem yV {M:List D}{s:Nat}(h:s < M.length):cX M (s:Int)=some (iV M s):=
 Sq.qE (Int.natCast_nonneg s) (by rw[Int.toNat_natCast];exact tU h)
theorem tV {M:List D}{s:Nat}(h:s < M.length):iV M s∈M:=List.mem_of_getElem? (tU h)
theorem OX (a b c:D):cX [a,b,c] 0=some a/\cX [a,b,c] 1=some b/\cX [a,b,c] 2=some c:=⟨rfl,rfl,rfl⟩
section
variable {f1 f2 f3 f4:FM}{td md:D}{OY OZ H RD VD rf rg cr told yW:List D}{f g d a b r:Int}{hd:D}{y7 y8 y9 EL:Option U}
end
theorem wL {ns:List Nat}{n:Nat}(h:ns.length=n):iD ns=(List.range n).map fun s=>D.int (na ns s:Nat):=by
 subst h
 unfold iD
 apply List.ext_getElem?
 intro i
 rw[List.getElem?_map,List.getElem?_map]
 by_cases c:i < ns.length
 ·rw[bU c,List.getElem?_range c]
  rfl
 ·rw[List.getElem?_eq_none (by omega),List.getElem?_eq_none (by rw[List.length_range];omega)]
  rfl
theorem EM {ns:List Nat}{c:Nat}(h:yL ns c) (hc:0 < c):kD [.lst (iD ns)]=some (.t (.int ((c - 1:Nat):Int))):=by
 have e:L2.bR (iD ns)=some (ns.map fun n:Nat=>(n:Int)):=by
  unfold iD
  clear h
  induction ns with
  | nil=>rfl
  | cons n ns ih=>simp only[List.map_cons,L2.bR,ih];rfl
 have m:((c - 1:Nat):Int)∈ns.map fun n:Nat=>(n:Int):=List.mem_map.mpr ⟨c - 1,h.on _ (by omega),rfl⟩
 have e2:p5 (ns.map fun n:Nat=>(n:Int))=((c - 1:Nat):Int):=BA m fun a ha=>by
  obtain⟨v,hv,rfl⟩:=List.mem_map.mp ha
  have:=h.lt v hv
  omega
 show(L2.bR (iD ns)).bind _=_
 rw[e,Option.bind_some,if_neg (List.ne_nil_of_mem m),e2]
theorem wM {ns:List Nat}{c:Nat}(h:yL ns c):c<=ns.length:=by
 have:=List.nodup_range.length_le_of_subset (l₁:=List.range c) (l₂:=ns) fun v hv=>h.on v (List.mem_range.mp hv)
 rwa [List.length_range] at this
section
variable {κ:Type} [DecidableEq κ] {mk:List (κ×D)->MO}{ky:D->Option κ}
noncomputable def wN (acc:List κ) (k:κ):List κ:=if k∈acc then acc else acc++[k]
theorem EN (acc:List κ) (k:κ):k∈wN acc k:=by
 unfold wN
 split
 ·assumption
 ·simp
end
noncomputable def EO:List D:=[.bl true,.bl false,.str "yes",.str "no",.str "open",.str "True",.str ""]
theorem Xs {a:D}(ha:a∈EO):Wd a:=by
 unfold EO at ha
 simp only[List.mem_cons,List.not_mem_nil,or_false] at ha
 rcases ha with rfl | rfl | rfl | rfl | rfl | rfl | rfl
 ·exact .inl ⟨_,rfl⟩
 ·exact .inl ⟨_,rfl⟩
 all_goals exact .inr ⟨_,rfl⟩
theorem ER:∀z∈(["yes","no","open","True",""]:List Str),(z.cps.toList.all fun c=>decide (c < 16 ^ 8))=true/\z.length<=4:=by decide +kernel
theorem HN {a:D}(ha:a∈EO):Sane a/\wD a<=42/\iS a=0:=by
 have str:∀z∈(["yes","no","open","True",""]:List Str),Sane (.str z)/\wD (.str z)<=42/\iS (.str z)=0:=fun z hz=>by
  obtain⟨h1,h2⟩:=ER z hz
  refine⟨fun c hc=>?_,?_,rfl⟩
  ·exact of_decide_eq_true (List.all_eq_true.mp h1 c hc)
  ·show 10 * z.length+2<=42;omega
 unfold EO at ha
 simp only[List.mem_cons,List.not_mem_nil,or_false] at ha
 rcases ha with rfl | rfl | rfl | rfl | rfl | rfl | rfl
 ·exact⟨True.intro,by show 6<=42;omega,rfl⟩
 ·exact⟨True.intro,by show 6<=42;omega,rfl⟩
 all_goals exact str _ (by simp)
noncomputable def kk (N:List (List Int)) (W:Nat) (ns:List Nat) (k:Nat):D:=.tup [.int (na ns k:Nat),.tup ((List.range W).map fun c=>D.int (na ns (gZ N k c):Nat))]
theorem tW:∀l:List Int,Gy (l.map D.int)=l.map D.int
 | []=>rfl
 | x :: l=>by show nf (.int x) :: Gy (l.map D.int)=_;rw[tW l];rfl
noncomputable def next (N:List (List Int)) (W:Nat) (ns:List Nat):List Nat:=jJ ((List.range N.length).map (kk N W ns))
section
variable {f:FM}{OY OZ firsts yW:List D}{z1 x3 x4:Option U}
end
theorem nh {n:Nat}{g:GS}{us:List U}{d:D}{S:SS}(h:g (us.map some++List.replicate (n - us.length) none)=some (.rt (.t d) S)) (ho:aK us S=some []):bG n g us=some (.t d,[]):=by
 unfold bG
 rw[h]
 simp only[Option.bind_some,ho,Option.map_some]
theorem yX {κ : Type} [DecidableEq κ] : ∀ (l acc : List κ), l.foldl step_dedup acc = iM acc l
  | [],acc=>rfl
  | x :: l, acc => by
    show l.foldl step_dedup (step_dedup acc x)=iM (if x∈acc then acc else acc++[x]) l
    rw[yX l]
    congr 1
    unfold step_dedup
    by_cases h:x∈acc
    . have e:(acc.any fun y=>y == x)=true:=List.any_eq_true.mpr ⟨x,h,beq_self_eq_true x⟩
      rw[if_pos h,if_pos e]
    . have e:¬(acc.any fun y=>y == x)=true:=fun z=>by
        obtain⟨y,hy,e⟩:=List.any_eq_true.mp z
        exact h (by rw[<-eq_of_beq e];exact hy)
      rw[if_neg h,if_neg e]
theorem ES {α:Type}(l:List α) (x:α):(List.range l.length).map (fun i=>l.getD i x)=l:=by
 apply List.ext_getElem?
 intro i
 rw[List.getElem?_map]
 by_cases c:i < l.length
 ·rw[List.getElem?_range c]
  show some (l.getD i x)=_
  rw[List.getD_eq_getElem?_getD,List.getElem?_eq_getElem c]
  rfl
 ·rw[List.getElem?_eq_none (l:=l) (by omega),List.getElem?_eq_none (by rw[List.length_range];omega)];rfl
noncomputable def wl (N:List (List Int)) (M:List D) (Rs:List (List Nat)) (s:Nat):List D:=Rs.map fun cs=>iV M (led (gZ N) cs s)
section
variable {T:List (Str×Int)}{N:List (List Int)}{M:List D}{Rs:List (List Nat)}
end
end Sl
end
section
namespace Sk
open PySem PySem.Spec PyProof.Rows L2 Sl
theorem d9 (nx:Nat->Nat->Nat):∀(cs ds:List Nat) (s:Nat),led nx (cs++ds) s=led nx ds (led nx cs s)
 | [],_,_=>rfl
 | c :: cs,ds,s=>d9 nx cs ds (nx s c)
noncomputable def Vd (W:Nat) (cs:List Nat):Prop:=∀c∈cs,c < W
theorem j6 {W:Nat}{cs ds:List Nat}(a:Vd W cs) (b:Vd W ds):Vd W (cs++ds):=fun c hc=>(List.mem_append.mp hc).elim (a c) (b c)
theorem tX {W c:Nat}(h:c < W):Vd W [c]:=fun d hd=>by rw[List.mem_singleton.mp hd];exact h
noncomputable def Er (s' c' s c:Nat):Prop:=s' < s\/(s'=s/\c' < c)
structure Canon (W n:Nat) (nx:Nat->Nat->Nat) (wd:Nat->D):Prop where
 pos:0 < n
 lt:∀s c,s < n->c < W->nx s c < n
 ord:∀j,0 < j->j < n->∃s c,s < j/\c < W/\nx s c=j/\∀s' c',c' < W->Er s' c' s c->nx s' c' < j
 apart:∀s t,s < n->t < n->s≠t->∃cs,Vd W cs/\wd (led nx cs s)≠wd (led nx cs t)
theorem Canon.fy {W n:Nat}{nx:Nat->Nat->Nat}{wd:Nat->D}(A:Canon W n nx wd):∀{cs:List Nat}{s:Nat},Vd W cs->s < n->led nx cs s < n
 | [],s,_,hs=>hs
 | c :: cs,s,h,hs=>Canon.fy A (cs:=cs) (s:=nx s c) (fun d hd=>h d (List.mem_cons_of_mem _ hd)) (A.lt s c hs (h c List.mem_cons_self))
section
variable {W n n':Nat}{nx nx':Nat->Nat->Nat}{wd jL:Nat->D}
noncomputable def Acc (W:Nat) (nx nx':Nat->Nat->Nat) (v:Nat):Prop:=∃cs,Vd W cs/\led nx cs 0=v/\led nx' cs 0=v
theorem yY (A':Canon W n' nx' jL) (h:∀cs,Vd W cs->wd (led nx cs 0)=jL (led nx' cs 0)){rs ra:List Nat}(h1:Vd W rs) (h2:Vd W ra) (e:led nx rs 0=led nx ra 0):led nx' rs 0=led nx' ra 0:=by
 apply Classical.byContradiction
 intro ne
 obtain⟨ds,hd,q⟩:=A'.apart _ _ (A'.fy h1 A'.pos) (A'.fy h2 A'.pos) ne
 refine q ?_
 rw[<-d9,<-d9,<-h _ (j6 h1 hd),<-h _ (j6 h2 hd),d9,d9,e]
theorem ET (A : Canon W n nx wd) (A' : Canon W n' nx' jL) (h : ∀ cs, Vd W cs -> wd (led nx cs 0) = jL (led nx' cs 0)) {s : Nat} (hs : s < n) (hs' : s < n') (as : Acc W nx nx' s) (ih : ∀ s', s' < s -> Acc W nx nx' s' /\ ∀ c, c < W -> nx s' c = nx' s' c) : ∀ c, c < W -> nx s c = nx' s c := by
  intro c
  induction c using Nat.strongRecOn with
  | _ c Zh =>
    intro hc
    have er:∀s' c',c' < W->Er s' c' s c->Acc W nx nx' s'/\nx s' c'=nx' s' c':=fun s' c' hc' e=>by
      rcases e with e | ⟨rfl,e⟩
      . exact⟨(ih s' e).1,(ih s' e).2 c' hc'⟩
      . exact⟨as,Zh c' e hc'⟩
    have BK:∀s' c',c' < W->Er s' c' s c->Acc W nx nx' (nx s' c'):=fun s' c' hc' e=>by
      obtain⟨⟨cs,v,e1,e2⟩,eq⟩:=er s' c' hc' e
      refine⟨cs++[c'],j6 v (tX hc'),?_,?_⟩
      . rw[d9,e1];rfl
      . rw[d9,e2,eq];rfl
    have zero:Acc W nx nx' 0:=⟨[],fun c hc=>(by cases hc),rfl,rfl⟩
    obtain⟨rs,Xu,r1,r2⟩:=as
    have ra:led nx (rs++[c]) 0=nx s c:=by rw[d9,r1];rfl
    have rb:led nx' (rs++[c]) 0=nx' s c:=by rw[d9,r2];rfl
    have JQ:Acc W nx nx' (nx s c)->nx s c=nx' s c:=fun⟨cs,v,e1,e2⟩=>by
      have:=yY A' h (j6 Xu (tX hc)) v (by rw[ra,e1])
      rw[rb,e2] at this
      exact this.symm
    have JR:Acc W nx nx' (nx' s c)->nx s c=nx' s c:=fun⟨cs,v,e1,e2⟩=>by
      have:=yY A (fun cs v=>(h cs v).symm) (j6 Xu (tX hc)) v (by rw[rb,e2])
      rw[ra,e1] at this
      exact this
    apply Classical.byContradiction
    intro ne
    have a0:nx s c≠0:=fun z=>ne (JQ (by rw[z];exact zero))
    have b0:nx' s c≠0:=fun z=>ne (JR (by rw[z];exact zero))
    have Xv:∀s2 c2,Er s2 c2 s c\/(s2=s/\c2=c)\/Er s c s2 c2:=fun s2 c2=>by unfold Er;omega
    rcases Nat.lt_or_gt_of_ne ne with lt | lt
    . obtain⟨s2,c2,_,hc2,e2,q⟩:=A'.ord (nx s c) (by omega) (Nat.lt_trans lt (A'.lt s c hs' hc))
      rcases Xv s2 c2 with t | ⟨rfl,rfl⟩ | t
      . refine ne (JQ ?_)
        rw[<-e2,<-(er s2 c2 hc2 t).2]
        exact BK s2 c2 hc2 t
      . exact ne e2.symm
      . have:=q s c hc t;omega
    . obtain⟨s2,c2,_,hc2,e2,q⟩:=A.ord (nx' s c) (by omega) (Nat.lt_trans lt (A.lt s c hs hc))
      rcases Xv s2 c2 with t | ⟨rfl,rfl⟩ | t
      . refine ne (JR ?_)
        rw[<-e2]
        exact BK s2 c2 hc2 t
      . exact ne e2
      . have:=q s c hc t;omega
theorem yZ (A : Canon W n nx wd) (A' : Canon W n' nx' jL) (h : ∀ cs, Vd W cs -> wd (led nx cs 0) = jL (led nx' cs 0)) : ∀ s, s < n -> s < n' -> Acc W nx nx' s /\ ∀ c, c < W -> nx s c = nx' s c := by
  intro s
  induction s using Nat.strongRecOn with
  | _ s ih =>
    intro hs hs'
    have ih':∀s',s' < s->Acc W nx nx' s'/\∀c,c < W->nx s' c=nx' s' c:=fun s' l=>ih s' l (by omega) (by omega)
    have as:Acc W nx nx' s:=by
      by_cases z:s=0
      . subst z;exact⟨[],fun c hc=>(by cases hc),rfl,rfl⟩
      . obtain⟨s1,c1,l1,hc1,e1,_⟩:=A.ord s (by omega) hs
        obtain⟨⟨cs,v,a1,a2⟩,q⟩:=ih' s1 l1
        refine⟨cs++[c1],j6 v (tX hc1),?_,?_⟩
        . rw[d9,a1];exact e1
        . rw[d9,a2];show nx' s1 c1=s;rw[<-q c1 hc1,e1]
    exact⟨as,ET A A' h hs hs' as ih'⟩
theorem BL (A:Canon W n nx wd) (A':Canon W n' nx' jL) (h:∀cs,Vd W cs->wd (led nx cs 0)=jL (led nx' cs 0)):¬n < n':=fun lt=>by
 obtain⟨s,c,l,hc,e,_⟩:=A'.ord n A.pos lt
 have:=(yZ A A' h s l (by omega)).2 c hc
 have:=A.lt s c l hc
 omega
theorem canon_one (A:Canon W n nx wd) (A':Canon W n' nx' jL) (h:∀cs,Vd W cs->wd (led nx cs 0)=jL (led nx' cs 0)):n=n'/\∀s,s < n->wd s=jL s/\∀c,c < W->nx s c=nx' s c:=by
 have a:=BL A A' h
 have b:=BL A' A fun cs v=>(h cs v).symm
 have e:n=n':=by omega
 refine⟨e,fun s hs=>?_⟩
 obtain⟨⟨cs,v,e1,e2⟩,q⟩:=yZ A A' h s hs (by omega)
 refine⟨?_,q⟩
 have:=h cs v
 rw[e1,e2] at this
 exact this
end
section
variable {κ:Type} [DecidableEq κ]
structure Bf (nx:Nat->Nat->Nat) (ky:Nat->κ) (W:Nat) (L:List Nat) (a col:Nat):Prop where
 zero:L[0]? =some 0
 nd:(L.map ky).Nodup
 ord:∀j v,0 < j->L[j]? =some v->∃s c u,s < j/\c < W/\L[s]? =some u/\nx u c=v/\∀s' c' u',c' < W->Er s' c' s c->L[s']? =some u'->∃i,i < j/\(L.map ky)[i]? =some (ky (nx u' c'))
 seen:∀s c u,c < W->Er s c a col->L[s]? =some u->ky (nx u c)∈L.map ky
variable {nx:Nat->Nat->Nat}{ky:Nat->κ}{W:Nat}{L:List Nat}{a col:Nat}
theorem BN:Bf nx ky W [0] 0 0 where
 zero:=rfl
 nd:=by simp
 ord:=fun j v h0 h=>by
  cases j with
  | zero=>omega
  | succ j=>cases h
 seen:=fun s c u _ e=>by unfold Er at e;omega
theorem Bf.skip (h:Bf nx ky W L a col){u:Nat}(hu:L[a]? =some u) (m:ky (nx u col)∈L.map ky):Bf nx ky W L a (col+1) where
 zero:=h.zero
 nd:=h.nd
 ord:=h.ord
 seen:=fun s c v hc e hv=>by
  by_cases q:Er s c a col
  ·exact h.seen s c v hc q hv
  ·have:s=a/\c=col:=by unfold Er at e q;omega
   obtain⟨rfl,rfl⟩:=this
   rw[hu] at hv
   cases hv
   exact m
theorem Bf.add (h:Bf nx ky W L a col){u:Nat}(hu:L[a]? =some u) (hc:col < W) (m:ky (nx u col)∉L.map ky):Bf nx ky W (L++[nx u col]) a (col+1):=by
 have hl:=(List.getElem?_eq_some_iff.mp hu).1
 have old:∀{s v},s < L.length->((L++[nx u col])[s]? =some v↔L[s]? =some v):=fun {s v} l=>by rw[List.getElem?_append_left l]
 refine⟨?_,?_,fun j v h0 hj=>?_,fun s c v hc' e hv=>?_⟩
 ·exact(old (List.getElem?_eq_some_iff.mp h.zero).1).mpr h.zero
 ·rw[List.map_append,List.nodup_append]
  exact⟨h.nd,by simp,fun x hx y hy e=>m (by rw[List.map_singleton,List.mem_singleton] at hy;rw[<-hy,<-e];exact hx)⟩
 ·by_cases l:j < L.length
  ·obtain⟨s,c,w,b1,b2,b3,b4,b5⟩:=h.ord j v h0 ((old l).mp hj)
   refine⟨s,c,w,b1,b2,(old (by omega)).mpr b3,b4,fun s' c' u' q1 q2 q3=>?_⟩
   have ls:s' < L.length:=by unfold Er at q2;omega
   obtain⟨i,i1,i2⟩:=b5 s' c' u' q1 q2 ((old ls).mp q3)
   refine⟨i,i1,?_⟩
   rw[List.map_append,List.getElem?_append_left (by rw[List.length_map];omega)]
   exact i2
  ·rw[List.getElem?_append_right (by omega)] at hj
   have jl:=(List.getElem?_eq_some_iff.mp hj).1
   have jl:j - L.length < 1:=jl
   have:j=L.length:=by omega
   subst this
   rw[Nat.sub_self] at hj
   cases hj
   refine⟨a,col,u,hl,hc,(old hl).mpr hu,rfl,fun s' c' u' q1 q2 q3=>?_⟩
   have ls:s' < L.length:=by unfold Er at q2;omega
   obtain⟨i,i1⟩:=List.getElem?_of_mem (h.seen s' c' u' q1 q2 ((old ls).mp q3))
   have il:=(List.getElem?_eq_some_iff.mp i1).1
   rw[List.length_map] at il
   exact⟨i,il,by rw[List.map_append,List.getElem?_append_left (by rw[List.length_map];exact il)];exact i1⟩
 ·have ls:s < L.length:=by unfold Er at e;omega
  rw[List.map_append]
  by_cases q:Er s c a col
  ·exact List.mem_append_left _ (h.seen s c v hc' q ((old ls).mp hv))
  ·have:s=a/\c=col:=by unfold Er at e q;omega
   obtain⟨rfl,rfl⟩:=this
   have:=(old ls).mp hv
   rw[hu] at this
   cases this
   exact List.mem_append_right _ (by simp)
theorem Bf.row (h:Bf nx ky W L a W):Bf nx ky W L (a+1) 0 where
 zero:=h.zero
 nd:=h.nd
 ord:=h.ord
 seen:=fun s c u hc e hu=>h.seen s c u hc (by unfold Er at e ⊢;omega) hu
noncomputable def ix (ky:Nat->κ) (L:List Nat) (v:Nat):Nat:=(L.map ky).idxOf (ky v)
noncomputable def ni (nx:Nat->Nat->Nat) (ky:Nat->κ) (L:List Nat) (s c:Nat):Nat:=ix ky L (nx (na L s) c)
theorem JV {v:Nat}(h:ky v∈L.map ky):ix ky L v < L.length:=by
 have:=List.idxOf_lt_length_of_mem h
 rwa [List.length_map] at this
theorem O0 {v:Nat}(h:ky v∈L.map ky):ky (na L (ix ky L v))=ky v:=by
 have l:=JV h
 have e:(L.map ky)[ix ky L v]? =some (ky v):=by
  rw[List.getElem?_eq_getElem (by rw[List.length_map];exact l)]
  congr 1
  exact List.getElem_idxOf (by rw[List.length_map];exact l)
 rw[List.getElem?_map,bU l] at e
 exact Option.some.inj e
theorem BO (nd:(L.map ky).Nodup){i:Nat}{v:Nat}(h:(L.map ky)[i]? =some (ky v)):ix ky L v=i:=by
 obtain⟨hl,e⟩:=List.getElem?_eq_some_iff.mp h
 unfold ix
 rw[<-e]
 exact nd.idxOf_getElem i hl
structure LK (nx:Nat->Nat->Nat) (wd:Nat->D) (ky:Nat->κ) (W:Nat) (P:Nat->Prop):Prop where
 zero:P 0
 cl:∀s c,P s->c < W->P (nx s c)
 eq:∀s t c,P s->P t->c < W->ky s=ky t->ky (nx s c)=ky (nx t c)
 word:∀s t,P s->P t->ky s=ky t->wd s=wd t
 ne:∀s t,P s->P t->ky s≠ky t->∃cs,Vd W cs/\wd (led nx cs s)≠wd (led nx cs t)
theorem canon_of {wd:Nat->D}{P:Nat->Prop}(C:LK nx wd ky W P) (h:Bf nx ky W L a 0) (hl:L.length<=a) (hP:∀v∈L,P v):Canon W L.length (ni nx ky L) (fun s=>wd (na L s))/\∀cs,Vd W cs->wd (na L (led (ni nx ky L) cs 0))=wd (led nx cs 0):=by
 have l0:0 < L.length:=(List.getElem?_eq_some_iff.mp h.zero).1
 have n0:na L 0=0:=by have:=bU l0;rw[h.zero] at this;exact(Option.some.inj this).symm
 have mem:∀s c,s < L.length->c < W->ky (nx (na L s) c)∈L.map ky:=fun s c hs hc=>h.seen s c _ hc (by unfold Er;omega) (bU hs)
 have pn:∀s,s < L.length->P (na L s):=fun s hs=>hP _ (cV hs)
 have lt:∀s c,s < L.length->c < W->ni nx ky L s c < L.length:=fun s c hs hc=>JV (mem s c hs hc)
 have way:∀(cs:List Nat) (s v:Nat),Vd W cs->s < L.length->P v->ky (na L s)=ky v->led (ni nx ky L) cs s < L.length/\ky (na L (led (ni nx ky L) cs s))=ky (led nx cs v)/\P (led nx cs v):=by
  intro cs
  induction cs with
  | nil=>intro s v _ hs hv e;exact⟨hs,e,hv⟩
  | cons c cs ih=>
   intro s v hc hs hv e
   have hcc:=hc c List.mem_cons_self
   refine ih (ni nx ky L s c) (nx v c) (fun d hd=>hc d (List.mem_cons_of_mem _ hd)) (lt s c hs hcc) (C.cl v c hv hcc) ?_
   unfold ni
   rw[O0 (mem s c hs hcc)]
   exact C.eq _ _ c (pn s hs) hv hcc e
 refine⟨⟨l0,lt,fun j j0 hj=>?_,fun s t hs ht ne=>?_⟩,fun cs hc=>?_⟩
 ·obtain⟨s,c,u,b1,b2,b3,b4,b5⟩:=h.ord j _ j0 (bU hj)
  have us:na L s=u:=by have:=bU (ns:=L) (i:=s) (by omega);rw[b3] at this;exact(Option.some.inj this).symm
  refine⟨s,c,b1,b2,?_,fun s' c' q1 q2=>?_⟩
  ·unfold ni
   rw[us,b4]
   exact BO h.nd (by rw[List.getElem?_map,bU hj];rfl)
  ·have ls:s' < L.length:=by unfold Er at q2;omega
   obtain⟨i,i1,i2⟩:=b5 s' c' _ q1 q2 (bU ls)
   unfold ni
   rw[BO h.nd i2]
   exact i1
 ·have Zi:ky (na L s)≠ky (na L t):=fun e=>ne (by
   have a1:=BO h.nd (v:=na L s) (i:=s) (by rw[List.getElem?_map,bU hs];rfl)
   have a2:=BO h.nd (v:=na L t) (i:=t) (by rw[List.getElem?_map,bU ht];rfl)
   rw[<-a1,<-a2]
   unfold ix
   rw[e])
  obtain⟨cs,vc,q⟩:=C.ne _ _ (pn s hs) (pn t ht) Zi
  refine⟨cs,vc,fun e=>q ?_⟩
  obtain⟨w1,w2,w3⟩:=way cs s _ vc hs (pn s hs) rfl
  obtain⟨v1,v2,v3⟩:=way cs t _ vc ht (pn t ht) rfl
  rw[<-C.word _ _ (pn _ w1) w3 w2,<-C.word _ _ (pn _ v1) v3 v2]
  exact e
 ·obtain⟨w1,w2,w3⟩:=way cs 0 0 hc l0 C.zero (by rw[n0])
  exact C.word _ _ (pn _ w1) w3 w2
end
noncomputable def Fo (ns:List Nat):Prop:=∀i,i < ns.length->∀k,k < na ns i->∃i',i' < i/\na ns i'=k
theorem wO {κ:Type} [DecidableEq κ]:∀(l m acc:List κ),iM acc (l++m)=iM (iM acc l) m
 | [],m,acc=>rfl
 | x :: l,m,acc=>wO l m _
theorem BP {κ:Type} [DecidableEq κ] (ks:List κ):Fo (jJ ks):=fun i hi k hk=>by
 rw[lq] at hi
 have ei:ks[i]? =some ks[i]:=List.getElem?_eq_getElem hi
 rw[sC ei] at hk
 have es:ks=ks.take i++ks[i] :: ks.drop (i+1):=by rw[<-List.drop_eq_getElem_cons hi,List.take_append_drop]
 have ed:iM [] ks=iM (if ks[i]∈iM [] (ks.take i) then iM [] (ks.take i) else iM [] (ks.take i)++[ks[i]]) (ks.drop (i+1)):=by
  conv=>lhs;rw[es]
  rw[wO]
  rfl
 generalize hx:ks[i]=x at *
 generalize hacc:iM [] (ks.take i)=acc at *
 obtain⟨r,er⟩:=BI (ks.drop (i+1)) (if x∈acc then acc else acc++[x])
 rw[er] at ed
 have kl:k < acc.length/\(iM [] ks)[k]? =acc[k]?:=by
  by_cases m:x∈acc
  ·rw[if_pos m] at ed
   rw[ed,List.idxOf_append,if_pos m] at hk
   have:=List.idxOf_lt_length_of_mem m
   exact⟨by omega,by rw[ed,List.getElem?_append_left (by omega)]⟩
  ·rw[if_neg m] at ed
   rw[ed,List.append_assoc,List.idxOf_append,if_neg m] at hk
   have z:([x]++r).idxOf x=0:=by show(x :: r).idxOf x=0;simp
   rw[z] at hk
   exact⟨by omega,by rw[ed,List.append_assoc,List.getElem?_append_left (by omega)]⟩
 obtain⟨hk',e⟩:=kl
 rw[List.getElem?_eq_getElem hk'] at e
 have m:acc[k]∈ks.take i:=by
  have mm:∀y,y∈acc->y∈iM [] (ks.take i):=fun y hy=>by rw[hacc];exact hy
  rcases fP.mp (mm _ (List.getElem_mem hk')) with z | z
  ·cases z
  ·exact z
 obtain⟨i',hi',e'⟩:=List.getElem_of_mem m
 rw[List.length_take] at hi'
 rw[List.getElem_take] at e'
 refine⟨i',by omega,?_⟩
 rw[sC (k:=acc[k]) (by rw[List.getElem?_eq_getElem (by omega),e'])]
 obtain⟨hl,e2⟩:=List.getElem?_eq_some_iff.mp e
 rw[<-e2]
 exact(pB List.nodup_nil).idxOf_getElem k hl
section
variable {ns:List Nat}{c:Nat}
theorem j7 {k:Nat}(h:yL ns c) (hk:k < c):ns.idxOf k < ns.length/\na ns (ns.idxOf k)=k:=by
 have l:=List.idxOf_lt_length_of_mem (h.on k hk)
 refine⟨l,?_⟩
 have a:=bU l
 rw[List.getElem?_eq_getElem l,List.getElem_idxOf l] at a
 exact(Option.some.inj a).symm
theorem EU {i:Nat}(hi:i < ns.length):ns.idxOf (na ns i)<=i:=by
 apply Classical.byContradiction
 intro h
 have:=List.not_of_lt_findIdx (p:=fun x=>x == na ns i) (xs:=ns) (i:=i) (by show i < ns.idxOf (na ns i);omega)
 have e:=bU hi
 rw[List.getElem?_eq_getElem hi] at e
 rw[Option.some.inj e] at this
 simp at this
theorem nW {i k:Nat}(hi:i < ns.length) (h:na ns i=k):ns.idxOf k<=i:=by rw[<-h];exact EU hi
theorem EV (h:na ns 0=0) (h0:0 < ns.length):ns.idxOf 0=0:=by have:=nW h0 h;omega
theorem HP (f:Fo ns) (h0:0 < ns.length):na ns 0=0:=by
 apply Classical.byContradiction
 intro h
 obtain⟨i',l,_⟩:=f 0 h0 0 (by omega)
 omega
theorem EW (f:Fo ns){i k:Nat}(hi:i < ns.length) (h:i < ns.idxOf k):na ns i < k:=by
 apply Classical.byContradiction
 intro q
 by_cases e:na ns i=k
 ·have:=nW hi e;omega
 ·obtain⟨i',l,e'⟩:=f i hi k (by omega)
  have:=nW (ns:=ns) (i:=i') (by omega) e'
  omega
end
theorem tY {c i:Nat}(h:i < c){f:Nat->Nat}:na ((List.range c).map f) i=f i:=by
 unfold na
 rw[List.getD_eq_getElem?_getD,List.getElem?_map,List.getElem?_range h]
 rfl
section
variable {nx:Nat->Nat->Nat}{W:Nat}{L ns:List Nat}{c a:Nat}
noncomputable def rep (L ns:List Nat) (c:Nat):List Nat:=(List.range c).map fun k=>na L (ns.idxOf k)
noncomputable def qG (L ns:List Nat) (v:Nat):Nat:=na ns (L.idxOf v)
theorem LL (nd:L.Nodup){i:Nat}(h:i < L.length):L.idxOf (na L i)=i:=by
 have e:=bU h
 rw[List.getElem?_eq_getElem h] at e
 have:=nd.idxOf_getElem i h
 rw[Option.some.inj e] at this
 exact this
theorem kK {v:Nat}(h:v∈L):L.idxOf v < L.length/\na L (L.idxOf v)=v:=by
 have l:=List.idxOf_lt_length_of_mem h
 refine⟨l,?_⟩
 have a:=bU l
 rw[List.getElem?_eq_getElem l,List.getElem_idxOf l] at a
 exact(Option.some.inj a).symm
theorem EX (nd:L.Nodup) (hl:ns.length=L.length) (h:yL ns c){k:Nat}(hk:k < c):qG L ns (na L (ns.idxOf k))=k:=by
 obtain⟨l,e⟩:=j7 h hk
 unfold qG
 rw[LL nd (by omega),e]
theorem BQ (nd:L.Nodup) (hl:ns.length=L.length) (h:yL ns c):(rep L ns c).map (qG L ns)=List.range c:=by
 unfold rep
 rw[List.map_map]
 conv=>rhs;rw[<-List.map_id (List.range c)]
 exact List.map_congr_left fun k hk=>EX nd hl h (List.mem_range.mp hk)
theorem LM (hB:Bf nx (fun v=>v) W L a 0) (ha:L.length<=a) (hl:ns.length=L.length) (h:yL ns c) (f:Fo ns) (st:∀s t col,s < L.length->t < L.length->col < W->na ns s=na ns t->qG L ns (nx (na L s) col)=qG L ns (nx (na L t) col)):
  Bf nx (qG L ns) W (rep L ns c) (rep L ns c).length 0:=by
 have nd:L.Nodup:=by have:=hB.nd;rwa [List.map_id'] at this
 have l0:0 < L.length:=(List.getElem?_eq_some_iff.mp hB.zero).1
 have n0:=HP f (by omega)
 have c0:0 < c:=by have:=h.lt _ (cV (ns:=ns) (i:=0) (by omega));omega
 have rl:(rep L ns c).length=c:=by unfold rep;rw[List.length_map,List.length_range]
 have rm:=BQ nd hl h
 have rat:∀{k u},(rep L ns c)[k]? =some u->k < c/\u=na L (ns.idxOf k):=fun {k u} e=>by
  have l:=(List.getElem?_eq_some_iff.mp e).1
  rw[rl] at l
  refine⟨l,?_⟩
  unfold rep at e
  rw[List.getElem?_map,List.getElem?_range l] at e
  exact(Option.some.inj e).symm
 have O1:∀{k},k < c->(rep L ns c)[k]? =some (na L (ns.idxOf k)):=fun {k} l=>by
  unfold rep
  rw[List.getElem?_map,List.getElem?_range l]
  rfl
 have lv:∀{i v},L[i]? =some v->i < L.length/\na L i=v:=fun {i v} e=>by
  have l:=(List.getElem?_eq_some_iff.mp e).1
  have:=bU l
  rw[e] at this
  exact⟨l,(Option.some.inj this).symm⟩
 have mem:∀s col,s < L.length->col < W->nx (na L s) col∈L:=fun s col hs hc=>by
  have:=hB.seen s col _ hc (by unfold Er;omega) (bU hs)
  rwa [List.map_id'] at this
 refine⟨?_,by rw[rm];exact List.nodup_range,fun j v j0 hv=>?_,fun s col u hc e hu=>?_⟩
 ·rw[O1 c0,EV n0 (by omega)]
  have:=bU l0
  rw[hB.zero] at this
  rw[<-Option.some.inj this]
 ·obtain⟨jc,rfl⟩:=rat hv
  obtain⟨pl,pe⟩:=j7 h jc
  have p0:0 < ns.idxOf j:=by
   apply Classical.byContradiction
   intro z
   have:ns.idxOf j=0:=by omega
   rw[this] at pe
   omega
  obtain⟨s0,c0,u0,b1,b2,b3,b4,b5⟩:=hB.ord (ns.idxOf j) _ p0 (bU (by omega))
  obtain⟨ls,es⟩:=lv b3
  have early:∀s' c',s' < L.length->c' < W->Er s' c' s0 c0->qG L ns (nx (na L s') c') < j:=fun s' c' q1 q2 q3=>by
   obtain⟨i,i1,i2⟩:=b5 s' c' _ q2 q3 (bU q1)
   rw[List.map_id'] at i2
   obtain⟨il,ie⟩:=lv i2
   unfold qG
   rw[<-ie,LL nd il]
   exact EW f (by omega) i1
  have gc:na ns s0 < c:=h.lt _ (cV (by omega))
  have rle:ns.idxOf (na ns s0)<=s0:=EU (by omega)
  obtain⟨Xw,Zj⟩:=j7 h gc
  have req:ns.idxOf (na ns s0)=s0:=by
   apply Classical.byContradiction
   intro ne
   have q:=early (ns.idxOf (na ns s0)) c0 (by omega) b2 (.inl (by omega))
   rw[st _ s0 c0 (by omega) ls b2 Zj,es,b4,EX nd hl h jc] at q
   omega
  refine⟨na ns s0,c0,u0,EW f (by omega) b1,b2,?_,b4,fun s' c' u' q1 q2 q3=>?_⟩
  ·rw[O1 gc,req,es]
  ·obtain⟨sc,rfl⟩:=rat q3
   obtain⟨sl,se⟩:=j7 h sc
   have er:Er (ns.idxOf s') c' s0 c0:=by
    rcases q2 with q | ⟨rfl,q⟩
    ·left
     apply Classical.byContradiction
     intro z
     by_cases e:ns.idxOf s'=s0
     ·rw[e] at se;omega
     ·have:=EW f (i:=s0) (k:=s') (by omega) (by omega)
      omega
    ·exact .inr ⟨req,q⟩
   have q:=early (ns.idxOf s') c' (by omega) q1 er
   refine⟨_,q,?_⟩
   rw[rm,List.getElem?_range (by omega)]
 ·obtain⟨sc,rfl⟩:=rat hu
  obtain⟨sl,se⟩:=j7 h sc
  rw[rm,List.mem_range]
  have m:=mem (ns.idxOf s) col (by omega) hc
  obtain⟨ml,me⟩:=kK m
  exact h.lt _ (cV (by omega))
end
end Sk
end
section
namespace Sk
open PySem PySem.Spec PyProof.Rows L2 Sw Sl
structure rU (W:Nat) (N:List (List Int)):Prop where
 pos:0 < N.length
 few:N.length<=900
 row:∀r∈N,r.length=W/\∀v∈r,0<=v/\v < N.length
theorem rw_len' {W:Nat}{N:List (List Int)}{s:Nat}(mo:rU W N) (h:s < N.length):(rw' N s).length=W:=(mo.row _ (List.mem_of_getElem? (rw_get h))).1
theorem tZ {W:Nat}{N:List (List Int)}{s c:Nat}(mo:rU W N) (h:s < N.length) (hc:c < W):(rw' N s)[c]? =some (gZ N s c:Nat)/\gZ N s c < N.length:=by
 obtain⟨r1,r2⟩:=mo.row _ (List.mem_of_getElem? (rw_get h))
 have hl:c < (rw' N s).length:=by omega
 have v:=r2 _ (List.getElem_mem hl)
 unfold gZ
 rw[List.getD_eq_getElem?_getD,List.getElem?_eq_getElem hl]
 simp only[Option.getD_some]
 exact⟨by congr 1;omega,by omega⟩
theorem JX {W:Nat}{N:List (List Int)}{s:Nat}(mo:rU W N) (h:s < N.length):(rw' N s).map D.int=(List.range W).map fun c=>D.int (gZ N s c:Nat):=by
 apply List.ext_getElem?
 intro c
 rw[List.getElem?_map,List.getElem?_map]
 by_cases q:c < W
 ·rw[(tZ mo h q).1,List.getElem?_range q];rfl
 ·rw[List.getElem?_eq_none (by rw[rw_len' mo h];omega),List.getElem?_eq_none (by rw[List.length_range];omega)];rfl
theorem wQ {W:Nat}{N:List (List Int)}{s:Nat}(mo:rU W N) (h:s < N.length):cX (N.map Sq.bR) (s:Int)=some (.tup ((List.range W).map fun c=>D.int (gZ N s c:Nat))):=by
 rw[HK h,JX mo h]
structure Sn (L:List Nat) (kvs:List (Key×D)):Prop where
 yes:∀v:Nat,v∈L->(bx kvs (.inl (v:Int))).isSome=true
 no:∀v:Nat,v∉L->bx kvs (.inl (v:Int))=none
 few:kvs.length<=L.length
theorem Sn.add {L:List Nat}{kvs:List (Key×D)}(h:Sn L kvs){v:Nat}{d:D}(m:v∉L):Sn (L++[v]) (putD kvs (.inl (v:Int)) d):=by
 have e:=h.no v m
 rw[BJ e]
 refine⟨fun u hu=>?_,fun u hu=>?_,?_⟩
 ·by_cases q:u=v
  ·subst q;rw[look_same e];rfl
  ·rw[tT (by intro z;injection z with z;exact q (by omega))]
   rcases List.mem_append.mp hu with z | z
   ·exact h.yes u z
   ·exact absurd (List.mem_singleton.mp z) q
 ·have q:u≠v:=fun z=>hu (by rw[z];simp)
  rw[tT (by intro z;injection z with z;exact q (by omega))]
  exact h.no u fun z=>hu (List.mem_append_left _ z)
 ·rw[List.length_append,List.length_append];have:=h.few;simp;omega
noncomputable def gq:GS:=
 (uz (qB (lR true 3 (eF (ao 6)))) (aR (pX 3 (eF (ao 6)) (eC (.bl true)))
 (jo (eT (eM 2 hAppend (aa (eF (ao 6)) aq))))) kI)
noncomputable def lU:GS:=
 (aR (bz 5 (eT (aL 0 (aL 2 (eF (ao 4))))))
 (aR (jX (bName 6) (cU (eF (ao 5))) (gq))
 (Hi (fun i j=>i+j) 4 (eC (.int 1)))))
noncomputable def iW:GS:=
 (aR (bz 2 (eP yr (aa (eF (ao 1)) aq)))
 (aR (bz 3 (eP p8 (aa (eF (bO [] (cU (eF (ao 1))) aO (eF (eP fE (aa (eF (ao 0)) (aa (eC (.bl true)) aq)))))) aq)))
 (aR (bz 4 (eT (eC (.int 0))))
 (aR (iR 100000 (qB (eF (eP Ad (aa (eF (ao 4)) (aa (d7 2) aq))))) (lU))
 (ff (ao 2))))))
noncomputable def reachF:FM:=bG 7 iW
theorem C2:∀us r,reachF us=some r->bG 7 iW us=some r:=fun _ _ h=>h
section
variable {z0 z1 z4 z5:Option U}{fs:List D}{kvs:List (Key×D)}{v:Int}
theorem LN (h:(bx kvs (.inl v)).isSome=true):gq [z0,z1,some (.m (.lst fs)),some (.m (.dct kvs)),z4,z5,some (.t (.int v))]=some (.nx [z0,z1,some (.m (.lst fs)),some (.m (.dct kvs)),z4,z5,some (.t (.int v))]):=by
 have e:CO (.m (.dct kvs)) (.int v)=some true:=by rw[yQ.has kvs (.int v) (.inl v) rfl,h]
 simp[gq,lR,e]
theorem O2 (h:bx kvs (.inl v)=none) (hk:kvs.length < 100000) (hf:fs.length < 100000):gq [z0,z1,some (.m (.lst fs)),some (.m (.dct kvs)),z4,z5,some (.t (.int v))]=some (.nx [z0,z1,some (.m (.lst (fs++[.int v]))),some (.m (.dct (putD kvs (.inl v) (.bl true)))),z4,z5,some (.t (.int v))]):=by
 have e:CO (.m (.dct kvs)) (.int v)=some false:=by rw[yQ.has kvs (.int v) (.inl v) rfl,h];rfl
 have k:keyOf (.int v)=some (.inl v):=rfl
 simp[gq,lR,e,k,hk,hf,jq,xC,hAppend]
end
theorem BR (L:List Nat) (v:Nat):iD (L++[v])=iD L++[.int (v:Nat)]:=by unfold iD;rw[List.map_append];rfl
theorem qH {L:List Nat}{n:Nat}(nd:L.Nodup) (h:∀v∈L,v < n):L.length<=n:=by
 have:=nd.length_le_of_subset (l₂:=List.range n) fun v hv=>List.mem_range.mpr (h v hv)
 rwa [List.length_range] at this
section
variable {W:Nat}{N:List (List Int)}{z0 z1 z4 z5:Option U}
theorem LO (mo : rU W N) {L : List Nat} {kvs : List (Key × D)} {a u : Nat} {x6 : Option U} (h : Bf (gZ N) (fun v => v) W L a 0) (hL : ∀ v ∈ L, v < N.length) (hu : L[a]? = some u) (sn : Sn L kvs) (h6 : iE x6 = false) :
    ∃L' kvs' C3,loop (bName 6) gq ((List.range W).map fun c=>D.int (gZ N u c:Nat)) [z0,z1,some (.m (.lst (iD L))),some (.m (.dct kvs)),z4,z5,x6]=some (.nx [z0,z1,some (.m (.lst (iD L'))),some (.m (.dct kvs')),z4,z5,C3])/\Bf (gZ N) (fun v=>v) W L' a W/\(∀v∈L',v < N.length)/\Sn L' kvs'/\iE C3=false/\L'[a]? =some u:=by
  have few:=mo.few
  have un:u < N.length:=hL u (List.mem_of_getElem? hu)
  obtain⟨S',e,L',kvs',C3,b1,b2,b3,b4,b5,rfl⟩:=j5 (bd:=bName 6) (body:=gq) ((List.range W).map fun c=>D.int (gZ N u c:Nat))
    (fun j S=>∃L' kvs' C3,Bf (gZ N) (fun v=>v) W L' a j/\(∀v∈L',v < N.length)/\Sn L' kvs'/\iE C3=false/\L'[a]? =some u/\S=[z0,z1,some (.m (.lst (iD L'))),some (.m (.dct kvs')),z4,z5,C3])
    _ ⟨L,kvs,x6,h,hL,sn,h6,hu,rfl⟩ (by
    rintro j d S hd ⟨L',kvs',C3,b1,b2,b3,b4,b5,rfl⟩
    have hj:j < W:=by
      have:=(List.getElem?_eq_some_iff.mp hd).1
      rwa [List.length_map,List.length_range] at this
    rw[List.getElem?_map,List.getElem?_range hj] at hd
    have hd:D.int (gZ N u j:Nat)=d:=Option.some.inj hd
    subst hd
    have nd:L'.Nodup:=by have:=b1.nd;rwa [List.map_id'] at this
    have lf:=qH nd b2
    refine⟨[z0,z1,some (.m (.lst (iD L'))),some (.m (.dct kvs')),z4,z5,some (.t (.int (gZ N u j:Nat)))],?_⟩
    by_cases m:gZ N u j∈L'
    . refine⟨_,?_,LN (b3.yes _ m),L',kvs',some (.t (.int (gZ N u j:Nat))),b1.skip b5 (by rw[List.map_id'];exact m),b2,b3,rfl,b5,rfl⟩
      generalize ((gZ N u j:Nat):Int)=jj
      simp[-dO,cE,b4]
    . have fw:=b3.few
      refine⟨_,?_,O2 (b3.no _ m) (by omega) (by unfold iD;rw[List.length_map];omega),L'++[gZ N u j],_,some (.t (.int (gZ N u j:Nat))),b1.add b5 hj (by rw[List.map_id'];exact m),fun v hv=>?_,b3.add m,rfl,?_,by rw[BR]⟩
      . generalize ((gZ N u j:Nat):Int)=jj
        simp[-dO,cE,b4]
      . rcases List.mem_append.mp hv with q | q
        . exact b2 v q
        . rw[List.mem_singleton.mp q];exact(tZ mo un hj).2
      . rw[List.getElem?_append_left (List.getElem?_eq_some_iff.mp b5).1];exact b5)
  rw[List.length_map,List.length_range] at b1
  exact⟨L',kvs',C3,e,b1,b2,b3,b4,b5⟩
theorem HQ {nt:D}{fs row:List D}{kvs kvs':List (Key×D)}{fs':List D}{a u:Int}{x5 x6 C3:Option U}(h5:iE x5=false) (e1:cX fs a=some (.int u)) (e2:dz (.t nt) (.int u)=some (.tup row))
  (lp:loop (bName 6) gq row [some (.t nt),z1,some (.m (.lst fs)),some (.m (.dct kvs)),some (.t (.int a)),some (.t (.tup row)),x6]=some (.nx [some (.t nt),z1,some (.m (.lst fs')),some (.m (.dct kvs')),some (.t (.int a)),some (.t (.tup row)),C3])):
  lU [some (.t nt),z1,some (.m (.lst fs)),some (.m (.dct kvs)),some (.t (.int a)),x5,x6]=some (.nx [some (.t nt),z1,some (.m (.lst fs')),some (.m (.dct kvs')),some (.t (.int (a+1))),some (.t (.tup row)),C3]):=by
 simp[-dO,cE,lU,e1,e2,h5,eB,lp]
theorem HR {nt:D}{fs:List D}{kvs:List (Key×D)}{a:Nat}{x5 x6:Option U}:(qB (eF (eP Ad (aa (eF (ao 4)) (aa (d7 2) aq))))) [some (.t nt),z1,some (.m (.lst fs)),some (.m (.dct kvs)),some (.t (.int a)),x5,x6]=some (decide (a < fs.length),[some (.t nt),z1,some (.m (.lst fs)),some (.m (.dct kvs)),some (.t (.int a)),x5,x6]):=by
 simp
theorem za {nt:D}{rows:List D}(h:nt= .tup rows\/nt= .lst rows) (i:Int):dz (.t nt) (.int i)=cX rows i:=by rcases h with rfl | rfl <;> rfl
theorem BS {nt:D}(mo:rU W N) (hn:nt= .tup (N.map Sq.bR)\/nt= .lst (N.map Sq.bR)):∀(m a:Nat) (L:List Nat) (kvs:List (Key×D)) (x5 x6:Option U),N.length < a+m->a<=L.length->Bf (gZ N) (fun v=>v) W L a 0->(∀v∈L,v < N.length)->Sn L kvs->iE x5=false->iE x6=false->
    ∃L' kvs' z4 z5 z6,iH (qB (eF (eP Ad (aa (eF (ao 4)) (aa (d7 2) aq))))) lU m [some (.t nt),z1,some (.m (.lst (iD L))),some (.m (.dct kvs)),some (.t (.int a)),x5,x6]=some (.nx [some (.t nt),z1,some (.m (.lst (iD L'))),some (.m (.dct kvs')),z4,z5,z6])/\(∀v∈L',v < N.length)/\∃a',Bf (gZ N) (fun v=>v) W L' a' 0/\L'.length<=a'
  | 0,a,L,kvs,x5,x6,hm,ha,h,hL,sn,h5,h6=>by
    have nd:L.Nodup:=by have:=h.nd;rwa [List.map_id'] at this
    have lf:=qH nd hL
    omega
  | m + 1, a, L, kvs, x5, x6, hm, ha, h, hL, sn, h5, h6 => by
    have il:(iD L).length=L.length:=by unfold iD;rw[List.length_map]
    unfold iH
    rw[show(qB (eF (eP Ad (aa (eF (ao 4)) (aa (d7 2) aq))))) [some (.t nt),z1,some (.m (.lst (iD L))),some (.m (.dct kvs)),some (.t (.int a)),x5,x6]=_ from HR,Option.bind_some,il]
    by_cases c:a < L.length
    . rw[decide_eq_true c]
      simp only[if_true]
      have hu:=bU c
      have un:na L a < N.length:=hL _ (cV c)
      obtain⟨L',kvs',C3,e,b1,b2,b3,b4,b5⟩:=LO (z0:=some (.t nt)) (z1:=z1) (z4:=some (.t (.int a))) (z5:=some (.t (.tup ((List.range W).map fun c=>D.int (gZ N (na L a) c:Nat))))) mo h hL hu sn h6
      have tn:=HQ (z1:=z1) h5 (kJ c) (by rw[za hn];exact wQ mo un) e
      have al:=(List.getElem?_eq_some_iff.mp b5).1
      rw[tn,Option.bind_some]
      exact BS mo hn m (a+1) L' kvs' _ C3 (by omega) (by omega) b1.row b2 b3 rfl b4
    . rw[decide_eq_false c]
      exact⟨L,kvs,_,x5,x6,rfl,hL,a,h,by omega⟩
end
theorem EY {W:Nat}{N:List (List Int)}{nt:D}(mo:rU W N) (hn:nt= .tup (N.map Sq.bR)\/nt= .lst (N.map Sq.bR)):∃L,reachF [.t nt,.t (.lst [.int 0])]=some (.m (.lst (iD L)),[])/\(∀v∈L,v < N.length)/\∃a,Bf (gZ N) (fun v=>v) W L a 0/\L.length<=a:=by
 have few:=mo.few
 obtain⟨L,kvs,z4,z5,z6,e,hL,hB⟩:=BS (z1:=some (.t (.lst [.int 0]))) mo hn 100000 0 [0] [(.inl 0,.bl true)] none none (by omega) (Nat.zero_le _) BN (fun v hv=>by rw[List.mem_singleton.mp hv];exact mo.pos)
  ⟨fun v hv=>(by rw[List.mem_singleton.mp hv];rfl),fun v hv=>(by
   unfold bx
   rw[List.find?_cons_of_neg (by simp only[decide_eq_true_eq];intro z;injection z with z;exact hv (by rw[List.mem_singleton];omega))]
   rfl),Nat.le_refl _⟩ rfl rfl
 refine⟨L,?_,hL,hB⟩
 have all:∃a b S,iW [some (.t nt),some (.t (.lst [.int 0])),none,none,none,none,none]=some (.rt (.m (.lst (iD L))) (a :: b :: S)):=by
  unfold iW
  rw[Sq.bw (S1:=[some (.t nt),some (.t (.lst [.int 0])),some (.m (.lst [.int 0])),none,none,none,none]) rfl,
   Sq.bw (S1:=[some (.t nt),some (.t (.lst [.int 0])),some (.m (.lst [.int 0])),some (.m (.dct [(.inl 0,.bl true)])),none,none,none]) (by simp[eB,bZ,aW,bL,aK,keyOf]),
   Sq.bw (S1:=[some (.t nt),some (.t (.lst [.int 0])),some (.m (.lst (iD [0]))),some (.m (.dct [(.inl 0,.bl true)])),some (.t (.int ((0:Nat):Int))),none,none]) rfl,Sq.bw (show iR 100000 _ _ _=_ from e)]
  generalize iD L=l
  exact⟨_,_,_,by simp;exact⟨rfl,rfl,rfl⟩⟩
 obtain⟨a,b,S,all⟩:=all
 show(iW [some (.t nt),some (.t (.lst [.int 0])),none,none,none,none,none]).bind _=_
 rw[all]
 rfl
theorem vq (cap:List Nat) (gi:GI) (q:GT) (g:GD) (S:SS):m8 cap gi q g S=(gi S).bind fun p=>if p.1.length<=100000 then(cK cap q g p.1 p.2 []).map fun r=>(.m (.lst r.1),r.2) else none:=rfl
theorem rC (cap : List Nat) (q : GT) (g : GD) (a b : D) (ds : List D) (S : SS) (acc : List D) : cK cap q g (.tup [a, b] :: ds) S acc = (cK cap q g [.tup [a, b]] S acc).bind fun r => cK cap q g ds r.2 r.1 := by
  simp only[cK]
  cases bL S cap with
  | none=>rfl
  | some us =>
    simp only[Option.bind_some]
    split
    . cases cA S us with
      | none=>rfl
      | some ws =>
        simp only[Option.bind_some]
        cases q (some (.t a) :: some (.t b) :: ws.map some) with
        | none=>rfl
        | some p=>
          simp only[Option.bind_some]
          split
          . cases g p.2 with
            | none=>rfl
            | some r=>
              simp only[Option.bind_some]
              cases aK (.t a :: .t b :: ws) r.2 with
              | none=>rfl
              | some outs=>
                simp only[Option.bind_some]
                cases wb us outs S with
                | none=>rfl
                | some S'=>rfl
          . cases aK (.t a :: .t b :: ws) p.2 with
            | none=>rfl
            | some outs=>
              simp only[Option.bind_some]
              cases wb us outs S with
              | none=>rfl
              | some S'=>rfl
    . rfl
theorem vA {cap:List Nat}{g:GD}{S:SS}{α:Type}(fa fb f:α->D):∀(l:List α) (acc:List D),(∀x∈l,∀acc,cK cap aO g [.tup [fa x,fb x]] S acc=some (acc++[f x],S))->cK cap aO g (l.map fun x=>.tup [fa x,fb x]) S acc=some (acc++l.map f,S)
 | [],acc,_=>by simp[cK]
 | x :: l,acc,h=>by
  rw[List.map_cons,rC,h x List.mem_cons_self,Option.bind_some]
  refine(vA fa fb f l (acc++[f x]) fun y hy=>h y (List.mem_cons_of_mem _ hy)).trans ?_
  simp
theorem lV (m:Nat) (f:Nat->D):jv ((List.range m).map f)=(List.range m).map fun i=>.tup [.int (i:Nat),f i]:=by
 unfold jv
 apply List.ext_getElem?
 intro i
 rw[List.getElem?_mapIdx,List.getElem?_map,List.getElem?_map]
 by_cases h:i < m
 ·rw[List.getElem?_range h];rfl
 ·rw[List.getElem?_eq_none (by rw[List.length_range];omega)];rfl
noncomputable def bN (W:Nat) (f:Nat->Nat):List D:=(List.range W).map fun c=>D.int (f c:Nat)
noncomputable def aF (m W:Nat) (f:Nat->Nat->Nat):List D:=(List.range m).map fun s=>.tup (bN W (f s))
theorem cR (W:Nat) (f:Nat->Nat):(bN W f).length=W:=by unfold bN;rw[List.length_map,List.length_range]
theorem lu (m W:Nat) (f:Nat->Nat->Nat):(aF m W f).length=m:=by unfold aF;rw[List.length_map,List.length_range]
structure Part (m W:Nat) (f:Nat->Nat->Nat) (wd:Nat->D) (ns:List Nat) (c:Nat):Prop where
 len:ns.length=m
 cls:yL ns c
 fo:Fo ns
 word:∀s t,s < m->t < m->na ns s=na ns t->wd s=wd t
 ne:∀s t,s < m->t < m->na ns s≠na ns t->∃cs,Vd W cs/\wd (led f cs s)≠wd (led f cs t)
noncomputable def qc (W:Nat) (f:Nat->Nat->Nat) (ns:List Nat) (s:Nat):D:=.tup (.int (na ns s:Nat) :: bN W fun c=>na ns (f s c))
noncomputable def oM (m W:Nat) (f:Nat->Nat->Nat) (ns:List Nat):List Nat:=jJ ((List.range m).map (qc W f ns))
theorem C4 (W:Nat) (f:Nat->Nat->Nat) (ns:List Nat) (s:Nat):qc W f ns s= .tup ((((na ns s:Nat):Int) :: (List.range W).map fun c=>((na ns (f s c):Nat):Int)).map D.int):=by
 unfold qc bN
 rw[List.map_cons,List.map_map]
 rfl
theorem nX (l:List Int):ju (.tup (l.map D.int))=some (.tup (l.map D.int)):=by
 have al:(l.map D.int).all (fV 7)=true:=by
  rw[List.all_eq_true]
  intro x hx
  obtain⟨v,_,rfl⟩:=List.mem_map.mp hx
  rfl
 have k8:fV 8 (.tup (l.map D.int))=true:=al
 show(if fV 8 (.tup (l.map D.int))=true then some (nf (.tup (l.map D.int))) else none)=_
 rw[if_pos k8]
 show some (D.tup (Gy (l.map D.int)))=_
 rw[tW]
theorem HS {W:Nat}{f:Nat->Nat->Nat}{ns:List Nat}{s t:Nat}:qc W f ns s=qc W f ns t↔na ns s=na ns t/\∀c,c < W->na ns (f s c)=na ns (f t c):=by
 unfold qc bN
 constructor
 ·intro h
  injection h with h
  injection h with h1 h2
  injection h1 with h1
  refine⟨Int.ofNat_inj.mp h1,fun c hc=>?_⟩
  have:=congrArg (fun l=>l[c]?) h2
  simp only[List.getElem?_map,List.getElem?_range hc,Option.map_some] at this
  injection this with this
  injection this with this
  exact Int.ofNat_inj.mp this
 ·rintro⟨h1,h2⟩
  rw[h1]
  congr 2
  exact List.map_congr_left fun c hc=>by show D.int ((na ns (f s c):Nat):Int)=D.int ((na ns (f t c):Nat):Int);rw[h2 c (List.mem_range.mp hc)]
section
variable {m W:Nat}{f:Nat->Nat->Nat}{wd:Nat->D}{ns:List Nat}{c:Nat}
theorem nj {s t:Nat}(hs:s < m) (ht:t < m):na (oM m W f ns) s=na (oM m W f ns) t↔na ns s=na ns t/\∀c,c < W->na ns (f s c)=na ns (f t c):=by
 have get:∀i,i < m->((List.range m).map (qc W f ns))[i]? =some (qc W f ns i):=fun i hi=>by
  rw[List.getElem?_map,List.getElem?_range hi];rfl
 unfold oM
 rw[qb (get s hs) (get t ht),HS]
theorem zb:(oM m W f ns).length=m:=by unfold oM;rw[lq,List.length_map,List.length_range]
theorem Part.next (hf : ∀ s c, s < m -> c < W -> f s c < m) (P : Part m W f wd ns c) : ∃ c', Part m W f wd (oM m W f ns) c' /\ (c' <= c -> ∀ s t, s < m -> t < m -> (na (oM m W f ns) s = na (oM m W f ns) t ↔ na ns s = na ns t)) := by
  refine⟨_,⟨zb,ng _,BP _,fun s t hs ht e=>P.word s t hs ht ((nj hs ht).mp e).1,fun s t hs ht ne=>?_⟩,fun hc s t hs ht=>⟨fun e=>((nj hs ht).mp e).1,fun e=>?_⟩⟩
  . rw[ne_eq,nj hs ht] at ne
    by_cases q:na ns s=na ns t
    . have:∃c,c < W/\na ns (f s c)≠na ns (f t c):=by
        apply Classical.byContradiction
        intro z
        exact ne ⟨q,fun c hc=>Classical.byContradiction fun y=>z ⟨c,hc,y⟩⟩
      obtain⟨c,hc,y⟩:=this
      obtain⟨cs,v,d⟩:=P.ne _ _ (hf s c hs hc) (hf t c ht hc) y
      exact⟨c :: cs,fun x hx=>by
        rcases List.mem_cons.mp hx with rfl | hx
        . exact hc
        . exact v x hx,d⟩
    . exact P.ne s t hs ht q
  . apply Classical.byContradiction
    intro ne
    have:=vp P.cls (ng ((List.range m).map (qc W f ns))) P.len zb (fun i j hi hj q=>((nj hi hj).mp q).1) hs ht e ne
    omega
end
noncomputable def je (cg:FM):GS:=
 (aR (bz 4 (eP kr (aa (eF (eP kD (aa (eF (ao 3)) aq))) (aa (eC (.int 1)) aq))))
 (aR (uz (yg (qB (eF (eP p7 (aa (eF (ao 2)) (aa (eC .dh) aq))))) (qB (eF (eP MG (aa (eF (ao 4)) (aa (eF (ao 2)) aq)))))) SE kI)
 (bz 3 (bA cg (bg (eF (m8 [3] (oK (aa (eF (ao 0)) aq)) aO (eF (eP kr (aa (eF (eP fE (aa (aL 2 (eF (ao 0))) aq))) (aa (eF (eP cu (aa (eF (bO [2] (cU (eF (ao 1))) aO (aL 1 (eF (ao 0))))) aq))) aq)))))) bX)))))
noncomputable def gF (cg:FM):GS:=
 (aR (bz 3 (bA cg (bg (eF (ao 1)) bX)))
 (aR (bz 4 (eT (eC (.int 0))))
 (aR (iR 100000 (qB (eF (eP MH (aa (eF (eP kD (aa (eF (ao 3)) aq))) (aa (eF (ao 4)) aq))))) (je cg))
 (ff (ao 3)))))
noncomputable def TX (cg:FM):GS:=
 (bz 4 (eP kr (aa (eF (eP kD (aa (eF (ao 3)) aq))) (aa (eC (.int 1)) aq))))
noncomputable def QN (cg:FM):GS:=
 (uz (yg (qB (eF (eP p7 (aa (eF (ao 2)) (aa (eC .dh) aq))))) (qB (eF (eP MG (aa (eF (ao 4)) (aa (eF (ao 2)) aq)))))) SE kI)
noncomputable def TY (cg:FM):GS:=
 (bz 3 (bA cg (bg (eF (m8 [3] (oK (aa (eF (ao 0)) aq)) aO (eF (eP kr (aa (eF (eP fE (aa (aL 2 (eF (ao 0))) aq))) (aa (eF (eP cu (aa (eF (bO [2] (cU (eF (ao 1))) aO (aL 1 (eF (ao 0))))) aq))) aq)))))) bX)))
theorem O3 (cg:FM):je cg=aR (TX cg) (aR (QN cg) (TY cg)):=rfl
noncomputable def jF:FM:=bG 5 (gF tR)
theorem EZ:∀us r,jF us=some r->bG 5 (gF tR) us=some r:=fun _ _ h=>h
noncomputable abbrev Dv:GD:=aL 1 (eF (ao 0))
noncomputable abbrev LP:GD:=(eF (eP kr (aa (eF (eP fE (aa (aL 2 (eF (ao 0))) aq))) (aa (eF (eP cu (aa (eF (bO [2] (cU (eF (ao 1))) aO (aL 1 (eF (ao 0))))) aq))) aq))))
theorem ki_turn {nums acc:List D}{v:Int}{x:D}{z0 z1:Option U}(h:cX nums v=some x):aW [2] aO Dv [.int v] [z0,z1,some (.t (.lst nums))] acc=some (acc++[x],[z0,z1,some (.t (.lst nums))]):=by
 simp[aW,bL,fM,h,aK]
theorem O4 {W:Nat}{g:Nat->Nat}{ns:List Nat}{z0 z1:Option U}(h:∀c,c < W->g c < ns.length):aW [2] aO Dv (bN W g) [z0,z1,some (.t (.lst (iD ns)))] []=some (bN W fun c=>na ns (g c),[z0,z1,some (.t (.lst (iD ns)))]):=by
 obtain⟨acc,S',e,rfl,rfl⟩:=kZ (cap:=[2]) (g:=Dv) (bN W g) (fun j acc S=>acc=(List.range j).map (fun c=>D.int (na ns (g c):Nat))/\S=[z0,z1,some (.t (.lst (iD ns)))]) _ ⟨rfl,rfl⟩ (by
  rintro j d acc S hd ⟨rfl,rfl⟩
  have hj:j < W:=by have:=(List.getElem?_eq_some_iff.mp hd).1;rwa [cR] at this
  unfold bN at hd
  rw[List.getElem?_map,List.getElem?_range hj] at hd
  cases hd
  refine⟨_,_,ki_turn (kJ (h j hj)),?_,rfl⟩
  rw[List.range_succ,List.map_append]
  rfl)
 rw[e,cR]
 rfl
theorem HU {nums row outs acc:List D}{s nk:Int}{z0 z1 z2 z4:Option U}(h1:cX nums s=some (.int nk)) (hl:row.length<=100000) (hl2:1+outs.length<=100000) (h2:∀z0 z1,aW [2] aO Dv row [z0,z1,some (.t (.lst nums))] []=some (outs,[z0,z1,some (.t (.lst nums))])):
  cK [3] aO LP [.tup [.int s,.tup row]] [z0,z1,z2,some (.t (.lst nums)),z4] acc=some (acc++[.tup (.int nk :: outs)],[z0,z1,z2,some (.t (.lst nums)),z4]):=by
 simp[cK,bL,fM,h1,eB,bZ,hl,hl2,h2,aK]
theorem O5 {m W:Nat}{f:Nat->Nat->Nat}{ns:List Nat}{z0 z1 z2 z4:Option U}(hW:W < 1000) (hl:ns.length=m) (hf:∀s c,s < m->c < W->f s c < m):
  cK [3] aO LP (jv (aF m W f)) [z0,z1,z2,some (.t (.lst (iD ns))),z4] []=some ((List.range m).map (qc W f ns),[z0,z1,z2,some (.t (.lst (iD ns))),z4]):=by
 unfold aF
 rw[lV]
 refine(vA (fun i=>D.int (i:Nat)) (fun s=>.tup (bN W (f s))) (qc W f ns) (List.range m) [] fun s hs acc=>?_).trans (by rw[List.nil_append])
 have hs:=List.mem_range.mp hs
 exact HU (kJ (by omega)) (by rw[cR];omega) (by rw[cR];omega) fun z0 z1=>O4 fun c hc=>by rw[hl];exact hf s c hs hc
section
variable {g:FM}{rows nums keys yW:List D}{w1 md:D}{mx:Int}{x4:Option U}
theorem tb_turn (h4:iE x4=false) (em:kD [.lst nums]=some (.t (.int mx))) (hmd:md= .dh\/∃k:Int,md= .int k/\mx+1<=k) (hr:(jv rows).length<=100000)
  (ec:∀z4,cK [3] aO LP (jv rows) [some (.t (.lst rows)),some (.t w1),some (.t md),some (.t (.lst nums)),z4] []=some (keys,[some (.t (.lst rows)),some (.t w1),some (.t md),some (.t (.lst nums)),z4]))
  (en:g [.t (.lst keys)]=some (.m (.lst yW),[])):
  je g [some (.t (.lst rows)),some (.t w1),some (.t md),some (.t (.lst nums)),x4]=some (.nx [some (.t (.lst rows)),some (.t w1),some (.t md),some (.m (.lst yW)),some (.t (.int (mx+1)))]):=by
 rw[O3]
 have s0:TX g [some (.t (.lst rows)),some (.t w1),some (.t md),some (.t (.lst nums)),x4]=some (.nx [some (.t (.lst rows)),some (.t w1),some (.t md),some (.t (.lst nums)),some (.t (.int (mx+1)))]):=by
  simp[-dO,cE,TX,em,h4]
 have s1:QN g [some (.t (.lst rows)),some (.t w1),some (.t md),some (.t (.lst nums)),some (.t (.int (mx+1)))]=some (.nx [some (.t (.lst rows)),some (.t w1),some (.t md),some (.t (.lst nums)),some (.t (.int (mx+1)))]):=by
  rcases hmd with rfl | ⟨k,rfl,hk⟩
  ·simp[QN,yz]
  ·have:¬k < mx+1:=by omega
   simp[QN,yz,this]
 have s2:TY g [some (.t (.lst rows)),some (.t w1),some (.t md),some (.t (.lst nums)),some (.t (.int (mx+1)))]=some (.nx [some (.t (.lst rows)),some (.t w1),some (.t md),some (.m (.lst yW)),some (.t (.int (mx+1)))]):=by
  simp[TY,vq,hr,ec,en]
 rw[Sq.bw s0,Sq.bw s1,s2]
theorem HV {u3:U}{k:Int}(h3:u3= .m (.lst nums)\/u3= .t (.lst nums)) (em:kD [.lst nums]=some (.t (.int mx))):
  (qB (eF (eP MH (aa (eF (eP kD (aa (eF (ao 3)) aq))) (aa (eF (ao 4)) aq))))) [some (.t (.lst rows)),some (.t w1),some (.t md),some u3,some (.t (.int k))]=some (decide (k<=mx),[some (.t (.lst rows)),some (.t w1),some (.t md),some (.t (.lst nums)),some (.t (.int k))]):=by
 rcases h3 with rfl | rfl <;> simp[em]
end
noncomputable abbrev Xx:GT:=(qB (eF (eP MH (aa (eF (eP kD (aa (eF (ao 3)) aq))) (aa (eF (ao 4)) aq)))))
theorem E1 {ns:List Nat}{c c':Nat}(h:yL ns c) (h':yL ns c'):c=c':=by
 apply Classical.byContradiction
 intro ne
 rcases Nat.lt_or_gt_of_ne ne with l | l
 ·have:=h.lt c (h'.on c l);omega
 ·have:=h'.lt c' (h.on c' l);omega
section
variable {m W:Nat}{f:Nat->Nat->Nat}{wd:Nat->D}{w1 md:D}
theorem C5 {ns:List Nat}(h0:0 < m) (hm:m<=900):tR [.t (.lst ((List.range m).map (qc W f ns)))]=some (.m (.lst (iD (oM m W f ns))),[]):=by
 refine LI (.inr rfl) ?_ ?_ ?_
 ·intro h
  have:=congrArg List.length h
  rw[List.length_map,List.length_range,List.length_nil] at this
  omega
 ·rw[List.map_map,List.map_map]
  exact List.map_congr_left fun k _=>by show ju (qc W f ns k)=some (qc W f ns k);rw[C4];exact nX _
 ·rw[List.length_map,List.length_range];omega
noncomputable def E3 (m W:Nat) (f:Nat->Nat->Nat) (ns:List Nat):Prop:=∀s t c,s < m->t < m->c < W->na ns s=na ns t->na ns (f s c)=na ns (f t c)
theorem BU (h0 : 0 < m) (hm : m <= 900) (hW : W < 1000) (hf : ∀ s c, s < m -> c < W -> f s c < m) (hmd : md = .dh \/ ∃ k : Int, md = .int k /\ ∀ ns c, Part m W f wd ns c -> (c : Int) <= k) :
    ∀(q:Nat) (ns:List Nat) (c cnt:Nat) (u3:U),Part m W f wd ns c->m < cnt+q->cnt<=m->(cnt=0\/∃n0,Part m W f wd n0 cnt/\ns=oM m W f n0)->(u3= .m (.lst (iD ns))\/u3= .t (.lst (iD ns)))->
    ∃ns' c' z4,iH Xx (je tR) q [some (.t (.lst (aF m W f))),some (.t w1),some (.t md),some u3,some (.t (.int cnt))]=some (.nx [some (.t (.lst (aF m W f))),some (.t w1),some (.t md),some (.t (.lst (iD ns'))),z4])/\Part m W f wd ns' c'/\E3 m W f ns'
  | 0,ns,c,cnt,u3,P,hq,hc,_,_=>by omega
  | q + 1, ns, c, cnt, u3, P, hq, hc, pr, h3 => by
    have TZ:=wM P.cls
    have zc:=P.len
    have cpos:0 < c:=by have:=P.cls.lt _ (cV (ns:=ns) (i:=0) (by omega));omega
    have em:=EM P.cls cpos
    have cd:=HV (rows:=aF m W f) (w1:=w1) (md:=md) (k:=cnt) h3 em
    have e1:decide ((cnt:Int)<=((c - 1:Nat):Int))=decide (cnt < c):=decide_eq_decide.mpr ⟨fun h=>by omega,fun h=>by omega⟩
    rw[e1] at cd
    unfold iH
    rw[show Xx _=_ from cd,Option.bind_some]
    by_cases h:cnt < c
    . rw[decide_eq_true h]
      simp only[if_true]
      obtain⟨c',P',_⟩:=P.next hf
      have e2:((c - 1:Nat):Int)+1=(c:Nat):=by omega
      have tn:=tb_turn (g:=tR) (w1:=w1) (md:=md) (x4:=some (.t (.int cnt))) rfl em (hmd.imp id fun⟨k,a,b⟩=>⟨k,a,by rw[e2];exact b ns c P⟩) (by unfold aF;rw[lV,List.length_map,List.length_range];omega) (fun z4=>O5 hW zc hf) (C5 h0 hm)
      rw[e2] at tn
      rw[tn,Option.bind_some]
      exact BU h0 hm hW hf hmd q _ c' c _ P' (by omega) (by omega) (.inr ⟨ns,P,rfl⟩) (.inl rfl)
    . rw[decide_eq_false h]
      refine⟨ns,c,_,rfl,P,?_⟩
      rcases pr with rfl | ⟨n0,P0,rfl⟩
      . omega
      . obtain⟨c',P',sm⟩:=P0.next hf
        have ec:c'=c:=by
          have a:=E1 P'.cls P.cls
          exact a
        have sm:=sm (by omega)
        intro s t col hs ht pC e
        rw[sm _ _ (hf s col hs pC) (hf t col ht pC)]
        exact((nj hs ht).mp e).2 col pC
theorem HW (h0:0 < m) (hm:m<=900) (hW:W < 1000) (hf:∀s c,s < m->c < W->f s c < m) (hw:∀s,s < m->Wd (wd s)) (hmd:md= .dh\/∃k:Int,md= .int k/\∀ns c,Part m W f wd ns c->(c:Int)<=k):
  ∃ns c,jF [.t (.lst (aF m W f)),.t (.lst ((List.range m).map wd)),.t md]=some (.t (.lst (iD ns)),[])/\Part m W f wd ns c/\E3 m W f ns:=by
 have e1:=LH (sd:=.lst ((List.range m).map wd)) (ds:=(List.range m).map wd) (ks:=(List.range m).map fun s=>HL (wd s)) (.inr rfl) (by
  rw[List.map_map,List.map_map]
  exact List.map_congr_left fun s hs=>OW (hw s (List.mem_range.mp hs))) (by rw[List.length_map,List.length_range];omega)
 have get:∀i,i < m->((List.range m).map fun s=>HL (wd s))[i]? =some (HL (wd i)):=fun i hi=>by
  rw[List.getElem?_map,List.getElem?_range hi];rfl
 have P0:Part m W f wd (jJ ((List.range m).map fun s=>HL (wd s))) _:=⟨by rw[lq,List.length_map,List.length_range],ng _,BP _,
  fun s t hs ht e=>HM (hw s hs) (hw t ht) ((qb (get s hs) (get t ht)).mp e),
  fun s t hs ht ne=>⟨[],fun c hc=>(by cases hc),fun z=>ne ((qb (get s hs) (get t ht)).mpr (by rw[show wd s=wd t from z]))⟩⟩
 obtain⟨ns,c,z4,e,P,st⟩:=BU (w1:=.lst ((List.range m).map wd)) h0 hm hW hf hmd 100000 _ _ 0 _ P0 (by omega) (Nat.zero_le _) (.inl rfl) (.inl rfl)
 refine⟨ns,c,?_,P,st⟩
 have all:∃a b d S,gF tR [some (.t (.lst (aF m W f))),some (.t (.lst ((List.range m).map wd))),some (.t md),none,none]=some (.rt (.t (.lst (iD ns))) (a :: b :: d :: S)):=by
  unfold gF
  rw[Sq.bw (S1:=[some (.t (.lst (aF m W f))),some (.t (.lst ((List.range m).map wd))),some (.t md),some (.m (.lst (iD (jJ ((List.range m).map fun s=>HL (wd s)))))),none]) (by
   generalize tR=g at e1
   generalize (List.range m).map wd=ws at e1
   simp[e1]),
   Sq.bw (S1:=[some (.t (.lst (aF m W f))),some (.t (.lst ((List.range m).map wd))),some (.t md),some (.m (.lst (iD (jJ ((List.range m).map fun s=>HL (wd s)))))),some (.t (.int ((0:Nat):Int)))]) rfl,Sq.bw (show iR 100000 _ _ _=_ from e)]
  generalize iD ns=l
  exact⟨_,_,_,_,by simp;exact⟨rfl,rfl,rfl,rfl⟩⟩
 obtain⟨a,b,d,S,all⟩:=all
 exact nh all rfl
end
noncomputable def dm (cM:FM) (bK:FM):GS:=
 (pX 4 (eF (ao 6)) (eF (ao 5)))
noncomputable def dU (cM:FM) (bK:FM):GS:=
 (aR (bz 3 (bA cM (bg (eF (ao 0)) (bg (eF (eP gW (aa (eC (.int 0)) aq))) bX))))
 (aR (bz 4 tH)
 (aR (jX (oE 2 (eZ (bName 5) (eZ (bName 6) o7))) (oK (aa (eF (ao 3)) aq)) (dm cM bK))
 (aR (bz 7 (bO [0,4] (cU (eF (ao 3))) aO (eF (eP cu (aa (eF (bO [2] (cU (aL 1 (eF (ao 0)))) aO (aL 1 (eF (ao 0))))) aq)))))
 (aR (bz 8 (bA bK (bg (eF (ao 7)) (bg (eF (bO [1] (cU (eF (ao 3))) aO (aL 1 (eF (ao 0))))) (bg (eF (ao 2)) bX)))))
 (aR (BC 9 (iO (aa (eF (eP kr (aa (eF (eP kD (aa (eF (ao 8)) aq))) (aa (eC (.int 1)) aq)))) aq)) (Ez 9 (oE 2 (eZ (bName 5) (eZ (bName 10) o7))) (oK (aa (eF (ao 8)) aq)) (Ey 9 (eF (ao 10)) (aL 3 (eF (ao 5))))))
 (aR (bz 11 (bO [0,8,4] (cU (eF (ao 9))) aO (eF (eP cu (aa (eF (bO [2,3] (cU (aL 1 (aL 0 (eC (.int 0))))) aO (aL 1 (aL 2 (eF (ao 0)))))) aq)))))
 (ff (eP fE (aa (eF (eP cu (aa (eF (ao 11)) aq))) (aa (eF (eP cu (aa (eF (bO [1] (cU (eF (ao 9))) aO (aL 1 (aL 0 (eC (.int 0)))))) aq))) (aa (eF (ao 9)) aq))))))))))))
noncomputable def T5 (cM:FM) (bK:FM):GS:=
 (bz 3 (bA cM (bg (eF (ao 0)) (bg (eF (eP gW (aa (eC (.int 0)) aq))) bX))))
noncomputable def T6 (cM:FM) (bK:FM):GS:=
 (bz 4 tH)
noncomputable def T7 (cM:FM) (bK:FM):GS:=
 (jX (oE 2 (eZ (bName 5) (eZ (bName 6) o7))) (oK (aa (eF (ao 3)) aq)) (dm cM bK))
noncomputable def T8 (cM:FM) (bK:FM):GS:=
 (bz 7 (bO [0,4] (cU (eF (ao 3))) aO (eF (eP cu (aa (eF (bO [2] (cU (aL 1 (eF (ao 0)))) aO (aL 1 (eF (ao 0))))) aq)))))
noncomputable def T9 (cM:FM) (bK:FM):GS:=
 (bz 8 (bA bK (bg (eF (ao 7)) (bg (eF (bO [1] (cU (eF (ao 3))) aO (aL 1 (eF (ao 0))))) (bg (eF (ao 2)) bX)))))
noncomputable abbrev Ua:GB:=(oE 2 (eZ (bName 5) (eZ (bName 10) o7)))
noncomputable abbrev QO:GN:=(Ey 9 (eF (ao 10)) (aL 3 (eF (ao 5))))
noncomputable abbrev Ub:GI:=(iO (aa (eF (eP kr (aa (eF (eP kD (aa (eF (ao 8)) aq))) (aa (eC (.int 1)) aq)))) aq))
noncomputable def Uc (cM:FM) (bK:FM):GS:=(BC 9 Ub (Ez 9 Ua (oK (aa (eF (ao 8)) aq)) QO))
noncomputable def Ud (cM:FM) (bK:FM):GS:=
 (bz 11 (bO [0,8,4] (cU (eF (ao 9))) aO (eF (eP cu (aa (eF (bO [2,3] (cU (aL 1 (aL 0 (eC (.int 0))))) aO (aL 1 (aL 2 (eF (ao 0)))))) aq)))))
noncomputable def Ue (cM:FM) (bK:FM):GS:=
 (ff (eP fE (aa (eF (eP cu (aa (eF (ao 11)) aq))) (aa (eF (eP cu (aa (eF (bO [1] (cU (eF (ao 9))) aO (aL 1 (aL 0 (eC (.int 0)))))) aq))) (aa (eF (ao 9)) aq)))))
theorem O6 (f1 f2:FM):dU f1 f2=aR (T5 f1 f2) (aR (T6 f1 f2) (aR (T7 f1 f2) (aR (T8 f1 f2) (aR (T9 f1 f2) (aR (Uc f1 f2) (aR (Ud f1 f2) (Ue f1 f2))))))):=rfl
noncomputable def lW:FM:=bG 12 (dU reachF jF)
theorem C6:∀us r,lW us=some r->bG 12 (dU reachF jF) us=some r:=fun _ _ h=>h
noncomputable def kL (L:List Nat):List Key:=L.map fun(v:Nat)=>(Sum.inl (v:Int):Key)
theorem qI {L:List Nat}{v:Nat}:(Sum.inl (v:Int):Key)∈kL L↔v∈L:=by
 unfold kL
 rw[List.mem_map]
 constructor
 ·rintro⟨u,hu,e⟩
  injection e with e
  rw[show v=u by omega];exact hu
 ·intro h;exact⟨v,h,rfl⟩
theorem idx_map {κ:Type} [DecidableEq κ] (f:Nat->κ) (inj:∀a b,f a=f b->a=b):∀(L:List Nat) (v:Nat),(L.map f).idxOf (f v)=L.idxOf v
  | [],v=>rfl
  | u :: L, v => by
    rw[List.map_cons,List.idxOf_cons,List.idxOf_cons,idx_map f inj L v]
    by_cases h:u=v
    . subst h;simp
    . have h1:(f u == f v)=false:=by rw[beq_eq_false_iff_ne];exact fun z=>h (inj u v z)
      have h2:(u == v)=false:=by rw[beq_eq_false_iff_ne];exact h
      rw[h1,h2]
noncomputable def qj (L:List Nat):MO:=.dct (ent 0 (kL L))
theorem JY {L:List Nat}{v:Nat}(h:v∈L):dz (.b (qj L)) (.int (v:Nat))=some (.int (L.idxOf v:Nat)):=by
 unfold qj
 rw[yQ.rb _ _ (Sum.inl (v:Int)) rfl,fq (qI.mpr h)]
 unfold kL
 rw[idx_map (κ:=Key) (fun v:Nat=>(Sum.inl (v:Int):Key)) (fun a b z=>by injection z with z;omega)]
theorem LQ {L:List Nat}{v:Nat}(h:v∉L) (hl:L.length < 1000):ir (qj L) (.int (v:Nat)) (.int (L.length:Nat))=some (qj (L++[v])):=by
 unfold qj
 rw[yQ.wr _ _ (Sum.inl (v:Int)) _ rfl (by rw[jK];unfold kL;rw[List.length_map];omega)]
 have e:(kL L).length=L.length:=by unfold kL;rw[List.length_map]
 rw[<-e,nU (fun z=>h (qI.mp z))]
 unfold kL
 rw[List.map_append]
 rfl
theorem HX {f1 f2:FM}{z0 z1 z2 z3:Option U}{o o':MO}{v j:Int}{y7 y8 y9 EL JZ:Option U}(h:ir o (.int v) (.int j)=some o'):
  dm f1 f2 [z0,z1,z2,z3,some (.m o),some (.t (.int j)),some (.t (.int v)),y7,y8,y9,EL,JZ]=some (.nx [z0,z1,z2,z3,some (.m o'),some (.t (.int j)),some (.t (.int v)),y7,y8,y9,EL,JZ]):=by
 simp[dm,jq,h]
theorem HY {f1 f2:FM}{z0 z1 z2 z3 y7 y8 y9 EL JZ:Option U}{L:List Nat}(nd:L.Nodup) (hl:L.length < 1000):
  ∃y5 y6,iE y5=false/\loop (oE 2 (eZ (bName 5) (eZ (bName 6) o7))) (dm f1 f2) (jv (iD L)) [z0,z1,z2,z3,some (.m (.dct [])),none,none,y7,y8,y9,EL,JZ]=some (.nx [z0,z1,z2,z3,some (.m (qj L)),y5,y6,y7,y8,y9,EL,JZ]):=by
 obtain⟨S',e,y5,y6,h5,h6,rfl⟩:=j5 (bd:=oE 2 (eZ (bName 5) (eZ (bName 6) o7))) (body:=dm f1 f2) (jv (iD L))
  (fun j S=>∃y5 y6,iE y5=false/\iE y6=false/\S=[z0,z1,z2,z3,some (.m (qj (L.take j))),y5,y6,y7,y8,y9,EL,JZ]) _ ⟨none,none,rfl,rfl,rfl⟩ (by
  rintro j d S hd ⟨y5,y6,h5,h6,rfl⟩
  rw[wL rfl,lV] at hd
  have hj:j < L.length:=by have:=(List.getElem?_eq_some_iff.mp hd).1;rwa [List.length_map,List.length_range] at this
  rw[List.getElem?_map,List.getElem?_range hj] at hd
  cases hd
  have et:L.take (j+1)=L.take j++[na L j]:=by rw[List.take_succ,bU hj];rfl
  have tl:(L.take j).length=j:=by rw[List.length_take];omega
  have nm:na L j∉L.take j:=fun z=>by
   obtain⟨i,hi,z⟩:=List.getElem_of_mem z
   rw[List.getElem_take] at z
   have hij:i < j:=by rw[tl] at hi;exact hi
   have a1:=nd.idxOf_getElem i (by omega)
   rw[z] at a1
   rw[LL nd hj] at a1
   omega
  have pw:=LQ nm (by omega)
  rw[tl,<-et] at pw
  refine⟨[z0,z1,z2,z3,some (.m (qj (L.take j))),some (.t (.int (j:Nat))),some (.t (.int (na L j:Nat))),y7,y8,y9,EL,JZ],_,?_,HX pw,_,_,rfl,rfl,rfl⟩
  simp[-dO,cE,h5,h6])
 have el:(jv (iD L)).length=L.length:=by unfold jv iD;rw[List.length_mapIdx,List.length_map]
 rw[el,List.take_length] at e
 exact⟨y5,y6,h5,e⟩
noncomputable def vB (N:List (List Int)) (L:List Nat) (s c:Nat):Nat:=L.idxOf (gZ N (na L s) c)
noncomputable abbrev QS:GD:=aL 1 (eF (ao 0))
noncomputable abbrev inR:GD:=(eF (eP cu (aa (eF (bO [2] (cU (aL 1 (eF (ao 0)))) aO (aL 1 (eF (ao 0))))) aq)))
theorem E4 {o:MO}{acc:List D}{v:Int}{x:D}{z0 z1:Option U}(h:dz (.b o) (.int v)=some x):aW [2] aO QS [.int v] [z0,z1,some (.b o)] acc=some (acc++[x],[z0,z1,some (.b o)]):=by
 simp[aW,bL,fM,h,aK]
theorem LR {W:Nat}{g:Nat->Nat}{L:List Nat}{z0 z1:Option U}(h:∀c,c < W->g c∈L):aW [2] aO QS (bN W g) [z0,z1,some (.b (qj L))] []=some (bN W fun c=>L.idxOf (g c),[z0,z1,some (.b (qj L))]):=by
 obtain⟨acc,S',e,rfl,rfl⟩:=kZ (cap:=[2]) (g:=QS) (bN W g) (fun j acc S=>acc=(List.range j).map (fun c=>D.int (L.idxOf (g c):Nat))/\S=[z0,z1,some (.b (qj L))]) _ ⟨rfl,rfl⟩ (by
  rintro j d acc S hd ⟨rfl,rfl⟩
  have hj:j < W:=by have:=(List.getElem?_eq_some_iff.mp hd).1;rwa [cR] at this
  unfold bN at hd
  rw[List.getElem?_map,List.getElem?_range hj] at hd
  cases hd
  refine⟨_,_,E4 (JY (h j hj)),?_,rfl⟩
  rw[List.range_succ,List.map_append]
  rfl)
 rw[e,cR]
 rfl
theorem E5 {nt:D}{row outs acc:List D}{o:MO}{v:Int}{z1 z2 z3 z5 z6 z7 z8 z9 pD jM:Option U}(h1:dz (.t nt) (.int v)=some (.tup row)) (hl:row.length<=100000) (h2:∀z0 z1,aW [2] aO QS row [z0,z1,some (.b o)] []=some (outs,[z0,z1,some (.b o)])):
  aW [0,4] aO inR [.int v] [some (.t nt),z1,z2,z3,some (.m o),z5,z6,z7,z8,z9,pD,jM] acc=some (acc++[.tup outs],[some (.t nt),z1,z2,z3,some (.m o),z5,z6,z7,z8,z9,pD,jM]):=by
 simp[aW,bL,fM,h1,eB,bZ,hl,h2,aK]
theorem lA {cap:List Nat}{g:GD}{S:SS}{α:Type}(fa f:α->D):∀(l:List α) (acc:List D),(∀x∈l,∀acc,aW cap aO g [fa x] S acc=some (acc++[f x],S))->aW cap aO g (l.map fa) S acc=some (acc++l.map f,S)
 | [],acc,_=>by simp[aW]
 | x :: l,acc,h=>by
  rw[List.map_cons,Sq.fO,h x List.mem_cons_self,Option.bind_some]
  refine(lA fa f l (acc++[f x]) fun y hy=>h y (List.mem_cons_of_mem _ hy)).trans ?_
  simp
section
variable {W:Nat}{N:List (List Int)}{L:List Nat}{nt:D}{z1 z2 z3 z5 z6 z7 z8 z9 pD jM:Option U}
theorem LS (mo:rU W N) (hW:W < 1000) (hn:nt= .tup (N.map Sq.bR)\/nt= .lst (N.map Sq.bR)) (hL:∀v∈L,v < N.length) (cl:∀s c,s < L.length->c < W->gZ N (na L s) c∈L):
  aW [0,4] aO inR (iD L) [some (.t nt),z1,z2,z3,some (.m (qj L)),z5,z6,z7,z8,z9,pD,jM] []=some (aF L.length W (vB N L),[some (.t nt),z1,z2,z3,some (.m (qj L)),z5,z6,z7,z8,z9,pD,jM]):=by
 rw[wL rfl]
 refine(lA (fun s=>D.int (na L s:Nat)) (fun s=>.tup (bN W (vB N L s))) (List.range L.length) [] fun s hs acc=>?_).trans (by rw[List.nil_append];rfl)
 have hs:=List.mem_range.mp hs
 have sn:=hL _ (cV hs)
 exact E5 (row:=bN W (gZ N (na L s))) (by rw[za hn];exact wQ mo sn) (by rw[cR];omega) fun z0 z1=>LR fun c hc=>cl s c hs hc
theorem HZ {wt:D}{acc:List D}{v:Int}{x:D}{z0 z4:Option U}(h:dz (.t wt) (.int v)=some x):aW [1] aO (aL 1 (eF (ao 0))) [.int v] [z0,some (.t wt),z2,z3,z4,z5,z6,z7,z8,z9,pD,jM] acc=some (acc++[x],[z0,some (.t wt),z2,z3,z4,z5,z6,z7,z8,z9,pD,jM]):=by
 simp[aW,bL,fM,h,aK]
theorem O7 {wt:D}{M:List D}{z0 z4:Option U}(hw:wt= .tup M\/wt= .lst M) (hL:∀v∈L,v < M.length):aW [1] aO (aL 1 (eF (ao 0))) (iD L) [z0,some (.t wt),z2,z3,z4,z5,z6,z7,z8,z9,pD,jM] []=some ((List.range L.length).map fun s=>iV M (na L s),[z0,some (.t wt),z2,z3,z4,z5,z6,z7,z8,z9,pD,jM]):=by
 rw[wL rfl]
 refine(lA (fun s=>D.int (na L s:Nat)) (fun s=>iV M (na L s)) (List.range L.length) [] fun s hs acc=>?_).trans (by rw[List.nil_append])
 exact HZ (by rw[za hw];exact yV (hL _ (cV (List.mem_range.mp hs))))
end
theorem zd {bd:GB}{g:GN}{a:Addr}{I:Nat->SS->List (List D)->Prop}:∀(ds:List D) (k:Nat) (S:SS) (n:List (List D)),I k S n->(∀j d S n,ds[j]? =some d->I (k+j) S n->∃S1 S2 n2,bd d S=some S1/\g a S1 n=some (S2,n2)/\I (k+j+1) S2 n2)->∃S' n',BB bd g a ds S n=some (S',n')/\I (k+ds.length) S' n'
  | [],k,S,n,h,_=>⟨S,n,rfl,h⟩
  | d :: ds, k, S, n, h, hs => by
    obtain⟨S1,S2,n2,e1,e2,h2⟩:=hs 0 d S n rfl h
    obtain⟨S',n',e,h'⟩:=zd ds (k+1) S2 n2 h2 fun j d' S' n' hd hI=>by
      obtain⟨S1,S2,n2,a1,a2,a3⟩:=hs (j+1) d' S' n' hd (by rw[show k+(j+1)=k+1+j by omega];exact hI)
      rw[show k+(j+1)+1=k+1+j+1 by omega] at a3
      exact⟨S1,S2,n2,a1,a2,a3⟩
    refine⟨S',n',?_,?_⟩
    . show((bd d S).bind fun S1=>_)=_
      rw[e1,Option.bind_some,e2,Option.bind_some]
      exact e
    . rw[List.length_cons,show k+(ds.length+1)=k+1+ds.length by omega];exact h'
noncomputable def gr (L ns:List Nat) (j k:Nat):List D:=((List.range j).filter fun i=>na ns i == k).map fun i=>D.int (na L i:Nat)
noncomputable def rW (L ns:List Nat) (c j:Nat):List (List D):=(List.range c).map (gr L ns j)
theorem nY (L ns:List Nat) (c j:Nat):(rW L ns c j).length=c:=by unfold rW;rw[List.length_map,List.length_range]
theorem AE {L ns:List Nat}{c j k:Nat}(h:k < c):(rW L ns c j)[k]? =some (gr L ns j k):=by unfold rW;rw[List.getElem?_map,List.getElem?_range h];rfl
theorem E6 (L ns:List Nat) (c:Nat):rW L ns c 0=List.replicate c []:=by
 unfold rW
 rw[List.eq_replicate_iff]
 exact⟨by rw[List.length_map,List.length_range],fun b hb=>by obtain⟨k,_,rfl⟩:=List.mem_map.mp hb;rfl⟩
theorem BV (L ns:List Nat) (j k:Nat):gr L ns (j+1) k=gr L ns j k++if na ns j=k then [.int (na L j:Nat)] else []:=by
 unfold gr
 rw[List.range_succ,List.filter_append,List.map_append]
 by_cases h:na ns j=k
 ·rw[if_pos h,List.filter_cons_of_pos (by simpa using h)];rfl
 ·rw[if_neg h,List.filter_cons_of_neg (by simpa using h)];rfl
theorem E7 {L ns:List Nat}{c j:Nat}(h:na ns j < c):(rW L ns c j).set (na ns j) (gr L ns j (na ns j)++[.int (na L j:Nat)])=rW L ns c (j+1):=by
 apply List.ext_getElem?
 intro k
 by_cases hk:k < c
 ·rw[AE hk,BV]
  by_cases e:na ns j=k
  ·rw[if_pos e,e,List.getElem?_set_self (by rw[nY];exact hk)]
  ·rw[if_neg e,List.getElem?_set_ne e,AE hk,List.append_nil]
 ·rw[List.getElem?_eq_none (by rw[List.length_set,nY];omega),List.getElem?_eq_none (by rw[nY];omega)]
theorem LU (L ns:List Nat) (j k:Nat):(gr L ns j k).length<=j:=by
 unfold gr
 rw[List.length_map]
 exact Nat.le_trans (List.length_filter_le _ _) (by rw[List.length_range];exact Nat.le_refl _)
theorem BW {L ns : List Nat} {c k : Nat} (h : yL ns c) (hk : k < c) : ∃ rest, gr L ns ns.length k = .int (na L (ns.idxOf k) : Nat) :: rest := by
  obtain⟨l,e⟩:=j7 h hk
  have go : ∀ j, ns.idxOf k < j -> j <= ns.length -> ∃ rest, gr L ns j k = .int (na L (ns.idxOf k) : Nat) :: rest := by
    intro j
    induction j with
    | zero=>intro q;omega
    | succ j ih=>
      intro q ql
      rw[BV]
      by_cases z:ns.idxOf k < j
      . obtain⟨rest,er⟩:=ih z (by omega)
        rw[er]
        exact⟨_,List.cons_append ..⟩
      . have:ns.idxOf k=j:=by omega
        have emp:gr L ns j k=[]:=by
          unfold gr
          rw[List.map_eq_nil_iff,List.filter_eq_nil_iff]
          intro i hi
          have hi:=List.mem_range.mp hi
          simp only[beq_iff_eq]
          intro w
          have:=nW (ns:=ns) (i:=i) (by omega) w
          omega
        rw[emp,<-this,if_pos e]
        exact⟨[],rfl⟩
  exact go ns.length l (Nat.le_refl _)
section
variable {z0 z1 z2 z4 z6 z7 jM:Option U}{L ns:List Nat}{c:Nat}
noncomputable def yI (y:Option U):Nat->Option U
 | 0=>y
 | j+1=>some (.t (.int (j:Nat)))
noncomputable def yN (ns:List Nat):Nat->Option U
 | 0=>none
 | j+1=>some (.t (.int (na ns j:Nat)))
noncomputable abbrev gS (z0 z1 z2 z4 z6 z7 jM:Option U) (L ns:List Nat) (u9:U) (y5 EL:Option U):SS:=[z0,z1,z2,some (.t (.lst (iD L))),z4,y5,z6,z7,some (.t (.lst (iD ns))),some u9,EL,jM]
theorem Ia {a:Addr}{nums E8:List D}{nest:List (List D)}{ds:List D}{j k:Int}{kk:Nat}{v:D}(h1:xA nest.length k=some kk) (h2:nest[kk]? =some ds) (h3:cX E8 j=some v) (hl:ds.length < 100000):
  QO a [z0,z1,z2,some (.t (.lst E8)),z4,some (.t (.int j)),z6,z7,some (.t (.lst nums)),some (.f a),some (.t (.int k)),jM] nest=some ([z0,z1,z2,some (.t (.lst E8)),z4,some (.t (.int j)),z6,z7,some (.t (.lst nums)),some (.f a),some (.t (.int k)),jM],nest.set kk (ds++[v])):=by
 simp[Ey,h1,h2,h3,hl,Ex]
theorem Ib {n k:Nat}(h:k < n):xA n (k:Int)=some k:=by
 unfold xA
 rw[if_pos (Int.natCast_nonneg k),if_pos (by omega),Int.toNat_natCast]
theorem LV {y5:Option U}(h5:iE y5=false) (hc:yL ns c) (hl:ns.length=L.length) (hm:ns.length<=900) (a:Addr):
  Ez 9 Ua (oK (aa (eF (ao 8)) aq)) QO a (gS z0 z1 z2 z4 z6 z7 jM L ns (.f a) y5 none) (List.replicate c [])=some (gS z0 z1 z2 z4 z6 z7 jM L ns (.f a) (yI y5 ns.length) (yN ns ns.length),rW L ns c ns.length):=by
 obtain⟨S',n',e,rfl,rfl⟩:=zd (bd:=fun d S=>(Ua d S).bind fun S1=>if Ex S1 9 a=true then some S1 else none) (g:=QO) (a:=a) (I:=fun j S n=>S=gS z0 z1 z2 z4 z6 z7 jM L ns (.f a) (yI y5 j) (yN ns j)/\n=rW L ns c j) (jv (iD ns)) 0 (gS z0 z1 z2 z4 z6 z7 jM L ns (.f a) y5 none) (List.replicate c []) ⟨rfl,(E6 L ns c).symm⟩ (by
  rintro j d S n hd ⟨rfl,rfl⟩
  rw[Nat.zero_add]
  rw[wL rfl,lV] at hd
  have hj:j < ns.length:=by have:=(List.getElem?_eq_some_iff.mp hd).1;rwa [List.length_map,List.length_range] at this
  rw[List.getElem?_map,List.getElem?_range hj] at hd
  cases hd
  have kc:=hc.lt _ (cV hj)
  have gl:=LU L ns j (na ns j)
  have b5:iE (yI y5 j)=false:=by cases j with | zero=>exact h5 | succ j=>rfl
  have Ug:iE (yN ns j)=false:=by cases j with | zero=>rfl | succ j=>rfl
  refine⟨gS z0 z1 z2 z4 z6 z7 jM L ns (.f a) (some (.t (.int (j:Nat)))) (some (.t (.int (na ns j:Nat)))),_,_,?_,Ia (Ib (by rw[nY];exact kc)) (AE kc) (kJ (ns:=L) (by omega)) (by omega),?_,?_⟩
  ·simp[-dO,cE,b5,Ug,Ex]
  ·rfl
  ·exact E7 kc)
 have el:(jv (iD ns)).length=ns.length:=by unfold jv iD;rw[List.length_mapIdx,List.length_map]
 rw[el,Nat.zero_add] at e
 have eg:oK (aa (eF (ao 8)) aq) (gS z0 z1 z2 z4 z6 z7 jM L ns (.f a) y5 none)=some (jv (iD ns),gS z0 z1 z2 z4 z6 z7 jM L ns (.f a) y5 none):=rfl
 unfold Ez
 rw[eg,Option.bind_some]
 have ef:Ex (gS z0 z1 z2 z4 z6 z7 jM L ns (.f a) y5 none) 9 a=true:=by simp[Ex]
 rw[if_pos ef]
 exact e
theorem E9 {f1 f2:FM}{y5:Option U}{c:Nat}(h5:iE y5=false) (hc:yL ns c) (hl:ns.length=L.length) (hm:ns.length<=900) (hpos:0 < ns.length):
  Uc f1 f2 [z0,z1,z2,some (.t (.lst (iD L))),z4,y5,z6,z7,some (.t (.lst (iD ns))),none,none,jM]=some (.nx (gS z0 z1 z2 z4 z6 z7 jM L ns (.t (.lst ((rW L ns c ns.length).map D.lst))) (yI y5 ns.length) (yN ns ns.length))):=by
 have cpos:0 < c:=by have:=hc.lt _ (cV (ns:=ns) (i:=0) hpos);omega
 have TZ:=wM hc
 have em:=EM hc cpos
 have er:Ub [z0,z1,z2,some (.t (.lst (iD L))),z4,y5,z6,z7,some (.t (.lst (iD ns))),none,none,jM]=some (mD 0 c,[z0,z1,z2,some (.t (.lst (iD L))),z4,y5,z6,z7,some (.t (.lst (iD ns))),none,none,jM]):=by
  have e:(aa (eF (eP kr (aa (eF (eP kD (aa (eF (ao 8)) aq))) (aa (eC (.int 1)) aq)))) aq) [z0,z1,z2,some (.t (.lst (iD L))),z4,y5,z6,z7,some (.t (.lst (iD ns))),none,none,jM]=some ([.int (((c - 1:Nat):Int)+1)],[z0,z1,z2,some (.t (.lst (iD L))),z4,y5,z6,z7,some (.t (.lst (iD ns))),none,none,jM]):=by
   generalize iD ns=nn at em
   generalize ((c - 1:Nat):Int)=mx at em
   simp[em]
  have e2:((c - 1:Nat):Int)+1=((c:Nat):Int):=by omega
  rw[e2] at e
  have hb:c < 1000000:=by omega
  rw[show Ub _=_ from Sq.qF e (Int.ofNat_lt.mpr hb) (Sq.Az _),Int.toNat_natCast]
 unfold Uc BC
 rw[er,Option.bind_some]
 simp only[List.getElem?_cons_succ,List.getElem?_cons_zero]
 have rl:(mD 0 c).length=c:=Sq.kE ..
 rw[rl,if_pos (by omega),Ar (r:=gS z0 z1 z2 z4 z6 z7 jM L ns (.t (.lst ((rW L ns c ns.length).map D.lst))) (yI y5 ns.length) (yN ns ns.length)) (fun a=>by
  rw[show([z0,z1,z2,some (.t (.lst (iD L))),z4,y5,z6,z7,some (.t (.lst (iD ns))),none,none,jM]:SS).set 9 (some (.f a))=gS z0 z1 z2 z4 z6 z7 jM L ns (.f a) y5 none from rfl,LV h5 hc hl hm a]
  rfl)]
 rfl
end
noncomputable abbrev Uh:GD:=aL 1 (aL 2 (eF (ao 0)))
noncomputable abbrev Xy:GD:=(eF (eP cu (aa (eF (bO [2,3] (cU (aL 1 (aL 0 (eC (.int 0))))) aO (aL 1 (aL 2 (eF (ao 0)))))) aq)))
theorem Fb {o:MO}{nums acc:List D}{v p:Int}{x:D}{z0 z1:Option U}(h:dz (.b o) (.int v)=some (.int p)) (h2:cX nums p=some x):aW [2,3] aO Uh [.int v] [z0,z1,some (.t (.lst nums)),some (.b o)] acc=some (acc++[x],[z0,z1,some (.t (.lst nums)),some (.b o)]):=by
 simp[aW,bL,fM,h,h2,aK]
theorem LW {W:Nat}{g:Nat->Nat}{L ns:List Nat}{z0 z1:Option U}(hl:ns.length=L.length) (h:∀c,c < W->g c∈L):aW [2,3] aO Uh (bN W g) [z0,z1,some (.t (.lst (iD ns))),some (.b (qj L))] []=some (bN W fun c=>qG L ns (g c),[z0,z1,some (.t (.lst (iD ns))),some (.b (qj L))]):=by
 unfold bN
 refine(lA (fun c=>D.int (g c:Nat)) (fun c=>D.int (qG L ns (g c):Nat)) (List.range W) [] fun c hc acc=>?_).trans (by rw[List.nil_append])
 have m:=h c (List.mem_range.mp hc)
 exact Fb (JY m) (kJ (by rw[hl];exact(kK m).1))
theorem Fc {nt:D}{nums row outs rest acc:List D}{o:MO}{u:Int}{z1 z2 z3 z5 z6 z7 z9 pD jM:Option U}(h1:dz (.t nt) (.int u)=some (.tup row)) (hl:row.length<=100000) (h2:∀z0 z1,aW [2,3] aO Uh row [z0,z1,some (.t (.lst nums)),some (.b o)] []=some (outs,[z0,z1,some (.t (.lst nums)),some (.b o)])):
  aW [0,8,4] aO Xy [.lst (.int u :: rest)] [some (.t nt),z1,z2,z3,some (.m o),z5,z6,z7,some (.t (.lst nums)),z9,pD,jM] acc=some (acc++[.tup outs],[some (.t nt),z1,z2,z3,some (.m o),z5,z6,z7,some (.t (.lst nums)),z9,pD,jM]):=by
 have e0:cX (D.int u :: rest) 0=some (.int u):=Sq.qE (Int.le_refl 0) rfl
 simp[aW,bL,fM,e0,h1,eB,bZ,hl,h2,aK]
theorem Ic {wt:D}{rest acc:List D}{u:Int}{x:D}{z0 z2 z3 z4 z5 z6 z7 z8 z9 pD jM:Option U}(h:dz (.t wt) (.int u)=some x):aW [1] aO (aL 1 (aL 0 (eC (.int 0)))) [.lst (.int u :: rest)] [z0,some (.t wt),z2,z3,z4,z5,z6,z7,z8,z9,pD,jM] acc=some (acc++[x],[z0,some (.t wt),z2,z3,z4,z5,z6,z7,z8,z9,pD,jM]):=by
 have e0:cX (D.int u :: rest) 0=some (.int u):=Sq.qE (Int.le_refl 0) rfl
 simp[aW,bL,fM,e0,h,aK]
section
variable {W:Nat}{N:List (List Int)}{L ns:List Nat}{c:Nat}{nt:D}{z1 z2 z3 z5 z6 z7 z9 pD jM:Option U}
theorem LX (mo:rU W N) (hW:W < 1000) (hn:nt= .tup (N.map Sq.bR)\/nt= .lst (N.map Sq.bR)) (hL:∀v∈L,v < N.length) (cl:∀s c,s < L.length->c < W->gZ N (na L s) c∈L) (hl:ns.length=L.length) (hc:yL ns c):
  aW [0,8,4] aO Xy ((rW L ns c ns.length).map D.lst) [some (.t nt),z1,z2,z3,some (.m (qj L)),z5,z6,z7,some (.t (.lst (iD ns))),z9,pD,jM] []=some ((List.range c).map fun k=>.tup (bN W fun col=>qG L ns (gZ N (na L (ns.idxOf k)) col)),[some (.t nt),z1,z2,z3,some (.m (qj L)),z5,z6,z7,some (.t (.lst (iD ns))),z9,pD,jM]):=by
 unfold rW
 rw[List.map_map]
 refine(lA (D.lst ∘ gr L ns ns.length) (fun k=>.tup (bN W fun col=>qG L ns (gZ N (na L (ns.idxOf k)) col))) (List.range c) [] fun k hk acc=>?_).trans (by rw[List.nil_append])
 have hk:=List.mem_range.mp hk
 obtain⟨il,_⟩:=j7 hc hk
 obtain⟨rest,er⟩:=BW (L:=L) hc hk
 show aW _ _ _ [.lst (gr L ns ns.length k)] _ _=_
 rw[er]
 exact Fc (row:=bN W (gZ N (na L (ns.idxOf k)))) (by rw[za hn];exact wQ mo (hL _ (cV (by omega)))) (by rw[cR];omega) fun z0 z1=>LW hl fun col pC=>cl _ col (by omega) pC
theorem O8 {wt:D}{M:List D}{z0 z4 z8:Option U}(hw:wt= .tup M\/wt= .lst M) (hL:∀v∈L,v < M.length) (hl:ns.length=L.length) (hc:yL ns c):
  aW [1] aO (aL 1 (aL 0 (eC (.int 0)))) ((rW L ns c ns.length).map D.lst) [z0,some (.t wt),z2,z3,z4,z5,z6,z7,z8,z9,pD,jM] []=some ((List.range c).map fun k=>iV M (na L (ns.idxOf k)),[z0,some (.t wt),z2,z3,z4,z5,z6,z7,z8,z9,pD,jM]):=by
 unfold rW
 rw[List.map_map]
 refine(lA (D.lst ∘ gr L ns ns.length) (fun k=>iV M (na L (ns.idxOf k))) (List.range c) [] fun k hk acc=>?_).trans (by rw[List.nil_append])
 have hk:=List.mem_range.mp hk
 obtain⟨il,_⟩:=j7 hc hk
 obtain⟨rest,er⟩:=BW (L:=L) hc hk
 show aW _ _ _ [.lst (gr L ns ns.length k)] _ _=_
 rw[er]
 exact Ic (by rw[za hw];exact yV (hL _ (cV (by omega))))
end
section
variable {W:Nat}{N:List (List Int)}{M:List D}{L ns:List Nat}{c a:Nat}
theorem wR (cl:∀s c,s < L.length->c < W->gZ N (na L s) c∈L):∀(cs:List Nat) (p:Nat),Vd W cs->p < L.length->led (vB N L) cs p < L.length/\na L (led (vB N L) cs p)=led (gZ N) cs (na L p)
 | [],p,_,hp=>⟨hp,rfl⟩
 | col :: cs,p,hc,hp=>by
  have m:=cl p col hp (hc col List.mem_cons_self)
  obtain⟨l,e⟩:=kK m
  have:=wR cl cs (vB N L p col) (fun d hd=>hc d (List.mem_cons_of_mem _ hd)) l
  refine⟨this.1,this.2.trans ?_⟩
  show led (gZ N) cs (na L (L.idxOf (gZ N (na L p) col)))=led (gZ N) cs (gZ N (na L p) col)
  rw[e]
theorem AF (hB:Bf (gZ N) (fun v=>v) W L a 0) (ha:L.length<=a) (P:Part L.length W (vB N L) (fun s=>iV M (na L s)) ns c) (st:E3 L.length W (vB N L) ns):
  Canon W c (ni (gZ N) (qG L ns) (rep L ns c)) (fun s=>iV M (na (rep L ns c) s))/\(∀cs,Vd W cs->iV M (na (rep L ns c) (led (ni (gZ N) (qG L ns) (rep L ns c)) cs 0))=iV M (led (gZ N) cs 0))/\
  ∀k col,k < c->col < W->ni (gZ N) (qG L ns) (rep L ns c) k col=qG L ns (gZ N (na L (ns.idxOf k)) col):=by
 have nd:L.Nodup:=by have:=hB.nd;rwa [List.map_id'] at this
 have l0:0 < L.length:=(List.getElem?_eq_some_iff.mp hB.zero).1
 have cl:∀s c,s < L.length->c < W->gZ N (na L s) c∈L:=fun s col hs hc=>by
  have:=hB.seen s col _ hc (by unfold Er;omega) (bU hs)
  rwa [List.map_id'] at this
 have m0:0∈L:=List.mem_of_getElem? hB.zero
 have bf:=LM hB ha P.len P.cls P.fo fun s t col hs ht pC e=>st s t col hs ht pC e
 have rl:(rep L ns c).length=c:=by unfold rep;rw[List.length_map,List.length_range]
 have C:LK (gZ N) (iV M) (qG L ns) W (fun v=>v∈L):=⟨m0,fun s col hs hc=>by
   have:=cl _ col (kK hs).1 hc
   rwa [(kK hs).2] at this,fun s t col hs ht hc e=>by
   have:=st _ _ col (kK hs).1 (kK ht).1 hc e
   unfold vB at this
   rw[(kK hs).2,(kK ht).2] at this
   exact this,fun s t hs ht e=>by
   have:=P.word _ _ (kK hs).1 (kK ht).1 e
   rw[(kK hs).2,(kK ht).2] at this
   exact this,fun s t hs ht ne=>by
   obtain⟨cs,v,q⟩:=P.ne _ _ (kK hs).1 (kK ht).1 ne
   refine⟨cs,v,?_⟩
   rw[(wR cl cs _ v (kK hs).1).2,(wR cl cs _ v (kK ht).1).2,(kK hs).2,(kK ht).2] at q
   exact q⟩
 have hP:∀v∈rep L ns c,v∈L:=fun v hv=>by
  obtain⟨k,hk,rfl⟩:=List.mem_map.mp hv
  have:=(j7 P.cls (List.mem_range.mp hk)).1
  exact cV (by rw[<-P.len];exact this)
 obtain⟨cn,bh⟩:=canon_of C bf (Nat.le_refl _) hP
 rw[rl] at cn
 refine⟨cn,bh,fun k col hk pC=>?_⟩
 have rk:na (rep L ns c) k=na L (ns.idxOf k):=tY hk
 unfold ni ix
 rw[rk,BQ nd P.len P.cls]
 have m:=cl (ns.idxOf k) col (by rw[<-P.len];exact(j7 P.cls hk).1) pC
 have lt:qG L ns (gZ N (na L (ns.idxOf k)) col) < c:=P.cls.lt _ (cV (by rw[P.len];exact(kK m).1))
 have:=List.nodup_range.idxOf_getElem (xs:=List.range c) (qG L ns (gZ N (na L (ns.idxOf k)) col)) (by rw[List.length_range];exact lt)
 rwa [List.getElem_range] at this
end
theorem qd {m W:Nat}{f g:Nat->Nat->Nat}(h:∀s c,s < m->c < W->f s c=g s c):aF m W f=aF m W g:=by
 unfold aF
 refine List.map_congr_left fun s hs=>?_
 unfold bN
 congr 1
 exact List.map_congr_left fun c hc=>by rw[h s c (List.mem_range.mp hs) (List.mem_range.mp hc)]
theorem Fe {W : Nat} {N : List (List Int)} {M : List D} {nt wt md : D} (mo : rU W N) (hW : W < 1000) (hn : nt = .tup (N.map Sq.bR) \/ nt = .lst (N.map Sq.bR)) (hM : M.length = N.length) (hw : wt = .tup M \/ wt = .lst M) (Zk : ∀ x ∈ M, Wd x)
    (hmd:md= .dh\/∃k:Int,md= .int k/\∀L ns c a,Bf (gZ N) (fun v=>v) W L a 0->L.length<=a->(∀v∈L,v < N.length)->Part L.length W (vB N L) (fun s=>iV M (na L s)) ns c->(c:Int)<=k):
    ∃n' nx' jL gs,lW [.t nt,.t wt,.t md]=some (.t (.tup [.tup (aF n' W nx'),.tup ((List.range n').map jL),.lst gs]),[])/\Canon W n' nx' jL/\(∀cs,Vd W cs->jL (led nx' cs 0)=iV M (led (gZ N) cs 0))/\n'<=N.length/\(∀s,s < n'->jL s∈M)/\gs.length<=N.length/\∀g∈gs,∃vs:List Nat,g= .lst (iD vs)/\vs.length<=N.length/\∀v∈vs,v < N.length:=by
  have few:=mo.few
  obtain⟨L,e0,hL,a,hB,ha⟩:=EY mo hn
  have nd:L.Nodup:=by have:=hB.nd;rwa [List.map_id'] at this
  have l0:0 < L.length:=(List.getElem?_eq_some_iff.mp hB.zero).1
  have lf:=qH nd hL
  have QT:∀v∈L,v < M.length:=fun v hv=>by rw[hM];exact hL v hv
  have cl:∀s c,s < L.length->c < W->gZ N (na L s) c∈L:=fun s col hs hc=>by
    have:=hB.seen s col _ hc (by unfold Er;omega) (bU hs)
    rwa [List.map_id'] at this
  obtain⟨ns,c,e4,P,st⟩:=HW (m:=L.length) (W:=W) (f:=vB N L) (wd:=fun s=>iV M (na L s)) (md:=md) l0 (by omega) hW (fun s col hs hc=>(kK (cl s col hs hc)).1) (fun s hs=>Zk _ (tV (QT _ (cV hs)))) (hmd.imp id fun⟨k,z1,z2⟩=>⟨k,z1,fun ns c P=>z2 L ns c a hB ha hL P⟩)
  have zc:=P.len
  have TZ:=wM P.cls
  obtain⟨cn,bh,rows⟩:=AF (M:=M) hB ha P st
  refine⟨c,ni (gZ N) (qG L ns) (rep L ns c),fun s=>iV M (na (rep L ns c) s),(rW L ns c ns.length).map D.lst,?_,cn,bh,by omega,fun s hs=>?_,by rw[List.length_map,nY];omega,fun g hg=>?_⟩
  . have eL:(iD L).length<=100000:=by unfold iD;rw[List.length_map];omega
    have eG:((rW L ns c ns.length).map D.lst).length<=100000:=by rw[List.length_map,nY];omega
    have s0:T5 reachF jF [some (.t nt),some (.t wt),some (.t md),none,none,none,none,none,none,none,none,none]=some (.nx [some (.t nt),some (.t wt),some (.t md),some (.m (.lst (iD L))),none,none,none,none,none,none,none,none]):=by
      generalize reachF=f1 at e0
      simp[T5,e0]
    have s1:T6 reachF jF [some (.t nt),some (.t wt),some (.t md),some (.m (.lst (iD L))),none,none,none,none,none,none,none,none]=some (.nx [some (.t nt),some (.t wt),some (.t md),some (.m (.lst (iD L))),some (.m (.dct [])),none,none,none,none,none,none,none]):=by simp[T6]
    obtain⟨y5,y6,h5,lp⟩:=HY (f1:=reachF) (f2:=jF) (z0:=some (.t nt)) (z1:=some (.t wt)) (z2:=some (.t md)) (z3:=some (.t (.lst (iD L)))) (y7:=none) (y8:=none) (y9:=none) (EL:=none) (JZ:=none) nd (by omega)
    have s2:T7 reachF jF [some (.t nt),some (.t wt),some (.t md),some (.m (.lst (iD L))),some (.m (.dct [])),none,none,none,none,none,none,none]=some (.nx [some (.t nt),some (.t wt),some (.t md),some (.t (.lst (iD L))),some (.m (qj L)),y5,y6,none,none,none,none,none]):=by
      unfold T7
      rw[wF]
      exact lp
    have s3:T8 reachF jF [some (.t nt),some (.t wt),some (.t md),some (.t (.lst (iD L))),some (.m (qj L)),y5,y6,none,none,none,none,none]=some (.nx [some (.t nt),some (.t wt),some (.t md),some (.t (.lst (iD L))),some (.m (qj L)),y5,y6,some (.m (.lst (aF L.length W (vB N L)))),none,none,none,none]):=by
      have:=LS (L:=L) (z1:=some (.t wt)) (z2:=some (.t md)) (z3:=some (.t (.lst (iD L)))) (z5:=y5) (z6:=y6) (z7:=none) (z8:=none) (z9:=none) (pD:=none) (jM:=none) mo hW hn hL cl
      generalize iD L=l at this eL ⊢
      simp[T8,eB,bZ,eL,this]
    have s4:T9 reachF jF [some (.t nt),some (.t wt),some (.t md),some (.t (.lst (iD L))),some (.m (qj L)),y5,y6,some (.m (.lst (aF L.length W (vB N L)))),none,none,none,none]=some (.nx [some (.t nt),some (.t wt),some (.t md),some (.t (.lst (iD L))),some (.m (qj L)),y5,y6,some (.t (.lst (aF L.length W (vB N L)))),some (.t (.lst (iD ns))),none,none,none]):=by
      have:=fun z7=>O7 (L:=L) (z0:=some (.t nt)) (z2:=some (.t md)) (z3:=some (.t (.lst (iD L)))) (z4:=some (.m (qj L))) (z5:=y5) (z6:=y6) (z7:=z7) (z8:=none) (z9:=none) (pD:=none) (jM:=none) hw QT
      generalize jF=f2 at e4
      generalize iD L=l at this eL ⊢
      generalize aF L.length W (vB N L)=rr at e4 ⊢
      simp[T9,eB,bZ,eL,this,e4]
    have s5:=E9 (f1:=reachF) (f2:=jF) (z0:=some (.t nt)) (z1:=some (.t wt)) (z2:=some (.t md)) (z4:=some (.m (qj L))) (z6:=y6) (z7:=some (.t (.lst (aF L.length W (vB N L))))) (jM:=none) (L:=L) (y5:=y5) h5 P.cls zc (by omega) (by omega)
    have s7:Ud reachF jF (gS (some (.t nt)) (some (.t wt)) (some (.t md)) (some (.m (qj L))) y6 (some (.t (.lst (aF L.length W (vB N L))))) none L ns (.t (.lst ((rW L ns c ns.length).map D.lst))) (yI y5 ns.length) (yN ns ns.length))=some (.nx (gS (some (.t nt)) (some (.t wt)) (some (.t md)) (some (.m (qj L))) y6 (some (.t (.lst (aF L.length W (vB N L))))) (some (.m (.lst (aF c W (ni (gZ N) (qG L ns) (rep L ns c)))))) L ns (.t (.lst ((rW L ns c ns.length).map D.lst))) (yI y5 ns.length) (yN ns ns.length))):=by
      have:=fun z3 z5 z9 pD=>LX (L:=L) (ns:=ns) (c:=c) (z1:=some (.t wt)) (z2:=some (.t md)) (z3:=z3) (z5:=z5) (z6:=y6) (z7:=some (.t (.lst (aF L.length W (vB N L))))) (z9:=z9) (pD:=pD) (jM:=none) mo hW hn hL cl zc P.cls
      have er:((List.range c).map fun k=>D.tup (bN W fun col=>qG L ns (gZ N (na L (ns.idxOf k)) col)))=aF c W (ni (gZ N) (qG L ns) (rep L ns c)):=by
        rw[<-qd fun s col hs pC=>(rows s col hs pC).symm]
        rfl
      rw[er] at this
      generalize aF c W (ni (gZ N) (qG L ns) (rep L ns c))=rr at this ⊢
      generalize (rW L ns c ns.length).map D.lst=gg at this eG ⊢
      simp[Ud,gS,eB,bZ,eG,this]
    have all:∃S,Ue reachF jF (gS (some (.t nt)) (some (.t wt)) (some (.t md)) (some (.m (qj L))) y6 (some (.t (.lst (aF L.length W (vB N L))))) (some (.m (.lst (aF c W (ni (gZ N) (qG L ns) (rep L ns c)))))) L ns (.t (.lst ((rW L ns c ns.length).map D.lst))) (yI y5 ns.length) (yN ns ns.length))=some (.rt (.t (.tup [.tup (aF c W (ni (gZ N) (qG L ns) (rep L ns c))),.tup ((List.range c).map fun s=>iV M (na (rep L ns c) s)),.lst ((rW L ns c ns.length).map D.lst)])) (some (.t nt) :: some (.t wt) :: some (.t md) :: S)):=by
      have:=fun z3 z5 z9 pD jM=>O8 (L:=L) (ns:=ns) (c:=c) (z0:=some (.t nt)) (z2:=some (.t md)) (z3:=z3) (z4:=some (.m (qj L))) (z5:=z5) (z6:=y6) (z7:=some (.t (.lst (aF L.length W (vB N L))))) (z8:=some (.t (.lst (iD ns)))) (z9:=z9) (pD:=pD) (jM:=jM) hw QT zc P.cls
      have er:((List.range c).map fun k=>iV M (na L (ns.idxOf k)))=(List.range c).map fun s=>iV M (na (rep L ns c) s):=List.map_congr_left fun k hk=>by
        rw[show na (rep L ns c) k=na L (ns.idxOf k) from tY (List.mem_range.mp hk)]
      rw[er] at this
      generalize aF c W (ni (gZ N) (qG L ns) (rep L ns c))=rr at this ⊢
      generalize (rW L ns c ns.length).map D.lst=gg at this eG ⊢
      generalize ((List.range c).map fun s=>iV M (na (rep L ns c) s))=ww at this ⊢
      exact⟨_,by simp[Ue,gS,eB,bZ,eG,this];rfl⟩
    obtain⟨S,all⟩:=all
    refine nh (S:=some (.t nt) :: some (.t wt) :: some (.t md) :: S) ?_ rfl
    show dU reachF jF [some (.t nt),some (.t wt),some (.t md),none,none,none,none,none,none,none,none,none]=_
    rw[O6,Sq.bw s0,Sq.bw s1,Sq.bw s2,Sq.bw s3,Sq.bw s4,Sq.bw s5,Sq.bw s7]
    exact all
  . show iV M (na (rep L ns c) s)∈M
    rw[show na (rep L ns c) s=na L (ns.idxOf s) from tY hs]
    exact tV (QT _ (cV (by rw[<-zc];exact(j7 P.cls hs).1)))
  . obtain⟨x,hx,rfl⟩:=List.mem_map.mp hg
    unfold rW at hx
    obtain⟨k,_,rfl⟩:=List.mem_map.mp hx
    have fl:((List.range ns.length).filter fun i=>na ns i == k).length<=N.length:=Nat.le_trans (List.length_filter_le _ _) (by rw[List.length_range];omega)
    refine⟨((List.range ns.length).filter fun i=>na ns i == k).map (na L),?_,by rw[List.length_map];exact fl,fun v hv=>?_⟩
    . unfold gr iD
      rw[List.map_map]
      rfl
    . obtain⟨i,hi,rfl⟩:=List.mem_map.mp hv
      have:=List.mem_range.mp (List.mem_filter.mp hi).1
      exact hL _ (cV (by omega))
end Sk
end
section
namespace So
open PySem PySem.Spec PyProof.Rows L2 Sw Sl Sk
noncomputable def bE (p:Nat×Nat):D:=.tup [.int (p.1:Nat),.int (p.2:Nat)]
theorem BX {p q:Nat×Nat}(h:bE p=bE q):p=q:=by
 unfold bE at h
 injection h with h
 injection h with h1 h2
 injection h2 with h2 _
 injection h1 with h1
 injection h2 with h2
 exact Prod.ext (by omega) (by omega)
theorem nZ (p:Nat×Nat):ju (bE p)=some (bE p):=nX [p.1,p.2]
theorem kF {P:List (Nat×Nat)}{q:Nat×Nat}:bE q∈P.map bE↔q∈P:=by
 rw[List.mem_map]
 exact⟨fun⟨p,h,e⟩=>BX e▸h,fun h=>⟨q,h,rfl⟩⟩
theorem wU:∀{P:List (Nat×Nat)}{q:Nat×Nat},(P.map bE).idxOf (bE q)=P.idxOf q
  | [],_=>rfl
  | p :: P, q => by
    rw[List.map_cons,List.idxOf_cons,List.idxOf_cons,wU]
    by_cases e:p=q
    . subst e;simp
    . have:bE p≠bE q:=fun z=>e (BX z)
      rw[beq_eq_false_iff_ne.mpr e,beq_eq_false_iff_ne.mpr this]
noncomputable def rD (P:List (Nat×Nat)) (q:Nat×Nat):List (Nat×Nat):=if q∈P then P else P++[q]
theorem sD (P:List (Nat×Nat)) (q:Nat×Nat):q∈rD P q:=by
 unfold rD
 split
 ·assumption
 ·simp
theorem BY (P:List (Nat×Nat)) (q:Nat×Nat):∃E,rD P q=P++E/\∀r∈E,r=q:=by
 unfold rD
 split
 ·exact⟨[],by simp,by simp⟩
 ·exact⟨[q],rfl,by simp⟩
theorem Ff {P:List (Nat×Nat)}(q:Nat×Nat) (h:P.Nodup):(rD P q).Nodup:=by
 unfold rD
 split
 ·exact h
 ·rename_i m
  rw[List.nodup_append]
  exact⟨h,by simp,fun x hx y hy e=>m (by rw[List.mem_singleton] at hy;rw[<-hy,<-e];exact hx)⟩
theorem sE {P E:List (Nat×Nat)}{r:Nat×Nat}(h:r∈P):(P++E).idxOf r=P.idxOf r:=by rw[List.idxOf_append,if_pos h]
noncomputable def st2 (f g:Nat->Nat->Nat) (p:Nat×Nat) (c:Nat):Nat×Nat:=(f p.1 c,g p.2 c)
noncomputable def Rc (W:Nat) (f g:Nat->Nat->Nat) (p:Nat×Nat):Prop:=∃cs,Vd W cs/\p=(led f cs 0,led g cs 0)
theorem Ie {W:Nat}{f g:Nat->Nat->Nat}:Rc W f g (0,0):=⟨[],fun c hc=>(by cases hc),rfl⟩
theorem J0 {W:Nat}{f g:Nat->Nat->Nat}{p:Nat×Nat}{c:Nat}(h:Rc W f g p) (hc:c < W):Rc W f g (st2 f g p c):=by
 obtain⟨cs,v,rfl⟩:=h
 exact⟨cs++[c],j6 v (tX hc),by rw[d9,d9];rfl⟩
noncomputable def kM (W:Nat) (k:List Nat->Nat) (f:Nat->Nat->Nat):Prop:=∀cs ds,Vd W cs->Vd W ds->k cs=k ds->led f cs 0=led f ds 0
theorem ze {W m:Nat}{k:List Nat->Nat}{f g:Nat->Nat->Nat}{P:List (Nat×Nat)}(hk:∀cs,Vd W cs->k cs < m) (hf:kM W k f) (hg:kM W k g) (nd:P.Nodup) (hr:∀p∈P,Rc W f g p):P.length<=m:=by
 have ex:∃n:Nat×Nat->Nat,∀p∈P,∃cs,Vd W cs/\p=(led f cs 0,led g cs 0)/\n p=k cs:=by
  refine⟨fun p=>open Classical in if h:Rc W f g p then k (Classical.choose h) else 0,fun p hp=>?_⟩
  have h:=hr p hp
  obtain⟨v,e⟩:=Classical.choose_spec h
  exact⟨Classical.choose h,v,e,dif_pos h⟩
 obtain⟨n,hn⟩:=ex
 have JH:(P.map n).Nodup:=by
  unfold List.Nodup at nd ⊢
  rw[List.pairwise_map]
  refine nd.imp_of_mem fun {a b} ha hb ne e=>ne ?_
  obtain⟨cs,v,e1,e2⟩:=hn a ha
  obtain⟨ds,w,e3,e4⟩:=hn b hb
  have q:k cs=k ds:=by rw[<-e2,<-e4,e]
  rw[e1,e3,hf cs ds v w q,hg cs ds v w q]
 have:=qH JH (n:=m) fun v hv=>by
  obtain⟨p,hp,rfl⟩:=List.mem_map.mp hv
  obtain⟨cs,v,_,e⟩:=hn p hp
  rw[e]
  exact hk cs v
 rwa [List.length_map] at this
noncomputable def pa (P:List (Nat×Nat)) (i:Nat):Nat×Nat:=P.getD i (0,0)
theorem pF {P:List (Nat×Nat)}{i:Nat}(h:i < P.length):P[i]? =some (pa P i):=by
 unfold pa
 rw[List.getD_eq_getElem?_getD,List.getElem?_eq_getElem h]
 rfl
theorem wV {P:List (Nat×Nat)}{i:Nat}(h:i < P.length):pa P i∈P:=List.mem_of_getElem? (pF h)
theorem qJ {P E:List (Nat×Nat)}{i:Nat}(h:i < P.length):pa (P++E) i=pa P i:=by
 unfold pa
 rw[List.getD_eq_getElem?_getD,List.getD_eq_getElem?_getD,List.getElem?_append_left h]
theorem Fg {P:List (Nat×Nat)}{q:Nat×Nat}(h:q∈P):pa P (P.idxOf q)=q:=by
 have l:=List.idxOf_lt_length_of_mem h
 unfold pa
 rw[List.getD_eq_getElem?_getD,List.getElem?_eq_getElem l,Option.getD_some]
 exact List.getElem_idxOf l
noncomputable def fx (f g:Nat->Nat->Nat) (P:List (Nat×Nat)) (i c:Nat):Nat:=P.idxOf (st2 f g (pa P i) c)
structure Fd (W:Nat) (f g:Nat->Nat->Nat) (P:List (Nat×Nat)) (a:Nat):Prop where
 zero:P[0]? =some (0,0)
 nd:P.Nodup
 rc:∀p∈P,Rc W f g p
 seen:∀i c,i < a->c < W->st2 f g (pa P i) c∈P
 le:a<=P.length
theorem BZ {W:Nat}{f g:Nat->Nat->Nat}:Fd W f g [(0,0)] 0:=
 ⟨rfl,by simp,fun p hp=>by rw[List.mem_singleton.mp hp];exact Ie,fun i c h=>by omega,by omega⟩
theorem zip_rows (W:Nat) (f g:Nat->Nat):List.zipWith (fun a b=>D.tup [a,b]) (bN W f) (bN W g)=(List.range W).map fun c=>bE (f c,g c):=by
 unfold bN
 apply List.ext_getElem?
 intro i
 rw[List.getElem?_zipWith,List.getElem?_map,List.getElem?_map,List.getElem?_map]
 by_cases h:i < W
 ·rw[List.getElem?_range h];rfl
 ·rw[List.getElem?_eq_none (by rw[List.length_range];omega)];rfl
noncomputable def iX:GS:=
 (aR (uz (qB (lR true 3 (eF (ao 7)))) (aR (pX 3 (eF (ao 7)) (d7 2))
 (jo (eT (eM 2 hAppend (aa (eF (ao 7)) aq))))) kI)
 (jo (eT (eM 6 hAppend (aa (aL 3 (eF (ao 7))) aq)))))
noncomputable def oh:GS:=
 (aR (bz 5 (eT (aL 2 (d7 4))))
 (aR (bz 6 (eP gW aq))
 (aR (jX (bName 7) (tG (aa (aL 0 (aL 5 (eC (.int 0)))) (aa (aL 1 (aL 5 (eC (.int 1)))) aq))) (iX))
 (jo (eT (eM 4 hAppend (aa (eF (eP cu (aa (eF (ao 6)) aq))) aq)))))))
noncomputable def lB:GS:=
 (aR (bz 2 (eP gW (aa (eF (eP fE (aa (eC (.int 0)) (aa (eC (.int 0)) aq)))) aq)))
 (aR (bz 3 (tK (eF (eP fE (aa (eC (.int 0)) (aa (eC (.int 0)) aq)))) (eC (.int 0))))
 (aR (bz 4 (eP gW aq))
 (aR (iR 100000 (qB (eF (eP Ad (aa (d7 4) (aa (d7 2) aq))))) (oh))
 (ff (eP fE (aa (eF (ao 2)) (aa (eF (ao 4)) aq))))))))
noncomputable def pairF:FM:=bG 8 lB
theorem Fi:∀us r,pairF us=some r->bG 8 lB us=some r:=fun _ _ h=>h
section
variable {z0 z1 z4 z5:Option U}{P:List (Nat×Nat)}{q:Nat×Nat}{ld:List D}
theorem Ig (hl:P.length < 1000) (hb:ld.length < 1000):
  iX [z0,z1,some (.m (.lst (P.map bE))),some (.m (.cS (ent 0 (P.map bE)))),z4,z5,some (.m (.lst ld)),some (.t (bE q))]=some (.nx [z0,z1,some (.m (.lst ((rD P q).map bE))),some (.m (.cS (ent 0 ((rD P q).map bE)))),z4,z5,some (.m (.lst (ld++[.int ((rD P q).idxOf q:Nat)]))),some (.t (bE q))]):=by
 have h1:=wK.has (ent 0 (P.map bE)) (bE q) (bE q) (nZ q)
 have r2:=wK.rd (ent 0 ((rD P q).map bE)) (bE q) (bE q) (nZ q)
 rw[fq (kF.mpr (sD P q)),wU] at r2
 have lz:ld.length < 100000:=by omega
 by_cases m:q∈P
 ·rw[fq (kF.mpr m)] at h1
  have e:rD P q=P:=if_pos m
  rw[e] at r2 ⊢
  generalize bE q=d at *
  simp[iX,lR,h1,r2,lz,jq,xC,hAppend]
 ·rw[gn 0 (fun z=>m (kF.mp z))] at h1
  have w:=wK.wr (ent 0 (P.map bE)) (bE q) (bE q) (.int ((P.map bE).length:Nat)) (nZ q) (by rw[jK,List.length_map];omega)
  rw[nU (fun z=>m (kF.mp z))] at w
  have e:rD P q=P++[q]:=if_neg m
  have em:(rD P q).map bE=P.map bE++[bE q]:=by rw[e,List.map_append];rfl
  have pz:(P.map bE).length < 100000:=by rw[List.length_map];omega
  rw[em] at r2 ⊢
  generalize bE q=d at *
  generalize P.map bE=pd at *
  generalize (rD P q).idxOf q=ii at *
  simp[iX,lR,h1,w,r2,lz,pz,jq,xC,hAppend]
end
section
variable {W m:Nat}{f g:Nat->Nat->Nat}{k:List Nat->Nat}{z0 z1 z4 z5:Option U}
theorem LY (hk : ∀ cs, Vd W cs -> k cs < m) (hf : kM W k f) (hg : kM W k g) (hm : m <= 300) (hW : W < 900) {P : List (Nat × Nat)} {a : Nat} {x7 : Option U} (F : Fd W f g P a) (ha : a < P.length) (h7 : iE x7 = false) :
    ∃P' mH,loop (bName 7) iX ((List.range W).map fun c=>bE (st2 f g (pa P a) c)) [z0,z1,some (.m (.lst (P.map bE))),some (.m (.cS (ent 0 (P.map bE)))),z4,z5,some (.m (.lst [])),x7]=some (.nx [z0,z1,some (.m (.lst (P'.map bE))),some (.m (.cS (ent 0 (P'.map bE)))),z4,z5,some (.m (.lst (bN W (fx f g P' a)))),mH])/\Fd W f g P' (a+1)/\(∃E,P'=P++E)/\iE mH=false:=by
  obtain⟨S',e,P',mH,b1,b2,b3,b4,b5,b6,rfl⟩:=j5 (bd:=bName 7) (body:=iX) ((List.range W).map fun c=>bE (st2 f g (pa P a) c))
    (fun j S=>∃P' mH,P'.Nodup/\(∀p∈P',Rc W f g p)/\(∃E,P'=P++E)/\(∀c,c < j->st2 f g (pa P a) c∈P')/\iE mH=false/\j<=W/\S=[z0,z1,some (.m (.lst (P'.map bE))),some (.m (.cS (ent 0 (P'.map bE)))),z4,z5,some (.m (.lst ((List.range j).map fun c=>D.int (P'.idxOf (st2 f g (pa P a) c):Nat)))),mH])
    _ ⟨P,x7,F.nd,F.rc,⟨[],by simp⟩,fun c h=>by omega,h7,Nat.zero_le _,rfl⟩ (by
    rintro j d S hd ⟨P',mH,b1,b2,⟨E,b3⟩,b4,b5,b6,rfl⟩
    have hj:j < W:=by
      have:=(List.getElem?_eq_some_iff.mp hd).1
      rwa [List.length_map,List.length_range] at this
    rw[List.getElem?_map,List.getElem?_range hj] at hd
    have hd:bE (st2 f g (pa P a) j)=d:=Option.some.inj hd
    subst hd
    have lf:=ze hk hf hg b1 b2
    have rq:Rc W f g (st2 f g (pa P a) j):=J0 (F.rc _ (wV ha)) hj
    obtain⟨E2,e2,e3⟩:=BY P' (st2 f g (pa P a) j)
    have tn:=Ig (z0:=z0) (z1:=z1) (z4:=z4) (z5:=z5) (P:=P') (q:=st2 f g (pa P a) j) (ld:=(List.range j).map fun c=>D.int (P'.idxOf (st2 f g (pa P a) c):Nat)) (by omega) (by rw[List.length_map,List.length_range];omega)
    refine⟨[z0,z1,some (.m (.lst (P'.map bE))),some (.m (.cS (ent 0 (P'.map bE)))),z4,z5,some (.m (.lst ((List.range j).map fun c=>D.int (P'.idxOf (st2 f g (pa P a) c):Nat)))),some (.t (bE (st2 f g (pa P a) j)))],_,?_,tn,rD P' (st2 f g (pa P a) j),some (.t (bE (st2 f g (pa P a) j))),Ff _ b1,fun p hp=>?_,⟨E++E2,by rw[e2,b3,List.append_assoc]⟩,fun c hc=>?_,rfl,hj,?_⟩
    . generalize bE (st2 f g (pa P a) j)=dd
      generalize P'.map bE=pd
      simp[-dO,cE,b5]
    . rw[e2] at hp
      rcases List.mem_append.mp hp with q | q
      . exact b2 p q
      . rw[e3 p q];exact rq
    . by_cases q:c=j
      . subst q;exact sD _ _
      . rw[e2];exact List.mem_append_left _ (b4 c (by omega))
    . have:(List.range j).map (fun c=>D.int (P'.idxOf (st2 f g (pa P a) c):Nat))=(List.range j).map fun c=>D.int ((rD P' (st2 f g (pa P a) j)).idxOf (st2 f g (pa P a) c):Nat):=List.map_congr_left fun c hc=>by
        rw[e2,sE (b4 c (List.mem_range.mp hc))]
      rw[this,List.range_succ,List.map_append]
      rfl)
  rw[List.length_map,List.length_range] at b4
  obtain⟨E,Fj⟩:=b3
  have pe:pa P' a=pa P a:=by rw[Fj];exact qJ ha
  refine⟨P',mH,?_,⟨?_,b1,b2,fun i c hi hc=>?_,?_⟩,⟨E,Fj⟩,b5⟩
  . refine Eq.trans e ?_
    rw[List.length_map,List.length_range]
    unfold bN fx
    rw[pe]
  . rw[Fj,List.getElem?_append_left (List.getElem?_eq_some_iff.mp F.zero).1];exact F.zero
  . by_cases q:i=a
    . subst q;rw[pe];exact b4 c hc
    . have Ui:i < a:=by omega
      have:=F.seen i c Ui hc
      rw[Fj,qJ (by omega)]
      exact List.mem_append_left _ this
  . rw[Fj,List.length_append];omega
theorem C7 {P E:List (Nat×Nat)}{a:Nat}(F:Fd W f g P a):aF a W (fx f g (P++E))=aF a W (fx f g P):=qd fun s c hs hc=>by
 have:=F.le
 unfold fx
 rw[qJ (by omega),sE (F.seen s c hs hc)]
theorem uc (a W:Nat) (h:Nat->Nat->Nat):aF a W h++[.tup (bN W (h a))]=aF (a+1) W h:=by
 unfold aF
 rw[List.range_succ,List.map_append]
 rfl
theorem Ih {od ud:D}{P P':List (Nat×Nat)}{rs row:List D}{a:Nat}{p:Nat×Nat}{r1 r2:List D}{x5 x6 x7 mH:Option U}(hr:rs.length=a) (ha:a < 1000) (hp:cX (P.map bE) (a:Int)=some (bE p)) (h1:dz (.t od) (.int (p.1:Nat))=some (.tup r1)) (h2:dz (.t ud) (.int (p.2:Nat))=some (.tup r2)) (h5:iE x5=false) (h6:iE x6=false)
  (lp:loop (bName 7) iX (List.zipWith (fun a b=>D.tup [a,b]) r1 r2) [some (.t od),some (.t ud),some (.m (.lst (P.map bE))),some (.m (.cS (ent 0 (P.map bE)))),some (.m (.lst rs)),some (.t (bE p)),some (.m (.lst [])),x7]=some (.nx [some (.t od),some (.t ud),some (.m (.lst (P'.map bE))),some (.m (.cS (ent 0 (P'.map bE)))),some (.m (.lst rs)),some (.t (bE p)),some (.m (.lst row)),mH])):
  oh [some (.t od),some (.t ud),some (.m (.lst (P.map bE))),some (.m (.cS (ent 0 (P.map bE)))),some (.m (.lst rs)),x5,x6,x7]=some (.nx [some (.t od),some (.t ud),some (.m (.lst (P'.map bE))),some (.m (.cS (ent 0 (P'.map bE)))),some (.m (.lst (rs++[.tup row]))),some (.t (bE p)),some (.t (.lst row)),mH]):=by
 have q1:cX [D.int (p.1:Nat),.int (p.2:Nat)] 0=some (.int (p.1:Nat)):=rfl
 have q2:cX [D.int (p.1:Nat),.int (p.2:Nat)] 1=some (.int (p.2:Nat)):=rfl
 have rz:rs.length < 100000:=by omega
 have hp:cX (P.map bE) (rs.length:Int)=some (bE p):=by rw[hr];exact hp
 generalize ent 0 (P.map bE)=kv at *
 generalize ent 0 (P'.map bE)=kv' at *
 generalize P.map bE=pd at *
 generalize P'.map bE=QU at *
 unfold bE at *
 simp[-dO,cE,oh,hp,h5,h6,q1,q2,h1,h2,tG,rT,lp,rz,jq,xC,hAppend]
theorem Ii {od ud:D}{P:List (Nat×Nat)}{rs:List D}{kv:List (D×D)}{x5 x6 x7:Option U}:(qB (eF (eP Ad (aa (d7 4) (aa (d7 2) aq))))) [some (.t od),some (.t ud),some (.m (.lst (P.map bE))),some (.m (.cS kv)),some (.m (.lst rs)),x5,x6,x7]=some (decide (rs.length < P.length),[some (.t od),some (.t ud),some (.m (.lst (P.map bE))),some (.m (.cS kv)),some (.m (.lst rs)),x5,x6,x7]):=by
 simp
theorem B0 {n W s:Nat}{h:Nat->Nat->Nat}(hs:s < n):dz (.t (.tup (aF n W h))) (.int (s:Nat))=some (.tup (bN W (h s))):=by
 have:cX (aF n W h) (s:Int)=some (.tup (bN W (h s))):=by
  rw[lJ]
  unfold aF
  rw[List.getElem?_map,List.getElem?_range hs]
  rfl
 exact this
theorem B3 {n1 n2:Nat}(hk:∀cs,Vd W cs->k cs < m) (hf:kM W k f) (hg:kM W k g) (hm:m<=300) (hW:W < 900) (l1:∀cs,Vd W cs->led f cs 0 < n1) (l2:∀cs,Vd W cs->led g cs 0 < n2):
  ∀(fu a:Nat) (P:List (Nat×Nat)) (x5 x6 x7:Option U),m < a+fu->Fd W f g P a->iE x5=false->iE x6=false->iE x7=false->
  ∃P' z3 z5 z6 z7,iH (qB (eF (eP Ad (aa (d7 4) (aa (d7 2) aq))))) oh fu [some (.t (.tup (aF n1 W f))),some (.t (.tup (aF n2 W g))),some (.m (.lst (P.map bE))),some (.m (.cS (ent 0 (P.map bE)))),some (.m (.lst (aF a W (fx f g P)))),x5,x6,x7]=some (.nx [some (.t (.tup (aF n1 W f))),some (.t (.tup (aF n2 W g))),some (.m (.lst (P'.map bE))),z3,some (.m (.lst (aF P'.length W (fx f g P')))),z5,z6,z7])/\Fd W f g P' P'.length
 | 0,a,P,x5,x6,x7,hm',F,_,_,_=>by
  have:=ze hk hf hg F.nd F.rc
  have:=F.le
  omega
 | fu+1,a,P,x5,x6,x7,hm',F,h5,h6,h7=>by
  have few:=ze hk hf hg F.nd F.rc
  have le:=F.le
  unfold iH
  rw[show(qB (eF (eP Ad (aa (d7 4) (aa (d7 2) aq))))) [some (.t (.tup (aF n1 W f))),some (.t (.tup (aF n2 W g))),some (.m (.lst (P.map bE))),some (.m (.cS (ent 0 (P.map bE)))),some (.m (.lst (aF a W (fx f g P)))),x5,x6,x7]=_ from Ii,Option.bind_some,lu]
  by_cases c:a < P.length
  ·rw[decide_eq_true c]
   simp only[if_true]
   obtain⟨cs,v,ep⟩:=F.rc _ (wV c)
   obtain⟨P',mH,e,F',⟨E,eE⟩,Zl⟩:=LY (z0:=some (.t (.tup (aF n1 W f)))) (z1:=some (.t (.tup (aF n2 W g)))) (z4:=some (.m (.lst (aF a W (fx f g P))))) (z5:=some (.t (bE (pa P a)))) hk hf hg hm hW F c h7
   have pp:cX (P.map bE) (a:Int)=some (bE (pa P a)):=lJ (by rw[List.getElem?_map,pF c];rfl)
   have tn:=Ih (od:=.tup (aF n1 W f)) (ud:=.tup (aF n2 W g)) (x5:=x5) (x6:=x6) (lu a W _) (by omega) pp (B0 (by rw[ep];exact l1 cs v)) (B0 (by rw[ep];exact l2 cs v)) h5 h6 (by rw[zip_rows];exact e)
   rw[tn,Option.bind_some]
   have rg:aF a W (fx f g P)=aF a W (fx f g P'):=by rw[eE,C7 F]
   show ∃Zm z3 z5 z6 z7,iH _ _ fu _=_/\_
   rw[rg,uc]
   exact B3 hk hf hg hm hW l1 l2 fu (a+1) P' _ _ mH (by omega) F' rfl rfl Zl
  ·rw[decide_eq_false c]
   have:a=P.length:=by omega
   subst this
   exact⟨P,_,x5,x6,x7,rfl,F⟩
theorem Ij {n1 n2:Nat}(hk:∀cs,Vd W cs->k cs < m) (hf:kM W k f) (hg:kM W k g) (hm:m<=300) (hW:W < 900) (l1:∀cs,Vd W cs->led f cs 0 < n1) (l2:∀cs,Vd W cs->led g cs 0 < n2):
  ∃P,pairF [.t (.tup (aF n1 W f)),.t (.tup (aF n2 W g))]=some (.t (.tup [.lst (P.map bE),.lst (aF P.length W (fx f g P))]),[])/\Fd W f g P P.length/\P.length<=m:=by
 obtain⟨P,z3,z5,z6,z7,e,F⟩:=B3 hk hf hg hm hW l1 l2 100000 0 [(0,0)] none none none (by omega) BZ rfl rfl rfl
 refine⟨P,?_,F,ze hk hf hg F.nd F.rc⟩
 have k0:ju (.tup [.int 0,.int 0])=some (.tup [.int 0,.int 0]):=nX [0,0]
 have all:∃a b S,lB [some (.t (.tup (aF n1 W f))),some (.t (.tup (aF n2 W g))),none,none,none,none,none,none]=some (.rt (.t (.tup [.lst (P.map bE),.lst (aF P.length W (fx f g P))])) (some (.t a) :: some (.t b) :: S)):=by
  unfold lB
  generalize D.tup (aF n1 W f)=od at *
  generalize D.tup (aF n2 W g)=ud at *
  rw[Sq.bw (S1:=[some (.t od),some (.t ud),some (.m (.lst [bE (0,0)])),none,none,none,none,none]) rfl,
   Sq.bw (S1:=[some (.t od),some (.t ud),some (.m (.lst [bE (0,0)])),some (.m (.cS (ent 0 [bE (0,0)]))),none,none,none,none]) (by simp[tK,k0,bE,ent]),
   Sq.bw (S1:=[some (.t od),some (.t ud),some (.m (.lst (List.map bE [(0,0)]))),some (.m (.cS (ent 0 (List.map bE [(0,0)])))),some (.m (.lst (aF 0 W (fx f g [(0,0)])))),none,none,none]) rfl,Sq.bw (show iR 100000 _ _ _=_ from e)]
  generalize P.map bE=pd
  generalize aF P.length W (fx f g P)=rr
  exact⟨_,_,_,by simp;exact⟨rfl,rfl,rfl⟩⟩
 obtain⟨a,b,S,all⟩:=all
 exact nh (S:=some (.t a) :: some (.t b) :: S) all rfl
end
noncomputable def toN (m W:Nat) (h:Nat->Nat->Nat):List (List Int):=(List.range m).map fun p=>(List.range W).map fun c=>((h p c:Nat):Int)
theorem lX (m W:Nat) (h:Nat->Nat->Nat):(toN m W h).length=m:=by unfold toN;rw[List.length_map,List.length_range]
theorem O9 (m W:Nat) (h:Nat->Nat->Nat):(toN m W h).map Sq.bR=aF m W h:=by
 unfold toN aF
 rw[List.map_map]
 refine List.map_congr_left fun p _=>?_
 show D.tup (((List.range W).map fun c=>((h p c:Nat):Int)).map D.int)=_
 rw[List.map_map]
 rfl
theorem Ik {m W:Nat}{h:Nat->Nat->Nat}{p c:Nat}(hp:p < m) (hc:c < W):gZ (toN m W h) p c=h p c:=by
 unfold gZ rw' toN
 rw[List.getD_eq_getElem?_getD,List.getD_eq_getElem?_getD,List.getElem?_map,List.getElem?_range hp]
 simp only[Option.map_some,Option.getD_some]
 rw[List.getElem?_map,List.getElem?_range hc]
 simp
theorem LZ {m W:Nat}{h:Nat->Nat->Nat}(m0:0 < m) (m9:m<=900) (hh:∀p c,p < m->c < W->h p c < m):rU W (toN m W h):=by
 refine⟨by rw[lX];exact m0,by rw[lX];exact m9,fun r hr=>?_⟩
 obtain⟨p,hp,rfl⟩:=List.mem_map.mp hr
 refine⟨by rw[List.length_map,List.length_range],fun v hv=>?_⟩
 obtain⟨c,hc,rfl⟩:=List.mem_map.mp hv
 have:=hh p c (List.mem_range.mp hp) (List.mem_range.mp hc)
 rw[lX]
 omega
theorem Fl {m:Nat}{w:Nat->D}{s:Nat}(h:s < m):iV ((List.range m).map w) s=w s:=by
 unfold iV
 rw[List.getD_eq_getElem?_getD,List.getElem?_map,List.getElem?_range h]
 rfl
theorem fy {W n:Nat}{nx:Nat->Nat->Nat}(lt:∀s c,s < n->c < W->nx s c < n):∀(cs:List Nat) (s:Nat),Vd W cs->s < n->led nx cs s < n
 | [],_,_,hs=>hs
 | c :: cs,s,h,hs=>fy lt cs (nx s c) (fun d hd=>h d (List.mem_cons_of_mem _ hd)) (lt s c hs (h c List.mem_cons_self))
theorem B4 {W n:Nat}{nx:Nat->Nat->Nat}(lt:∀s c,s < n->c < W->nx s c < n):∀(cs:List Nat) (s:Nat),Vd W cs->s < n->led (gZ (toN n W nx)) cs s=led nx cs s
 | [],_,_,_=>rfl
 | c :: cs,s,h,hs=>by
  have hc:=h c List.mem_cons_self
  show led (gZ (toN n W nx)) cs (gZ (toN n W nx) s c)=led nx cs (nx s c)
  rw[Ik hs hc]
  exact B4 lt cs (nx s c) (fun d hd=>h d (List.mem_cons_of_mem _ hd)) (lt s c hs hc)
noncomputable def mT (n W:Nat) (nx:Nat->Nat->Nat) (wd:Nat->D):D:=.tup [.tup (aF n W nx),.tup ((List.range n).map wd)]
structure Mc (W n:Nat) (nx:Nat->Nat->Nat) (wd:Nat->D):Prop where
 pos:0 < n
 few:n<=300
 lt:∀s c,s < n->c < W->nx s c < n
 bl:∀s,s < n->∃b,wd s= .bl b
theorem zf {W n:Nat}{nx:Nat->Nat->Nat}{wd:Nat->D}{nt wt md:D}(A:Mc W n nx wd) (hW:W < 900) (hnt:nt= .tup (aF n W nx)\/nt= .lst (aF n W nx)) (Zn:wt= .tup ((List.range n).map wd)\/wt= .lst ((List.range n).map wd)) (hmd:md= .dh\/md= .int 300):
  ∃n' nx' jL gs,lW [.t nt,.t wt,.t md]=some (.t (.tup [.tup (aF n' W nx'),.tup ((List.range n').map jL),.lst gs]),[])/\Canon W n' nx' jL/\(∀cs,Vd W cs->jL (led nx' cs 0)=wd (led nx cs 0))/\Mc W n' nx' jL/\gs.length<=300/\∀g∈gs,∃vs:List Nat,g= .lst (iD vs)/\vs.length<=300/\∀v∈vs,v < n:=by
 have few:=A.few
 have mo:=LZ (W:=W) A.pos (by omega) A.lt
 have ml:((List.range n).map wd).length=(toN n W nx).length:=by rw[List.length_map,List.length_range,lX]
 have hw:∀x∈(List.range n).map wd,∃b,x=D.bl b:=fun x hx=>by
  obtain⟨s,hs,rfl⟩:=List.mem_map.mp hx
  exact A.bl s (List.mem_range.mp hs)
 obtain⟨n',nx',jL,gs,e,C,b,le,hm,gl,gg⟩:=Fe (nt:=nt) (wt:=wt) (md:=md) mo (by omega) (by rw[O9];exact hnt) ml Zn (fun x hx=>.inl (hw x hx)) (hmd.imp id fun h=>⟨300,h,fun L ns c a hB _ hL P=>by
  have nd:L.Nodup:=by have:=hB.nd;rwa [List.map_id'] at this
  have lf:=qH nd hL
  have:=wM P.cls
  have:=P.len
  rw[lX] at lf
  omega⟩)
 rw[lX] at le gl
 refine⟨n',nx',jL,gs,e,C,fun cs v=>?_,⟨C.pos,by omega,C.lt,fun s hs=>hw _ (hm s hs)⟩,by omega,fun g hg=>?_⟩
 ·rw[b cs v,B4 A.lt cs 0 v A.pos,Fl (fy A.lt cs 0 v A.pos)]
 ·obtain⟨vs,q1,q2,q3⟩:=gg g hg
  rw[lX] at q2 q3
  exact⟨vs,q1,by omega,q3⟩
structure Jd (W:Nat) (k:List Nat->Nat) (β:List Nat->Bool) (d:D):Prop where
 ex:∃n nx wd,d=mT n W nx wd/\Mc W n nx wd/\(∀cs,Vd W cs->wd (led nx cs 0)= .bl (β cs))/\kM W k nx
structure Cn (W:Nat) (k:List Nat->Nat) (β:List Nat->Bool) (d:D):Prop where
 ex:∃n nx wd,d=mT n W nx wd/\Mc W n nx wd/\(∀cs,Vd W cs->wd (led nx cs 0)= .bl (β cs))/\kM W k nx/\Canon W n nx wd
theorem Cn.one {W:Nat}{k:List Nat->Nat}{β β':List Nat->Bool}{d d':D}(h:Cn W k β d) (h':Cn W k β' d') (e:∀cs,Vd W cs->β cs=β' cs):d=d':=by
 obtain⟨n,nx,wd,rfl,_,c,_,C⟩:=h.ex
 obtain⟨n',nx',jL,rfl,_,c',_,C'⟩:=h'.ex
 obtain⟨en,q⟩:=canon_one C C' fun cs v=>by rw[c cs v,c' cs v,e cs v]
 subst en
 unfold mT
 rw[qd fun s c hs hc=>(q s hs).2 c hc,List.map_congr_left (f:=wd) (g:=jL) fun s hs=>(q s (List.mem_range.mp hs)).1]
noncomputable def Fp (W:Nat) (k:List Nat->Nat) (β:List Nat->Bool):Prop:=∀cs ds es,Vd W cs->Vd W ds->Vd W es->k cs=k ds->β (cs++es)=β (ds++es)
theorem L0 {W n:Nat}{k:List Nat->Nat}{nx:Nat->Nat->Nat}{wd:Nat->D}{β:List Nat->Bool}(b:∀cs,Vd W cs->wd (led nx cs 0)= .bl (β cs)) (t:kM W k nx):Fp W k β:=fun cs ds es v1 v2 v3 e=>by
 have a1:=b _ (j6 v1 v3)
 have a2:=b _ (j6 v2 v3)
 rw[d9,t cs ds v1 v2 e,<-d9,a2] at a1
 injection a1 with a1
 exact a1.symm
theorem wW {W n:Nat}{k:List Nat->Nat}{nx:Nat->Nat->Nat}{wd:Nat->D}{β:List Nat->Bool}(C:Canon W n nx wd) (b:∀cs,Vd W cs->wd (led nx cs 0)= .bl (β cs)) (t:Fp W k β):kM W k nx:=fun cs ds v1 v2 e=>by
 apply Classical.byContradiction
 intro ne
 obtain⟨es,v3,q⟩:=C.apart _ _ (C.fy v1 C.pos) (C.fy v2 C.pos) ne
 refine q ?_
 rw[<-d9,<-d9,b _ (j6 v1 v3),b _ (j6 v2 v3),t cs ds es v1 v2 v3 e]
theorem Jd.tb {W:Nat}{k:List Nat->Nat}{β:List Nat->Bool}{d:D}(h:Jd W k β d):Fp W k β:=by
 obtain⟨n,nx,wd,_,_,c,t⟩:=h.ex
 exact L0 (n:=n) c t
noncomputable def oN (aG:FM):GS:=
 (aR (bz 2 (bA aG (bg (aL 1 (eC (.int 0))) (bg (aL 1 (eC (.int 1))) (bg (eC .dh) bX)))))
 (ff (eP fE (aa (aL 2 (eC (.int 0))) (aa (aL 2 (eC (.int 1))) aq)))))
theorem Zo {f:FM}{td nt wt a b g:D}(h:f [.t nt,.t wt,.t .dh]=some (.t (.tup [a,b,g]),[])):bG 3 (oN f) [.t td,.t (.tup [nt,wt])]=some (.t (.tup [a,b]),[]):=by
 simp[bG,oN,at2,OX,h,aK]
noncomputable def lC (aG:FM):GS:=
 (aR (bz 2 (bA aG (bg (aL 1 (eC (.int 0))) (bg (eF (bO [] (cU (aL 1 (eC (.int 1)))) aO (eQ (ux (qB (eF (ao 0))))))) (bg (eC (.int 300)) bX)))))
 (ff (eP fE (aa (aL 2 (eC (.int 0))) (aa (aL 2 (eC (.int 1))) aq)))))
noncomputable def turnF:FM:=bG 3 (lC lW)
theorem Ft:∀us r,turnF us=some r->bG 3 (lC lW) us=some r:=fun _ _ h=>h
noncomputable def rX:D->D
 | .bl b=>.bl (!b)
 | d=>d
theorem zg {z0 z1 z2:Option U}:∀(ws acc:List D),(∀w∈ws,∃b,w=D.bl b)->aW [] aO (eQ (ux (qB (eF (ao 0))))) ws [z0,z1,z2] acc=some (acc++ws.map rX,[z0,z1,z2])
  | [],acc,_=>by simp[aW]
  | w :: ws, acc, h => by
    obtain⟨b,rfl⟩:=h w List.mem_cons_self
    have e:aW [] aO (eQ (ux (qB (eF (ao 0))))) [.bl b] [z0,z1,z2] acc=some (acc++[.bl (!b)],[z0,z1,z2]):=by
      simp[aW,bL,aK]
    rw[Sq.fO,e,Option.bind_some,zg ws _ fun x hx=>h x (List.mem_cons_of_mem _ hx)]
    simp[rX]
theorem L1 {f:FM}{td nt a b g:D}{ws:List D}(hw:∀w∈ws,∃b,w=D.bl b) (hl:ws.length<=1000) (h:f [.t nt,.t (.lst (ws.map rX)),.t (.int 300)]=some (.t (.tup [a,b,g]),[])):bG 3 (lC f) [.t td,.t (.tup [nt,.tup ws])]=some (.t (.tup [a,b]),[]):=by
 have e:=fun z0 z1 z2=>zg (z0:=z0) (z1:=z1) (z2:=z2) ws [] hw
 have hl2:ws.length<=100000:=by omega
 generalize ws.map rX=vs at *
 simp[bG,lC,at2,OX,eB,bZ,hl2,e,h,aK]
theorem Il {W:Nat}{k:List Nat->Nat}{β:List Nat->Bool}{d td:D}(hW:W < 900) (h:Jd W k β d):∃d',turnF [.t td,.t d]=some (.t d',[])/\Cn W k (fun cs=>!β cs) d':=by
 have tb:=h.tb
 obtain⟨n,nx,wd,rfl,A,b,t⟩:=h.ex
 have few:=A.few
 obtain⟨n',nx',jL,gs,e,C,b',A',_,_⟩:=zf (wd:=fun s=>rX (wd s)) ⟨A.pos,A.few,A.lt,fun s hs=>by obtain⟨b,e⟩:=A.bl s hs;exact⟨!b,by rw[e];rfl⟩⟩ hW (.inl rfl) (.inr rfl) (.inr rfl)
 have b2:∀cs,Vd W cs->jL (led nx' cs 0)= .bl (!β cs):=fun cs v=>by rw[b' cs v,b cs v];rfl
 refine⟨mT n' W nx' jL,L1 (g:=.lst gs) (ws:=(List.range n).map wd) (fun w hw=>?_) (by rw[List.length_map,List.length_range];omega) ?_,n',nx',jL,rfl,A',b2,wW C b2 fun cs ds es v1 v2 v3 e=>?_,C⟩
 ·obtain⟨s,hs,rfl⟩:=List.mem_map.mp hw
  exact A.bl s (List.mem_range.mp hs)
 ·rw[List.map_map]
  exact e
 ·show(!β _)=!β _
  rw[tb cs ds es v1 v2 v3 e]
noncomputable def sF:GS:=
 (aR (uz (qB (eF (eP xD (aa (eF (ao 0)) (aa (eC (.str "both")) aq))))) (ff (eT (eQ (yg (qB (eF (ao 1))) (qB (eF (ao 2))))))) kI)
 (aR (uz (qB (eF (eP xD (aa (eF (ao 0)) (aa (eC (.str "either")) aq))))) (ff (eT (eQ (P8 (qB (eF (ao 1))) (qB (eF (ao 2))))))) kI)
 (aR (uz (qB (eF (eP xD (aa (eF (ao 0)) (aa (eC (.str "but")) aq))))) (ff (eT (eQ (yg (qB (eF (ao 1))) (qB (eQ (ux (qB (eF (ao 2)))))))))) kI)
 (ff (eP Od (aa (eF (ao 1)) (aa (eF (ao 2)) aq)))))))
noncomputable def L3:FM:=bG 3 sF
theorem L4:∀us r,L3 us=some r->bG 3 sF us=some r:=fun _ _ h=>h
inductive Op | both | either | but | unlike
noncomputable def Op.s:Op->Str
 | .both=>"both"
 | .either=>"either"
 | .but=>"but"
 | .unlike=>"unlike"
noncomputable def Op.b:Op->Bool->Bool->Bool
 | .both,a,b=>a && b
 | .either,a,b=>a || b
 | .but,a,b=>a && !b
 | .unlike,a,b=>a != b
theorem Pa (o:Op) (a b:Bool):L3 [.t (.str o.s),.t (.bl a),.t (.bl b)]=some (.t (.bl (o.b a b)),[]):=by
 cases o <;> cases a <;> cases b <;> rfl
noncomputable def bo:D->Bool
 | .bl b=>b
 | _=>false
theorem Mc.bo {W n:Nat}{nx:Nat->Nat->Nat}{wd:Nat->D}(A:Mc W n nx wd){s:Nat}(hs:s < n):wd s= .bl (bo (wd s)):=by
 obtain⟨b,e⟩:=A.bl s hs
 rw[e]
 rfl
theorem nq {n s:Nat}{w:Nat->D}(hs:s < n):cX ((List.range n).map w) (s:Int)=some (w s):=lJ (by rw[List.getElem?_map,List.getElem?_range hs];rfl)
noncomputable def dD (dM:FM) (gf:FM) (aG:FM):GS:=
 (aR (bz 3 (bA dM (bg (aL 1 (eC (.int 0))) (bg (aL 2 (eC (.int 0))) bX))))
 (aR (bz 4 (bO [1,0,2] (cU (aL 3 (eC (.int 0)))) aO (eF (bA gf (bg (eF (ao 2)) (bg (eF (eP sY (aa (aL 1 (eC (.int 1))) (aa (aL 0 (eC (.int 0))) aq)))) (bg (eF (eP sY (aa (aL 3 (eC (.int 1))) (aa (aL 0 (eC (.int 1))) aq)))) bX)))))))
 (aR (bz 5 (bA aG (bg (aL 3 (eC (.int 1))) (bg (eF (ao 4)) (bg (eC (.int 300)) bX)))))
 (aR (bz 6 (bO [3] (cU (aL 5 (eC (.int 2)))) aO (eF (bO [1] (cU (eF (ao 0))) aO (eF (eP sY (aa (aL 1 (eC (.int 0))) (aa (eF (ao 0)) aq))))))))
 (ff (eP fE (aa (aL 5 (eC (.int 0))) (aa (aL 5 (eC (.int 1))) (aa (eF (ao 6)) aq)))))))))
noncomputable def Uj (dM:FM) (gf:FM) (aG:FM):GS:=
 (bz 3 (bA dM (bg (aL 1 (eC (.int 0))) (bg (aL 2 (eC (.int 0))) bX))))
noncomputable def Uk (dM:FM) (gf:FM) (aG:FM):GS:=
 (bz 4 (bO [1,0,2] (cU (aL 3 (eC (.int 0)))) aO (eF (bA gf (bg (eF (ao 2)) (bg (eF (eP sY (aa (aL 1 (eC (.int 1))) (aa (aL 0 (eC (.int 0))) aq)))) (bg (eF (eP sY (aa (aL 3 (eC (.int 1))) (aa (aL 0 (eC (.int 1))) aq)))) bX)))))))
noncomputable def Ul (dM:FM) (gf:FM) (aG:FM):GS:=
 (bz 5 (bA aG (bg (aL 3 (eC (.int 1))) (bg (eF (ao 4)) (bg (eC (.int 300)) bX)))))
noncomputable def Um (dM:FM) (gf:FM) (aG:FM):GS:=
 (bz 6 (bO [3] (cU (aL 5 (eC (.int 2)))) aO (eF (bO [1] (cU (eF (ao 0))) aO (eF (eP sY (aa (aL 1 (eC (.int 0))) (aa (eF (ao 0)) aq))))))))
noncomputable def Xz (dM:FM) (gf:FM) (aG:FM):GS:=
 (ff (eP fE (aa (aL 5 (eC (.int 0))) (aa (aL 5 (eC (.int 1))) (aa (eF (ao 6)) aq)))))
theorem Pb (dM:FM) (gf:FM) (aG:FM):dD dM gf aG=aR (Uj dM gf aG) (aR (Uk dM gf aG) (aR (Ul dM gf aG) (aR (Um dM gf aG) (Xz dM gf aG)))):=rfl
noncomputable abbrev Uo (f2:FM):GD:=(eF (bA f2 (bg (eF (ao 2)) (bg (eF (eP sY (aa (aL 1 (eC (.int 1))) (aa (aL 0 (eC (.int 0))) aq)))) (bg (eF (eP sY (aa (aL 3 (eC (.int 1))) (aa (aL 0 (eC (.int 1))) aq)))) bX)))))
noncomputable abbrev Up:GD:=(eF (eP sY (aa (aL 1 (eC (.int 0))) (aa (eF (ao 0)) aq))))
noncomputable abbrev Uq:GD:=(eF (bO [1] (cU (eF (ao 0))) aO Up))
section
variable {f2:FM}{o a b x1 x2:D}{ws us:List D}{p:Nat×Nat}{z3 z4 z5 z6:Option U}
theorem L5 {acc:List D}(h1:cX ws (p.1:Int)=some x1) (h2:cX us (p.2:Int)=some x2) (h:f2 [.t o,.t x1,.t x2]=some (.t b,[])):
  aW [1,0,2] aO (Uo f2) [bE p] [some (.t o),some (.t (.tup [a,.tup ws])),some (.t (.tup [a',.tup us])),z3,z4,z5,z6] acc=some (acc++[b],[some (.t o),some (.t (.tup [a,.tup ws])),some (.t (.tup [a',.tup us])),z3,z4,z5,z6]):=by
 have q1:cX [D.int (p.1:Nat),.int (p.2:Nat)] 0=some (.int (p.1:Nat)):=rfl
 have q2:cX [D.int (p.1:Nat),.int (p.2:Nat)] 1=some (.int (p.2:Nat)):=rfl
 unfold bE
 generalize ((p.1:Nat):Int)=i at *
 generalize ((p.2:Nat):Int)=j at *
 simp[aW,bL,fM,at2,q1,q2,h1,h2,h,aK]
theorem B5 {w:Nat×Nat->D}{a':D}:∀(P:List (Nat×Nat)) (acc:List D),(∀p∈P,∃x1 x2,cX ws (p.1:Int)=some x1/\cX us (p.2:Int)=some x2/\f2 [.t o,.t x1,.t x2]=some (.t (w p),[]))->
  aW [1,0,2] aO (Uo f2) (P.map bE) [some (.t o),some (.t (.tup [a,.tup ws])),some (.t (.tup [a',.tup us])),z3,z4,z5,z6] acc=some (acc++P.map w,[some (.t o),some (.t (.tup [a,.tup ws])),some (.t (.tup [a',.tup us])),z3,z4,z5,z6])
 | [],acc,_=>by simp[aW]
 | p :: P,acc,h=>by
  obtain⟨x1,x2,h1,h2,h3⟩:=h p List.mem_cons_self
  rw[List.map_cons,Sq.fO,L5 h1 h2 h3,Option.bind_some,B5 P _ fun q hq=>h q (List.mem_cons_of_mem _ hq)]
  simp
theorem J3 {ps rs gs:List D}{z0 z1 z2 z4:Option U}:∀(vs:List Nat) (acc:List D),(∀v∈vs,v < ps.length)->
    ∃out,aW [1] aO Up (iD vs) [some (.t gs'),some (.t (.tup [.lst ps,.lst rs]))] acc=some (out,[some (.t gs'),some (.t (.tup [.lst ps,.lst rs]))])
  | [],acc,_=>⟨acc,by simp[aW,iD]⟩
  | v :: vs, acc, h => by
    have hv:=h v List.mem_cons_self
    have e:cX ps (v:Int)=some ps[v]:=lJ (List.getElem?_eq_getElem hv)
    have e1:aW [1] aO Up [.int (v:Nat)] [some (.t gs'),some (.t (.tup [.lst ps,.lst rs]))] acc=some (acc++[ps[v]],[some (.t gs'),some (.t (.tup [.lst ps,.lst rs]))]):=by
      generalize ((v:Nat):Int)=i at *
      simp[aW,bL,fM,at2,e,aK]
    obtain⟨out,e2⟩:=J3 (gs:=gs) (z0:=z0) (z1:=z1) (z2:=z2) (z4:=z4) vs (acc++[ps[v]]) fun u hu=>h u (List.mem_cons_of_mem _ hu)
    refine⟨out,?_⟩
    show aW _ _ _ (D.int (v:Nat) :: iD vs) _ _=_
    rw[Sq.fO,e1,Option.bind_some]
    exact e2
theorem Fv {ps rs:List D}{z0 z1 z2 z4 z5 z6:Option U}:∀(gs acc:List D),(∀g∈gs,∃vs:List Nat,g= .lst (iD vs)/\vs.length<=300/\∀v∈vs,v < ps.length)->
    ∃out,aW [3] aO Uq gs [z0,z1,z2,some (.t (.tup [.lst ps,.lst rs])),z4,z5,z6] acc=some (out,[z0,z1,z2,some (.t (.tup [.lst ps,.lst rs])),z4,z5,z6])
  | [],acc,_=>⟨acc,by simp[aW]⟩
  | g :: gs, acc, h => by
    obtain⟨vs,rfl,hl,hv⟩:=h g List.mem_cons_self
    obtain⟨o1,e⟩:=J3 (ps:=ps) (rs:=rs) (gs:=gs) (gs':=.lst (iD vs)) (z0:=none) (z1:=none) (z2:=none) (z4:=none) vs [] hv
    have il:(iD vs).length<=100000:=by unfold iD;rw[List.length_map];omega
    have e1:aW [3] aO Uq [.lst (iD vs)] [z0,z1,z2,some (.t (.tup [.lst ps,.lst rs])),z4,z5,z6] acc=some (acc++[.lst o1],[z0,z1,z2,some (.t (.tup [.lst ps,.lst rs])),z4,z5,z6]):=by
      generalize iD vs=l at *
      simp[aW,bL,fM,eB,bZ,il,e,aK]
    obtain⟨out,e2⟩:=Fv (z0:=z0) (z1:=z1) (z2:=z2) (z4:=z4) (z5:=z5) (z6:=z6) gs (acc++[.lst o1]) fun u hu=>h u (List.mem_cons_of_mem _ hu)
    refine⟨out,?_⟩
    rw[Sq.fO,e1,Option.bind_some]
    exact e2
end
noncomputable def wX:FM:=bG 7 (dD pairF L3 lW)
theorem AG:∀us r,wX us=some r->bG 7 (dD pairF L3 lW) us=some r:=fun _ _ h=>h
theorem Fw {f1 f2 f3:FM}{o a1 a2 n1 w1:D}{ws us ps rs gs ts:List D}(e1:f1 [.t a1,.t a2]=some (.t (.tup [.lst ps,.lst rs]),[])) (pl:ps.length<=1000)
  (e2:∀z3 z4 z5 z6,aW [1,0,2] aO (Uo f2) ps [some (.t o),some (.t (.tup [a1,.tup ws])),some (.t (.tup [a2,.tup us])),z3,z4,z5,z6] []=some (ts,[some (.t o),some (.t (.tup [a1,.tup ws])),some (.t (.tup [a2,.tup us])),z3,z4,z5,z6]))
  (e3:f3 [.t (.lst rs),.t (.lst ts),.t (.int 300)]=some (.t (.tup [n1,w1,.lst gs]),[])) (gl:gs.length<=1000)
  (e4:∀z0 z1 z2 z4 z5 z6,∃out,aW [3] aO Uq gs [z0,z1,z2,some (.t (.tup [.lst ps,.lst rs])),z4,z5,z6] []=some (out,[z0,z1,z2,some (.t (.tup [.lst ps,.lst rs])),z4,z5,z6])):
  ∃out,bG 7 (dD f1 f2 f3) [.t o,.t (.tup [a1,.tup ws]),.t (.tup [a2,.tup us])]=some (.t (.tup [n1,w1,.lst out]),[]):=by
 have Ur:ps.length<=100000:=by omega
 have Zp:gs.length<=100000:=by omega
 have s0:Uj f1 f2 f3 [some (.t o),some (.t (.tup [a1,.tup ws])),some (.t (.tup [a2,.tup us])),none,none,none,none]=some (.nx [some (.t o),some (.t (.tup [a1,.tup ws])),some (.t (.tup [a2,.tup us])),some (.t (.tup [.lst ps,.lst rs])),none,none,none]):=by
  simp[Uj,at2,e1]
 have s1:Uk f1 f2 f3 [some (.t o),some (.t (.tup [a1,.tup ws])),some (.t (.tup [a2,.tup us])),some (.t (.tup [.lst ps,.lst rs])),none,none,none]=some (.nx [some (.t o),some (.t (.tup [a1,.tup ws])),some (.t (.tup [a2,.tup us])),some (.t (.tup [.lst ps,.lst rs])),some (.m (.lst ts)),none,none]):=by
  simp[Uk,at2,eB,bZ,Ur,e2]
 have s2:Ul f1 f2 f3 [some (.t o),some (.t (.tup [a1,.tup ws])),some (.t (.tup [a2,.tup us])),some (.t (.tup [.lst ps,.lst rs])),some (.m (.lst ts)),none,none]=some (.nx [some (.t o),some (.t (.tup [a1,.tup ws])),some (.t (.tup [a2,.tup us])),some (.t (.tup [.lst ps,.lst rs])),some (.t (.lst ts)),some (.t (.tup [n1,w1,.lst gs])),none]):=by
  simp[Ul,at2,e3]
 obtain⟨out,e5⟩:=e4 (some (.t o)) (some (.t (.tup [a1,.tup ws]))) (some (.t (.tup [a2,.tup us]))) (some (.t (.lst ts))) (some (.t (.tup [n1,w1,.lst gs]))) none
 have s3:Um f1 f2 f3 [some (.t o),some (.t (.tup [a1,.tup ws])),some (.t (.tup [a2,.tup us])),some (.t (.tup [.lst ps,.lst rs])),some (.t (.lst ts)),some (.t (.tup [n1,w1,.lst gs])),none]=some (.nx [some (.t o),some (.t (.tup [a1,.tup ws])),some (.t (.tup [a2,.tup us])),some (.t (.tup [.lst ps,.lst rs])),some (.t (.lst ts)),some (.t (.tup [n1,w1,.lst gs])),some (.m (.lst out))]):=by
  simp[Um,OX,eB,bZ,Zp,e5]
 refine⟨out,nh (S:=[some (.t o),some (.t (.tup [a1,.tup ws])),some (.t (.tup [a2,.tup us])),some (.t (.tup [.lst ps,.lst rs])),some (.t (.lst ts)),some (.t (.tup [n1,w1,.lst gs])),some (.t (.lst out))]) ?_ rfl⟩
 show dD f1 f2 f3 [some (.t o),some (.t (.tup [a1,.tup ws])),some (.t (.tup [a2,.tup us])),none,none,none,none]=_
 rw[Pb,Sq.bw s0,Sq.bw s1,Sq.bw s2,Sq.bw s3]
 simp[Xz,OX]
noncomputable def lD (g8:FM):GS:=
 (aR (bz 4 (bA g8 (bg (eF (ao 1)) (bg (eF (ao 2)) (bg (eF (ao 3)) bX)))))
 (ff (eP fE (aa (aL 4 (eC (.int 0))) (aa (aL 4 (eC (.int 1))) aq)))))
noncomputable def mj:FM:=bG 5 (lD wX)
theorem Fx:∀us r,mj us=some r->bG 5 (lD wX) us=some r:=fun _ _ h=>h
theorem L6 {f:FM}{td o a b x y g:D}(h:f [.t o,.t a,.t b]=some (.t (.tup [x,y,g]),[])):bG 5 (lD f) [.t td,.t o,.t a,.t b]=some (.t (.tup [x,y]),[]):=by
 simp[bG,lD,OX,h,aK]
theorem Im {W m:Nat}{k:List Nat->Nat}{β γ:List Nat->Bool}{d e td:D}(o:Op) (hW:W < 900) (hk:∀cs,Vd W cs->k cs < m) (hm:m<=300) (h:Jd W k β d) (h':Jd W k γ e):
  ∃d',mj [.t td,.t (.str o.s),.t d,.t e]=some (.t d',[])/\Cn W k (fun cs=>o.b (β cs) (γ cs)) d':=by
 have tb:=h.tb
 have tb':=h'.tb
 obtain⟨n1,f,w1,rfl,A,b1,t1⟩:=h.ex
 obtain⟨n2,g,w2,rfl,B,b2,t2⟩:=h'.ex
 obtain⟨P,e1,F,few⟩:=Ij hk t1 t2 hm hW (fun cs v=>fy A.lt cs 0 v A.pos) (fun cs v=>fy B.lt cs 0 v B.pos)
 have p0:0 < P.length:=(List.getElem?_eq_some_iff.mp F.zero).1
 have pz:pa P 0=(0,0):=by have:=pF p0;rw[F.zero] at this;exact(Option.some.inj this).symm
 have lt:∀s c,s < P.length->c < W->fx f g P s c < P.length:=fun s c hs hc=>List.idxOf_lt_length_of_mem (F.seen s c hs hc)
 have Us:∀p∈P,p.1 < n1/\p.2 < n2:=fun p hp=>by
  obtain⟨cs,v,rfl⟩:=F.rc p hp
  exact⟨fy A.lt cs 0 v A.pos,fy B.lt cs 0 v B.pos⟩
 have way:∀(cs:List Nat) (s:Nat),Vd W cs->s < P.length->pa P (led (fx f g P) cs s)=(led f cs (pa P s).1,led g cs (pa P s).2):=by
  intro cs
  induction cs with
  | nil=>intro s _ _;rfl
  | cons c cs ih=>
   intro s hc hs
   have hcc:=hc c List.mem_cons_self
   show pa P (led (fx f g P) cs (fx f g P s c))=(led f cs (f (pa P s).1 c),led g cs (g (pa P s).2 c))
   rw[ih _ (fun x hx=>hc x (List.mem_cons_of_mem _ hx)) (lt s c hs hcc)]
   unfold fx
   rw[Fg (F.seen s c hs hcc)]
   rfl
 let w:Nat×Nat->D:=fun p=>.bl (o.b (bo (w1 p.1)) (bo (w2 p.2)))
 have ew:P.map w=(List.range P.length).map fun s=>w (pa P s):=by
  apply List.ext_getElem?
  intro i
  rw[List.getElem?_map,List.getElem?_map]
  by_cases hi:i < P.length
  ·rw[pF hi,List.getElem?_range hi];rfl
  ·rw[List.getElem?_eq_none (by omega),List.getElem?_eq_none (by rw[List.length_range];omega)];rfl
 obtain⟨n',nx',jL,gs,e3,C,b3,A',gl,gg⟩:=zf (W:=W) (n:=P.length) (nx:=fx f g P) (wd:=fun s=>w (pa P s)) (nt:=.lst (aF P.length W (fx f g P))) (wt:=.lst (P.map w)) (md:=.int 300) ⟨p0,by omega,lt,fun s _=>⟨_,rfl⟩⟩ hW (.inr rfl) (.inr (by rw[ew])) (.inr rfl)
 have b4:∀cs,Vd W cs->jL (led nx' cs 0)= .bl (o.b (β cs) (γ cs)):=fun cs v=>by
  rw[b3 cs v]
  show w (pa P (led (fx f g P) cs 0))=_
  rw[way cs 0 v p0,pz]
  show D.bl (o.b (bo (w1 (led f cs 0))) (bo (w2 (led g cs 0))))=_
  rw[b1 cs v,b2 cs v]
  rfl
 obtain⟨out,e5⟩:=Fw (f1:=pairF) (f2:=L3) (f3:=lW) (o:=.str o.s) (ws:=(List.range n1).map w1) (us:=(List.range n2).map w2) (ts:=P.map w) e1 (by rw[List.length_map];omega) (fun z3 z4 z5 z6=>by
  have:=B5 (f2:=L3) (o:=.str o.s) (a:=.tup (aF n1 W f)) (a':=.tup (aF n2 W g)) (ws:=(List.range n1).map w1) (us:=(List.range n2).map w2) (z3:=z3) (z4:=z4) (z5:=z5) (z6:=z6) (w:=w) P [] fun p hp=>by
   obtain⟨q1,q2⟩:=Us p hp
   refine⟨w1 p.1,w2 p.2,nq q1,nq q2,?_⟩
   rw[A.bo q1,B.bo q2]
   exact Pa o _ _
  rw[List.nil_append] at this
  exact this) e3 (by omega) (fun z0 z1 z2 z4 z5 z6=>Fv gs [] fun g hg=>by
   obtain⟨vs,q1,q2,q3⟩:=gg g hg
   exact⟨vs,q1,q2,by rw[List.length_map];exact q3⟩)
 refine⟨mT n' W nx' jL,L6 e5,n',nx',jL,rfl,A',b4,wW C b4 fun cs ds es v1 v2 v3 q=>?_,C⟩
 show o.b _ _=o.b _ _
 rw[tb cs ds es v1 v2 v3 q,tb' cs ds es v1 v2 v3 q]
noncomputable abbrev Pc (xs:List D) (a b c:Int):MO:=.lst [.lst xs,.int a,.int b,.int c]
noncomputable def Fq (o:MO):Prop:=∃(xs:List D) (a b c:Int),(∀d∈xs,∃y:Int,d= .int y)/\o=Pc xs a b c
noncomputable def kG:GS:=
 (ff (eP gW (aa (eF (ao 0)) (aa (eF (ao 1)) (aa (eC (.int 0)) (aa (eC (.int 0)) aq))))))
noncomputable def mq:FM:=bG 2 kG
theorem Fy:∀us r,mq us=some r->bG 2 kG us=some r:=fun _ _ h=>h
noncomputable def fJ:GS:=
 (aR (pX 0 (eC (.int 3)) (eF (eP kr (aa (aL 0 (eC (.int 3))) (aa (eC (.int 1)) aq)))))
 (aR (uz (qB (eF (eP MH (aa (aL 0 (eC (.int 2))) (aa (eF (ao 1)) aq))))) (aR (bz 2 (eP yh (aa (aL 0 (eC (.int 2))) (aa (eF (ao 1)) aq))))
 (aR (pX 0 (eC (.int 2)) (eF (eP D9 (aa (aL 0 (eC (.int 2))) (aa (eF (ao 1)) aq)))))
 (ff (ao 2)))) kI)
 (aR (bz 3 (eT (eC (.int 0))))
 (aR (uz (qB (eF (eP MG (aa (eF (eP uy (aa (aL 0 (eC (.int 0))) aq))) (aa (eC (.int 0)) aq))))) (bz 3 (eP sY (aa (aL 0 (eC (.int 0))) (aa (eF (eP yh (aa (aL 0 (eC (.int 1))) (aa (eF (eP uy (aa (aL 0 (eC (.int 0))) aq))) aq)))) aq)))) kI)
 (aR (pX 0 (eC (.int 1)) (eF (eP kr (aa (aL 0 (eC (.int 1))) (aa (eC (.int 1)) aq)))))
 (aR (uz (qB (eF (eP MH (aa (eF (ao 3)) (aa (eF (eP NU (aa (eC (.int 10)) (aa (eC (.int 18)) aq)))) aq))))) (aR (pX 0 (eC (.int 2)) (eF (eP D9 (aa (eF (ao 3)) (aa (eF (ao 1)) aq)))))
 (ff (eP yh (aa (eF (ao 3)) (aa (eF (ao 1)) aq))))) kI)
 (aR (bz 4 (eP yh (aa (eF (eP Ag (aa (eF (eP kr (aa (eF (eP kr (aa (eF (eP yh (aa (eF (ao 3)) (aa (eC (.int 2147483629)) aq)))) (aa (eF (eP Ag (aa (eC (.int 7919)) (aa (aL 0 (eC (.int 3))) aq)))) aq)))) (aa (eF (eP Ag (aa (eC (.int 31)) (aa (aL 0 (eC (.int 1))) aq)))) aq)))) (aa (eC (.int 48271)) aq)))) (aa (eC (.int 2147483647)) aq))))
 (aR (bz 4 (eP yh (aa (eF (eP Ag (aa (eF (eP kr (aa (eF (eP D9 (aa (eF (ao 4)) (aa (eC (.int 13)) aq)))) (aa (eF (eP Ag (aa (eC (.int 6151)) (aa (aL 0 (eC (.int 3))) aq)))) aq)))) (aa (eC (.int 69621)) aq)))) (aa (eC (.int 2147483587)) aq))))
 (ff (eP yh (aa (eF (eP D9 (aa (eF (ao 4)) (aa (eC (.int 11)) aq)))) (aa (eF (ao 1)) aq))))))))))))
noncomputable def nu:FM:=bG 5 fJ
theorem Fz:∀us r,nu us=some r->bG 5 fJ us=some r:=fun _ _ h=>h
noncomputable def Tk (f:FM):Prop:=∀o,Fq o->∀m:Int,0 < m->m < 1000000->∃v o',f [.b o,.t (.int m)]=some (.t (.int v),[o'])/\Fq o'/\0<=v/\v < m
theorem wY : Tk nu := by
  rintro o ⟨xs,a,b,c,hx,rfl⟩ m m0 m1
  have q0:∀(w x y z:D),cX [w,x,y,z] 0=some w/\cX [w,x,y,z] 1=some x/\cX [w,x,y,z] 2=some y/\cX [w,x,y,z] 3=some z:=fun _ _ _ _=>⟨rfl,rfl,rfl,rfl⟩
  have q1:xA 4 1=some 1/\xA 4 2=some 2/\xA 4 3=some 3:=⟨rfl,rfl,rfl⟩
  have m2:m < 1073741824:=by omega
  by_cases hb:m<=b
  . refine⟨b % m,Pc xs a (b / m) (c+1),?_,⟨xs,_,_,_,hx,rfl⟩,Int.emod_nonneg _ (by omega),Int.emod_lt_of_pos _ m0⟩
    simp[nu,bG,fJ,aK,q0,q1,hb,m0,m2,jq,ir]
  . obtain⟨y,hy⟩:∃y:Int,(if 0 < xs.length then cX xs (a % (xs.length:Int)) else some (.int 0))=some (.int y):=by
      by_cases hp:0 < xs.length
      . rw[if_pos hp]
        obtain⟨x,e1,e2⟩:=Sq.LF (l:=xs) (i:=a % (xs.length:Int)) (Int.emod_nonneg _ (by omega)) (Int.emod_lt_of_pos _ (by omega))
        obtain⟨y,rfl⟩:=hx x (List.mem_of_getElem? e2)
        exact⟨y,e1⟩
      . rw[if_neg hp];exact⟨0,rfl⟩
    by_cases hc:(1000000000000000000:Int)<=y
    . refine⟨y % m,Pc xs (a+1) (y / m) (c+1),?_,⟨xs,_,_,_,hx,rfl⟩,Int.emod_nonneg _ (by omega),Int.emod_lt_of_pos _ m0⟩
      by_cases hp:0 < xs.length
      . rw[if_pos hp] at hy
        simp[nu,bG,fJ,aK,q0,q1,hb,m0,m2,jq,ir,hp,hy,hc]
      . rw[if_neg hp] at hy
        injection hy with hy
        injection hy with hy
        omega
    . refine⟨_,Pc xs (a+1) b (c+1),?_,⟨xs,_,_,_,hx,rfl⟩,Int.emod_nonneg (((((y % 2147483629+7919 * (c+1)+31 * (a+1)) * 48271 % 2147483647) / 13+6151 * (c+1)) * 69621 % 2147483587) / 11) (Int.ne_of_gt m0),Int.emod_lt_of_pos _ m0⟩
      by_cases hp:0 < xs.length
      . rw[if_pos hp] at hy
        simp[nu,bG,fJ,aK,q0,q1,hb,m0,m2,jq,ir,hp,hy,hc]
      . rw[if_neg hp] at hy
        injection hy with hy
        injection hy with hy
        subst hy
        simp[nu,bG,fJ,aK,q0,q1,hb,m0,m2,jq,ir,hp]
noncomputable def eu (aT:FM):GS:=
 (aR (bz 1 (eP sY (aa (eF (eP gW (aa (eF (eP fE (aa (eC (.str "a")) (aa (eC (.str "ab")) (aa (eC (.str "b")) aq))))) (aa (eF (eP fE (aa (eC (.str "now")) (aa (eC (.str "any")) (aa (eC (.str "name")) aq))))) (aa (eF (eP fE (aa (eC (.str "less")) (aa (eC (.str "x")) (aa (eC (.str "n")) aq))))) (aa (eF (eP fE (aa (eC (.str "yes")) (aa (eC (.str "till")) (aa (eC (.str "no")) aq))))) aq)))))) (aa (eF (bA aT (gY (ao 0) (bg (eC (.int 4)) bX)))) aq))))
 (aR (bz 2 (eP kr (aa (eC (.int 1)) (aa (eF (bA aT (gY (ao 0) (bg (eC (.int 3)) bX)))) aq))))
 (aR (uz (qB (eF (eP xD (aa (eF (ao 2)) (aa (eC (.int 1)) aq))))) (ff (eP fE (aa (eF (eP fE (aa (aL 1 (eC (.int 0))) (aa (eF (eP kr (aa (eC (.int 1)) (aa (eF (bA aT (gY (ao 0) (bg (eC (.int 4)) bX)))) aq)))) aq)))) aq))) kI)
 (aR (uz (qB (eF (eP xD (aa (eF (ao 2)) (aa (eC (.int 2)) aq))))) (ff (eP fE (aa (eF (eP fE (aa (aL 1 (eC (.int 0))) (aa (eF (bA aT (gY (ao 0) (bg (eC (.int 3)) bX)))) aq)))) (aa (eF (eP fE (aa (aL 1 (eC (.int 1))) (aa (eF (bA aT (gY (ao 0) (bg (eC (.int 2)) bX)))) aq)))) aq)))) kI)
 (ff (eP fE (aa (eF (eP fE (aa (aL 1 (eC (.int 0))) (aa (eF (bA aT (gY (ao 0) (bg (eC (.int 2)) bX)))) aq)))) (aa (eF (eP fE (aa (aL 1 (eC (.int 1))) (aa (eC (.int 0)) aq)))) (aa (eF (eP fE (aa (aL 1 (eC (.int 2))) (aa (eF (bA aT (gY (ao 0) (bg (eC (.int 2)) bX)))) aq)))) aq)))))))))
noncomputable def rY:FM:=bG 3 (eu nu)
theorem tab_run:∀us r,rY us=some r->bG 3 (eu nu) us=some r:=fun _ _ h=>h
noncomputable abbrev Pd:List D:=[.tup [.str "a",.str "ab",.str "b"],.tup [.str "now",.str "any",.str "name"],.tup [.str "less",.str "x",.str "n"],.tup [.str "yes",.str "till",.str "no"]]
theorem Io {i:Int}(h0:0<=i) (h1:i < 4):∃x y z,cX Pd i=some (.tup [.str x,.str y,.str z])/\wH x/\wH y/\wH z:=by
 have:i=0\/i=1\/i=2\/i=3:=by omega
 rcases this with rfl | rfl | rfl | rfl <;> exact⟨_,_,_,rfl,⟨by decide,by decide⟩,⟨by decide,by decide⟩,by decide,by decide⟩
theorem Pe {f:FM}(hf:Tk f){o:MO}(ho:Fq o):∃T o',bG 3 (eu f) [.b o]=some (.t (kY T),[o'])/\Fq o'/\T.length<=4/\∀p∈T,wI p:=by
 obtain⟨i,o1,e1,h1,i0,i1⟩:=hf o ho 4 (by decide) (by decide)
 obtain⟨x,y,z,em,nx,ny,nz⟩:=Io i0 i1
 obtain⟨j,o2,e2,h2,j0,j1⟩:=hf o1 h1 3 (by decide) (by decide)
 have q0:∀(x y z:D),cX [x,y,z] 0=some x/\cX [x,y,z] 1=some y/\cX [x,y,z] 2=some z:=fun _ _ _=>⟨rfl,rfl,rfl⟩
 have jj:j=0\/j=1\/j=2:=by omega
 rcases jj with rfl | rfl | rfl
 ·obtain⟨v,o3,e3,h3,v0,v1⟩:=hf o2 h2 4 (by decide) (by decide)
  refine⟨[(x,1+v)],o3,?_,h3,by simp,fun p hp=>?_⟩
  ·simp[bG,eu,e1,em,e2,e3,q0,aK,kY]
  ·rw[List.mem_singleton.mp hp];exact⟨nx,by show(0:Int)<=1+v;omega,by show(1+v:Int)<=10;omega⟩
 ·obtain⟨v,o3,e3,h3,v0,v1⟩:=hf o2 h2 3 (by decide) (by decide)
  obtain⟨u,o4,e4,h4,u0,u1⟩:=hf o3 h3 2 (by decide) (by decide)
  refine⟨[(x,v),(y,u)],o4,?_,h4,by simp,fun p hp=>?_⟩
  ·simp[bG,eu,e1,em,e2,e3,e4,q0,aK,kY]
  ·simp only[List.mem_cons,List.not_mem_nil,or_false] at hp
   rcases hp with rfl | rfl
   ·exact⟨nx,v0,by show(v:Int)<=10;omega⟩
   ·exact⟨ny,u0,by show(u:Int)<=10;omega⟩
 ·obtain⟨v,o3,e3,h3,v0,v1⟩:=hf o2 h2 2 (by decide) (by decide)
  obtain⟨u,o4,e4,h4,u0,u1⟩:=hf o3 h3 2 (by decide) (by decide)
  refine⟨[(x,v),(y,0),(z,u)],o4,?_,h4,by simp,fun p hp=>?_⟩
  ·simp[bG,eu,e1,em,e2,e3,e4,q0,aK,kY]
  ·simp only[List.mem_cons,List.not_mem_nil,or_false] at hp
   rcases hp with rfl | rfl | rfl
   ·exact⟨nx,v0,by show(v:Int)<=10;omega⟩
   ·exact⟨ny,by show(0:Int)<=0;decide,by show(0:Int)<=10;decide⟩
   ·exact⟨nz,u0,by show(u:Int)<=10;omega⟩
noncomputable def fS (aT:FM):GS:=
 (jo (eT (eM 4 hAppend (aa (eF (eP cu (aa (eF (bO [0,3] (iO (aa (eF (ao 1)) aq)) aO (eF (bA aT (gY (ao 1) (bg (eF (ao 2)) bX)))))) aq))) aq))))
noncomputable def cW (aT:FM):GS:=
 (aR (bz 3 (eT (aL 2 (eF (bA aT (gY (ao 0) (bg (d7 2) bX)))))))
 (aR (bz 4 (eP gW aq))
 (aR (jX (bName 5) (iO (aa (eF (ao 3)) aq)) (fS aT))
 (ff (eP fE (aa (eF (eP cu (aa (eF (ao 4)) aq))) (aa (eF (eP cu (aa (eF (bO [0] (iO (aa (eF (ao 3)) aq)) aO (eF (eP xD (aa (eF (bA aT (gY (ao 1) (bg (eC (.int 2)) bX)))) (aa (eC (.int 1)) aq)))))) aq))) aq)))))))
noncomputable def Ut (aT:FM):GS:=
 (bz 3 (eT (aL 2 (eF (bA aT (gY (ao 0) (bg (d7 2) bX)))))))
noncomputable def XA (aT:FM):GS:=
 (bz 4 (eP gW aq))
noncomputable def Uu (aT:FM):GS:=
 (jX (bName 5) (iO (aa (eF (ao 3)) aq)) (fS aT))
noncomputable def XC (aT:FM):GS:=
 (ff (eP fE (aa (eF (eP cu (aa (eF (ao 4)) aq))) (aa (eF (eP cu (aa (eF (bO [0] (iO (aa (eF (ao 3)) aq)) aO (eF (eP xD (aa (eF (bA aT (gY (ao 1) (bg (eC (.int 2)) bX)))) (aa (eC (.int 1)) aq)))))) aq))) aq))))
theorem Pf (aT:FM):cW aT=aR (Ut aT) (aR (XA aT) (aR (Uu aT) (XC aT))):=rfl
noncomputable def iY:FM:=bG 6 (cW nu)
theorem C8:∀us r,iY us=some r->bG 6 (cW nu) us=some r:=fun _ _ h=>h
section
variable {f:FM}{a1 a2 a4 a5:Option U}
theorem L7 (hf:Tk f){o:MO}(ho:Fq o){m:Int}(m0:0 < m) (m1:m < 1000000) (n:Nat):
  ∃(vs:List Int) (o':MO),aW [0,3] aO (eF (bA f (gY (ao 1) (bg (eF (ao 2)) bX)))) (mD 0 n) [some (.b o),a1,a2,some (.t (.int m)),a4,a5] []=some (vs.map D.int,[some (.b o'),a1,a2,some (.t (.int m)),a4,a5])/\Fq o'/\vs.length=n/\∀v∈vs,0<=v/\v < m:=by
 obtain⟨acc,S',e,vs,o',rfl,hl,hq,hv,rfl⟩:=kZ (cap:=[0,3]) (g:=eF (bA f (gY (ao 1) (bg (eF (ao 2)) bX)))) (mD 0 n)
  (fun j acc S=>∃(vs:List Int) (o':MO),acc=vs.map D.int/\vs.length=j/\Fq o'/\(∀v∈vs,0<=v/\v < m)/\S=[some (.b o'),a1,a2,some (.t (.int m)),a4,a5]) _ ⟨[],o,rfl,rfl,ho,by simp,rfl⟩ (by
  rintro j d acc S hd ⟨vs,o',rfl,hl,hq,hv,rfl⟩
  obtain⟨v,o2,e1,h1,v0,v1⟩:=hf o' hq m m0 m1
  refine⟨.int v,[some (.b o2),a1,a2,some (.t (.int m)),a4,a5],?_,vs++[v],o2,by simp,by simp[hl],h1,fun w hw=>?_,rfl⟩
  ·simp[aW,bL,fM,e1,aK]
  ·rcases List.mem_append.mp hw with q | q
   ·exact hv w q
   ·rw[List.mem_singleton.mp q];exact⟨v0,v1⟩)
 rw[Sq.kE] at hl
 exact⟨vs,o',e,hq,hl,hv⟩
theorem FA (hf:Tk f){o:MO}(ho:Fq o){a3:Option U}(n:Nat):
  ∃(ws:List D) (o':MO),aW [0] aO (eF (eP xD (aa (eF (bA f (gY (ao 1) (bg (eC (.int 2)) bX)))) (aa (eC (.int 1)) aq)))) (mD 0 n) [some (.b o),a1,a2,a3,a4,a5] []=some (ws,[some (.b o'),a1,a2,a3,a4,a5])/\Fq o'/\ws.length=n/\∀w∈ws,∃b,w=D.bl b:=by
 obtain⟨acc,S',e,o',hl,hq,hv,rfl⟩:=kZ (cap:=[0]) (g:=(eF (eP xD (aa (eF (bA f (gY (ao 1) (bg (eC (.int 2)) bX)))) (aa (eC (.int 1)) aq))))) (mD 0 n)
  (fun j acc S=>∃(o':MO),acc.length=j/\Fq o'/\(∀w∈acc,∃b,w=D.bl b)/\S=[some (.b o'),a1,a2,a3,a4,a5]) _ ⟨o,rfl,ho,by simp,rfl⟩ (by
  rintro j d acc S hd ⟨o',hl,hq,hv,rfl⟩
  obtain⟨v,o2,e1,h1,v0,v1⟩:=hf o' hq 2 (by decide) (by decide)
  have d0:iS (.int v)<=40:=Nat.zero_le _
  refine⟨.bl (v == 1),[some (.b o2),a1,a2,a3,a4,a5],?_,o2,by simp[hl],h1,fun w hw=>?_,rfl⟩
  ·simp[aW,bL,fM,e1,aK,d0]
  ·rcases List.mem_append.mp hw with q | q
   ·exact hv w q
   ·rw[List.mem_singleton.mp q];exact⟨_,rfl⟩)
 rw[Sq.kE] at hl
 exact⟨acc,o',e,hq,hl,hv⟩
noncomputable abbrev qK:List D:=[.int 1,.int 2,.int 3,.int 4,.int 5,.int 6]
theorem Pg {o o1:MO}{W i:Int}{n:Nat}{sz:List D}(e1:f [.b o,.t (.int ((sz.length:Nat):Int))]=some (.t (.int i),[o1])) (en:cX sz i=some (.int n)):Ut f [some (.b o),some (.t (.int W)),some (.t (.lst sz)),none,none,none]=some (.nx [some (.b o1),some (.t (.int W)),some (.t (.lst sz)),some (.t (.int n)),none,none]):=by
 generalize ((n:Nat):Int)=nn at *
 simp[Ut,e1,en]
theorem Ph {o1:MO}{W:Int}{n:Nat}{sz:List D}{r:Out}(hn:n < 1000000) (e2:loop (bName 5) (fS f) (mD 0 n) [some (.b o1),some (.t (.int W)),some (.t (.lst sz)),some (.t (.int n)),some (.m (.lst [])),none]=some r):
  Uu f [some (.b o1),some (.t (.int W)),some (.t (.lst sz)),some (.t (.int n)),some (.m (.lst [])),none]=some r:=by
 have c1:=Sq.AA 3 n [some (.b o1),some (.t (.int W)),some (.t (.lst sz)),some (.t (.int n)),some (.m (.lst [])),none] rfl hn
 unfold Uu
 rw[wF,c1,Option.bind_some]
 exact e2
theorem L8 {n:Nat}(hn:n < 1000):(mD 0 n).length<=100000:=by rw[Sq.kE];omega
theorem Pj {n:Nat}{S S':SS}{G:GD}{ws:List D}(hn:n < 1000) (h:S[3]? =some (some (.t (.int n)))) (e:aW [0] aO G (mD 0 n) S []=some (ws,S')):bO [0] (iO (aa (eF (ao 3)) aq)) aO G S=some (.m (.lst ws),S'):=by
 have c1:=Sq.AA 3 n S h (by omega)
 have l:=L8 hn
 generalize mD 0 n=r at *
 rw[bZ,c1,Option.bind_some]
 show(if r.length<=100000 then _ else _)=_
 rw[if_pos l,e]
 rfl
theorem Ma {o2 o3:MO}{z1 z2 z3 x5:Option U}{nd ws:List D}{gc:GE}(ec:gc [some (.b o2),z1,z2,z3,some (.t (.lst nd)),x5]=some (.m (.lst ws),[some (.b o3),z1,z2,z3,some (.t (.lst nd)),x5])):
  (ff (eP fE (aa (eF (eP cu (aa (eF (ao 4)) aq))) (aa (eF (eP cu (aa (eF gc) aq))) aq)))) [some (.b o2),z1,z2,z3,some (.m (.lst nd)),x5]=some (.rt (.t (.tup [.tup nd,.tup ws])) [some (.b o3),z1,z2,z3,some (.t (.lst nd)),x5]):=by
 simp[ec]
theorem Pk {o2 o3:MO}{W:Int}{n:Nat}{sz nd ws:List D}{x5:Option U}(hn:n < 1000) (e4:aW [0] aO (eF (eP xD (aa (eF (bA f (gY (ao 1) (bg (eC (.int 2)) bX)))) (aa (eC (.int 1)) aq)))) (mD 0 n) [some (.b o2),some (.t (.int W)),some (.t (.lst sz)),some (.t (.int n)),some (.t (.lst nd)),x5] []=some (ws,[some (.b o3),some (.t (.int W)),some (.t (.lst sz)),some (.t (.int n)),some (.t (.lst nd)),x5])):
  XC f [some (.b o2),some (.t (.int W)),some (.t (.lst sz)),some (.t (.int n)),some (.m (.lst nd)),x5]=some (.rt (.t (.tup [.tup nd,.tup ws])) [some (.b o3),some (.t (.int W)),some (.t (.lst sz)),some (.t (.int n)),some (.t (.lst nd)),x5]):=
 Ma (Pj hn rfl e4)
end
noncomputable def Uv:D->Bool
 | .int _=>true
 | _=>false
noncomputable def C9 (n:Nat):FM
 | [.t (.lst ds)]=>if ds.length<=n/\ds.all Uv=true then some (.t (.bl true),[]) else none
 | _=>none
noncomputable def Ip (p:Addr×Obj):Bool:=match p.2.cls with
 | .type n=>!(n == "list")
 | _=>true
theorem XD:∀{K:PySem.W.Frag}(h:K.all Ip=true){a:Addr}{o:Obj},K.lookup a=some o->o.cls≠.type "list"
 | [],_,_,_,e=>by cases e
 | (b,x) :: K,h,a,o,e=>by
  rw[List.all_cons,Bool.and_eq_true] at h
  rw[List.lookup_cons] at e
  split at e
  ·cases e
   intro z
   have:=h.1
   unfold Ip at this
   dsimp only at this
   rw[z] at this
   simp at this
  ·exact XD h.2 e
theorem vC (F:Hp):∀ns:List Int,bB F (ns.map V.int) (ns.map D.int)
 | []=>.nil
 | n :: ns=>.cons (.int n) (vC F ns)
theorem Iq (ns:List Int):(ns.map D.int).all Uv=true:=by
 rw[List.all_eq_true]
 intro d hd
 obtain⟨y,_,rfl⟩:=List.mem_map.mp hd
 rfl
theorem Ir {K:PySem.W.Frag}{H:Hp}{a:Addr}{ns:List Int}{n:Nat}{E:XK}(hK:K.all Ip=true) (hl:ns.length<=n) (hO:G4 H) (hS:oW K H a (ns.map V.int)):spT K 1 (C9 n) [.ref a] H (fun v _=>v= .bl true) E:=by
 have rd:Rd H a (.lst (ns.map V.int)):=by
  rcases hS with h | ⟨o,its,k,h1,h2,_⟩
  ·exact h
  ·exact absurd h2 (XD hK h1)
 have ll:(ns.map D.int).length<=n:=by rw[List.length_map];exact hl
 exact⟨rfl,H,[.t (.lst (ns.map D.int))],.t (.bl true),[],(fun b o z=>z),.cons (.lst rd (vC H ns)) .nil,List.nodup_nil,if_pos ⟨ll,Iq ns⟩,fun v F' H' _ r=>oZ r⟩
theorem Iu {xs:List D}(h:xs.all Uv=true):∀d∈xs,∃y:Int,d= .int y:=fun d hd=>by
 have:=List.all_eq_true.mp h d hd
 cases d <;> first | exact⟨_,rfl⟩ | cases this
noncomputable def XE (aU:FM) (aI:FM) (aA:FM) (aD:FM) (bC:FM) (iK:FM) (bD:FM):GS:=
 (bz 1 (bA aU (gY (ao 0) (bg (eC (.int 0)) bX))))
noncomputable def XF (aU:FM) (aI:FM) (aA:FM) (aD:FM) (bC:FM) (iK:FM) (bD:FM):GS:=
 (bz 2 (bA aI (gY (ao 1) bX)))
noncomputable def XG (aU:FM) (aI:FM) (aA:FM) (aD:FM) (bC:FM) (iK:FM) (bD:FM):GS:=
 (bz 4 (bA aD (gY (ao 1) (bg (eF (ao 3)) (bg (eF (eP gW (aa (eC (.int 1)) (aa (eC (.int 2)) (aa (eC (.int 3)) (aa (eC (.int 4)) (aa (eC (.int 5)) (aa (eC (.int 6)) aq)))))))) bX)))))
noncomputable def XH (aU:FM) (aI:FM) (aA:FM) (aD:FM) (bC:FM) (iK:FM) (bD:FM):GS:=
 (bz 5 (bA aD (gY (ao 1) (bg (eF (ao 3)) (bg (eF (eP gW (aa (eC (.int 1)) (aa (eC (.int 2)) (aa (eC (.int 3)) (aa (eC (.int 4)) (aa (eC (.int 5)) (aa (eC (.int 6)) aq)))))))) bX)))))
noncomputable def XI (aU:FM) (aI:FM) (aA:FM) (aD:FM) (bC:FM) (iK:FM) (bD:FM):GS:=
 (bz 6 (bA aD (gY (ao 1) (bg (eF (ao 3)) (bg (eF (eP gW (aa (eC (.int 1)) (aa (eC (.int 2)) (aa (eC (.int 3)) (aa (eC (.int 4)) (aa (eC (.int 5)) (aa (eC (.int 6)) aq)))))))) bX)))))
noncomputable def XJ (aU:FM) (aI:FM) (aA:FM) (aD:FM) (bC:FM) (iK:FM) (bD:FM):GS:=
 (bz 9 (bA bC (bg (eF (ao 2)) (bg (eC (.str "but")) (bg (eF (ao 4)) (bg (eF (ao 5)) bX))))))
section
variable {f1 f2 f3 f4 f5 f6 f7:FM}{td a b c o d e g l p u:D}{z0 z1 z3 z4 z5 z6 z7 z8 z9 pD:Option U}
theorem W9 {x:D}{o0:MO}(h:f1 [.t x,.t (.int 0)]=some (.m o0,[])):XE f1 f2 f3 f4 f5 f6 f7 [some (.t x),none,none,none,none,none,none,none,none,none,none]=some (.nx [some (.t x),some (.m o0),none,none,none,none,none,none,none,none,none]):=by
 simp[XE,h]
theorem st1 {o0 o1:MO}(h:f2 [.b o0]=some (.t td,[o1])):XF f1 f2 f3 f4 f5 f6 f7 [z0,some (.m o0),none,none,none,none,none,none,none,none,none]=some (.nx [z0,some (.m o1),some (.t td),none,none,none,none,none,none,none,none]):=by
 simp[XF,h]
theorem st3 {o1 o2:MO}{W:Int}(h:f4 [.b o1,.t (.int W),.t (.lst qK)]=some (.t a,[o2])):XG f1 f2 f3 f4 f5 f6 f7 [z0,some (.m o1),some (.t td),some (.t (.int W)),none,none,none,none,none,none,none]=some (.nx [z0,some (.m o2),some (.t td),some (.t (.int W)),some (.t a),none,none,none,none,none,none]):=by
 unfold qK at h
 simp[XG,h]
theorem MF {o1 o2:MO}{W:Int}(h:f4 [.b o1,.t (.int W),.t (.lst qK)]=some (.t a,[o2])):XH f1 f2 f3 f4 f5 f6 f7 [z0,some (.m o1),some (.t td),some (.t (.int W)),z4,none,none,none,none,none,none]=some (.nx [z0,some (.m o2),some (.t td),some (.t (.int W)),z4,some (.t a),none,none,none,none,none]):=by
 unfold qK at h
 simp[XH,h]
theorem PZ {o1 o2:MO}{W:Int}(h:f4 [.b o1,.t (.int W),.t (.lst qK)]=some (.t a,[o2])):XI f1 f2 f3 f4 f5 f6 f7 [z0,some (.m o1),some (.t td),some (.t (.int W)),z4,z5,none,none,none,none,none]=some (.nx [z0,some (.m o2),some (.t td),some (.t (.int W)),z4,z5,some (.t a),none,none,none,none]):=by
 unfold qK at h
 simp[XI,h]
theorem Jv (h:f5 [.t td,.t (.str "but"),.t a,.t b]=some (.t u,[])):XJ f1 f2 f3 f4 f5 f6 f7 [z0,z1,some (.t td),z3,some (.t a),some (.t b),z6,z7,z8,none,pD]=some (.nx [z0,z1,some (.t td),z3,some (.t a),some (.t b),z6,z7,z8,some (.t u),pD]):=by
 simp[XJ,h]
end
end So
end
section
namespace Sv
open PySem PySem.Spec PyProof.Rows L2 Sw Sl Sk So
noncomputable def oO (b:Bool) (ds:List D):D:=if b then .lst ds else .tup ds
noncomputable def lY (b:Bool) (n W:Nat) (nx:Nat->Nat->Nat):D:=oO b ((List.range n).map fun s=>oO b (bN W (nx s)))
theorem J4 {b:Bool}{n W s:Nat}{nx:Nat->Nat->Nat}(hs:s < n):dz (.t (lY b n W nx)) (.int (s:Nat))=some (oO b (bN W (nx s))):=by
 have:cX ((List.range n).map fun s=>oO b (bN W (nx s))) (s:Int)=some (oO b (bN W (nx s))):=lJ (by rw[List.getElem?_map,List.getElem?_range hs];rfl)
 cases b <;> exact this
theorem Mb {b:Bool}{n W:Nat}{nx:Nat->Nat->Nat}:qy (.t (lY b n W nx))=some n:=by
 have:((List.range n).map fun s=>oO b (bN W (nx s))).length=n:=by rw[List.length_map,List.length_range]
 cases b <;> exact congrArg some this
noncomputable def mw (W:Nat) (f:Nat->Nat->Nat) (ns:List Nat) (s:Nat):D:=.tup [.int (na ns s:Nat),.tup (bN W fun c=>na ns (f s c))]
theorem B6 (W:Nat) (f:Nat->Nat->Nat) (ns:List Nat) (s:Nat):ju (mw W f ns s)=some (mw W f ns s):=by
 have e:(bN W fun c=>na ns (f s c))=((List.range W).map fun c=>((na ns (f s c):Nat):Int)).map D.int:=by unfold bN;rw[List.map_map];rfl
 unfold mw
 rw[e]
 generalize ((List.range W).map fun c=>((na ns (f s c):Nat):Int))=l
 generalize ((na ns s:Nat):Int)=a
 have al:(l.map D.int).all (fV 6)=true:=by
  rw[List.all_eq_true]
  intro x hx
  obtain⟨v,_,rfl⟩:=List.mem_map.mp hx
  rfl
 have k8:fV 8 (.tup [.int a,.tup (l.map D.int)])=true:=by
  show([D.int a,D.tup (l.map D.int)]).all (fV 7)=true
  simp only[List.all_cons,List.all_nil,Bool.and_true]
  show(true && (l.map D.int).all (fV 6))=true
  rw[al]
  rfl
 show(if fV 8 (.tup [.int a,.tup (l.map D.int)])=true then some (nf (.tup [.int a,.tup (l.map D.int)])) else none)=_
 rw[if_pos k8]
 show some (D.tup [.int a,.tup (Gy (l.map D.int))])=_
 rw[tW]
theorem Me {W:Nat}{f:Nat->Nat->Nat}{ns:List Nat}{s t:Nat}:mw W f ns s=mw W f ns t↔na ns s=na ns t/\∀c,c < W->na ns (f s c)=na ns (f t c):=by
 unfold mw bN
 constructor
 ·intro h
  injection h with h
  injection h with h1 h2
  injection h1 with h1
  injection h2 with h2 _
  injection h2 with h2
  refine⟨Int.ofNat_inj.mp h1,fun c hc=>?_⟩
  have:=congrArg (fun l=>l[c]?) h2
  simp only[List.getElem?_map,List.getElem?_range hc,Option.map_some] at this
  injection this with this
  injection this with this
  exact Int.ofNat_inj.mp this
 ·rintro⟨h1,h2⟩
  rw[h1]
  congr 3
  congr 1
  exact List.map_congr_left fun c hc=>by show D.int ((na ns (f s c):Nat):Int)=D.int ((na ns (f t c):Nat):Int);rw[h2 c (List.mem_range.mp hc)]
noncomputable def jG (m W:Nat) (f:Nat->Nat->Nat) (ns:List Nat):List Nat:=jJ ((List.range m).map (mw W f ns))
theorem vD {m W:Nat}{f:Nat->Nat->Nat}{ns:List Nat}:(jG m W f ns).length=m:=by unfold jG;rw[lq,List.length_map,List.length_range]
theorem qg {m W:Nat}{f:Nat->Nat->Nat}{ns:List Nat}{s t:Nat}(hs:s < m) (ht:t < m):na (jG m W f ns) s=na (jG m W f ns) t↔na ns s=na ns t/\∀c,c < W->na ns (f s c)=na ns (f t c):=by
 have get:∀i,i < m->((List.range m).map (mw W f ns))[i]? =some (mw W f ns i):=fun i hi=>by
  rw[List.getElem?_map,List.getElem?_range hi];rfl
 unfold jG
 rw[qb (get s hs) (get t ht),Me]
noncomputable def cnt (ns:List Nat):Nat:=(iM [] ns).length
theorem AH (ns : List Nat) (hl : ns.length <= 1000) : iJ [.lst (iD ns)] = some (.t (.int (cnt ns : Nat))) := by
  have e:L2.bR (iD ns)=some (ns.map fun n:Nat=>(n:Int)):=by
    unfold iD
    clear hl
    induction ns with
    | nil=>rfl
    | cons n ns ih=>simp only[List.map_cons,L2.bR,ih];rfl
  have nd:(iM [] ns).Nodup:=pB List.nodup_nil
  have e2:(firstMet (fun i=>(ns.map fun n:Nat=>(n:Int)).getD i 0) (ns.map fun n:Nat=>(n:Int)).length).length=cnt ns:=by
    unfold firstMet
    rw[ES,yX]
    have n2:(iM [] (ns.map fun n:Nat=>(n:Int))).Nodup:=pB List.nodup_nil
    have n3:((iM [] ns).map fun n:Nat=>(n:Int)).Nodup:=by
      unfold List.Nodup at nd ⊢
      rw[List.pairwise_map]
      exact nd.imp fun h e=>h (Int.ofNat_inj.mp e)
    have a:=n2.length_le_of_subset (l₂:=(iM [] ns).map fun n:Nat=>(n:Int)) fun v hv=>by
      rcases fP.mp hv with m | m
      . cases m
      . obtain⟨n,hn,rfl⟩:=List.mem_map.mp m
        exact List.mem_map.mpr ⟨n,fP.mpr (.inr hn),rfl⟩
    have b:=n3.length_le_of_subset (l₂:=iM [] (ns.map fun n:Nat=>(n:Int))) fun v hv=>by
      obtain⟨n,hn,rfl⟩:=List.mem_map.mp hv
      rcases fP.mp hn with m | m
      . cases m
      . exact fP.mpr (.inr (List.mem_map.mpr ⟨n,m,rfl⟩))
    rw[List.length_map] at a b
    unfold cnt
    omega
  show(L2.bR (iD ns)).bind _=_
  rw[e,Option.bind_some,if_pos (by rw[List.length_map];exact hl),e2]
theorem Mf (ns:List Nat):cnt ns<=ns.length:=(pB List.nodup_nil:(iM [] ns).Nodup).length_le_of_subset fun v hv=>by
 rcases fP.mp hv with m | m
 ·cases m
 ·exact m
theorem Iv {ns:List Nat}(h:0 < ns.length):0 < cnt ns:=List.length_pos_of_mem (fP.mpr (.inr (cV (i:=0) h)))
theorem AI {ns:List Nat}{i j:Nat}(hi:i < ns.length) (hj:j < ns.length):na (jJ ns) i=na (jJ ns) j↔na ns i=na ns j:=qb (bU hi) (bU hj)
theorem AJ {m W:Nat}{f:Nat->Nat->Nat}{ns:List Nat}(hl:ns.length=m) (hc:cnt (jG m W f ns)<=cnt ns){s t:Nat}(hs:s < m) (ht:t < m) (e:na ns s=na ns t):na (jG m W f ns) s=na (jG m W f ns) t:=by
 apply Classical.byContradiction
 intro ne
 have l2:(jG m W f ns).length=m:=vD
 have:=vp (n:=m) (ng ns) (ng (jG m W f ns)) (by rw[lq];exact hl) (by rw[lq];exact l2) (fun i j hi hj q=>by
  rw[AI (by omega) (by omega)] at q ⊢
  exact((qg hi hj).mp q).1) hs ht ((AI (by omega) (by omega)).mpr e) (fun q=>ne ((AI (by omega) (by omega)).mp q))
 unfold cnt at hc
 omega
structure Kd (m W:Nat) (f:Nat->Nat->Nat) (wd:Nat->D) (ns:List Nat):Prop where
 len:ns.length=m
 word:∀s t,s < m->t < m->na ns s=na ns t->wd s=wd t
 ne:∀s t,s < m->t < m->na ns s≠na ns t->∃cs,Vd W cs/\wd (led f cs s)≠wd (led f cs t)
theorem Kd.next {m W:Nat}{f:Nat->Nat->Nat}{wd:Nat->D}{ns:List Nat}(hf:∀s c,s < m->c < W->f s c < m) (P:Kd m W f wd ns):Kd m W f wd (jG m W f ns):=by
 refine⟨vD,fun s t hs ht e=>P.word s t hs ht ((qg hs ht).mp e).1,fun s t hs ht ne=>?_⟩
 rw[ne_eq,qg hs ht] at ne
 by_cases q:na ns s=na ns t
 ·have:∃c,c < W/\na ns (f s c)≠na ns (f t c):=by
   apply Classical.byContradiction
   intro z
   exact ne ⟨q,fun c hc=>Classical.byContradiction fun y=>z ⟨c,hc,y⟩⟩
  obtain⟨c,hc,y⟩:=this
  obtain⟨cs,v,d⟩:=P.ne _ _ (hf s c hs hc) (hf t c ht hc) y
  exact⟨c :: cs,fun x hx=>by
   rcases List.mem_cons.mp hx with rfl | hx
   ·exact hc
   ·exact v x hx,d⟩
 ·exact P.ne s t hs ht q
noncomputable def eU:GS:=
 (aR (bz 7 (eP fE (aa (aL 2 (eF (ao 6))) (aa (eF (eP cu (aa (eF (bO [2] (cU (aL 0 (eF (ao 6)))) aO (aL 1 (eF (ao 0))))) aq))) aq))))
 (aR (pX 4 (eF (ao 7)) (By 4 (eF (ao 7)) (d7 4)))
 (jo (eT (eM 5 hAppend (aa (aL 4 (eF (ao 7))) aq))))))
noncomputable def jf:GS:=
 (aR (bz 3 (eP iJ (aa (eF (ao 2)) aq)))
 (aR (bz 4 yC)
 (aR (bz 5 (eP gW aq))
 (aR (jX (bName 6) (iO (aa (d7 0) aq)) (eU))
 (bz 2 (ao 5))))))
noncomputable def gG:GS:=
 (aR (bz 2 (bO [] (cU (eF (ao 1))) aO (eF (eP CH (aa (eF (ao 0)) aq)))))
 (aR (bz 3 (eT (eC (.int 0))))
 (aR (iR 100000 (qB (eF (eP MG (aa (eF (eP iJ (aa (eF (ao 2)) aq))) (aa (eF (ao 3)) aq))))) (jf))
 (ff (ao 2)))))
noncomputable def Uw:GS:=
 (bz 3 (eP iJ (aa (eF (ao 2)) aq)))
noncomputable def kb1:GS:=
 (bz 4 yC)
noncomputable def kb2:GS:=
 (bz 5 (eP gW aq))
noncomputable def Ux:GS:=
 (jX (bName 6) (iO (aa (d7 0) aq)) (eU))
noncomputable def Uy:GS:=
 (bz 2 (ao 5))
theorem kb_eq:jf=aR (Uw) (aR (kb1) (aR (kb2) (aR (Ux) (Uy)))):=rfl
noncomputable def nv:FM:=bG 8 gG
theorem Dc:∀us r,nv us=some r->bG 8 gG us=some r:=fun _ _ h=>h
theorem FD {kvs:List (D×D)}{k d:D}(h:bx kvs k=some d) (u:∀p∈kvs,p.1=k->p.2=d):putD kvs k d=kvs:=by
 have an:(kvs.any fun kv=>decide (kv.1=k))=true:=by
  unfold bx at h
  rw[List.any_eq_true]
  cases q:kvs.find? fun kv=>decide (kv.1=k) with
  | none=>rw[q] at h;cases h
  | some p=>exact⟨p,List.mem_of_find?_eq_some q,List.find?_some (p:=fun(kv:D×D)=>decide (kv.1=k)) q⟩
 unfold putD
 rw[an]
 simp only[if_true]
 refine(List.map_congr_left (g:=id) fun p hp=>?_).trans (List.map_id _)
 show(if _ then _ else _)=p
 split
 ·rename_i e
  exact Prod.ext rfl (u p hp e).symm
 ·rfl
theorem B7 : ∀ {ks : List D} (i : Nat), ks.Nodup -> ∀ p ∈ ent i ks, p.2 = .int ((i + ks.idxOf p.1 : Nat) : Int)
  | [],_,_,p,hp=>by cases hp
  | k :: ks, i, nd, p, hp => by
    rcases List.mem_cons.mp hp with rfl | hp
    . simp
    . obtain⟨n1,n2⟩:=List.nodup_cons.mp nd
      have ih:=B7 (i+1) n2 p hp
      have mk:p.1∈ks:=by
        have:=List.mem_map_of_mem (f:=Prod.fst) hp
        have em:∀(l:List D) (j:Nat),(ent j l).map Prod.fst=l:=by
          intro l
          induction l with
          | nil=>intro j;rfl
          | cons x l ih=>intro j;show x :: (ent (j+1) l).map Prod.fst=_;rw[ih]
        rw[em] at this
        exact this
      have ne:k≠p.1:=fun e=>n1 (e▸mk)
      rw[ih,List.idxOf_cons,cond_eq_ite,if_neg (by simpa using ne)]
      congr 2
      omega
theorem FE {acc:List D}{k:D}(nd:acc.Nodup) (hk:ju k=some k) (hl:acc.length < 1000):
  ∃o,CP (.m (.cS (ent 0 acc))) k=some o/\ir (.cS (ent 0 acc)) k (o.getD (.int (acc.length:Nat)))=some (.cS (ent 0 (wN acc k))):=by
 have g:CP (.m (.cS (ent 0 acc))) k=some (bx (ent 0 acc) k):=by show(ju k).map _=_;rw[hk];rfl
 refine⟨_,g,?_⟩
 rw[wK.wr _ _ _ _ hk (by rw[jK];omega)]
 unfold wN
 by_cases m:k∈acc
 ·rw[if_pos m]
  have e:=fq m
  rw[e]
  show some (MO.cS (putD (ent 0 acc) k (.int (acc.idxOf k:Nat))))=_
  rw[FD e fun p hp q=>by
   have:=B7 0 nd p hp
   rw[q,Nat.zero_add] at this
   exact this]
 ·rw[if_neg m,gn 0 m]
  show some (MO.cS (putD (ent 0 acc) k (.int (acc.length:Nat))))=_
  rw[nU m]
theorem kd_in {ns:List Nat}{z0 z2:Option U}(W:Nat) (g:Nat->Nat) (h:∀c,c < W->g c < ns.length):
  aW [2] aO (aL 1 (eF (ao 0))) (bN W g) [z0,z2,some (.t (.lst (iD ns))),z3,z4,z5,z6,z7] []=some (bN W fun c=>na ns (g c),[z0,z2,some (.t (.lst (iD ns))),z3,z4,z5,z6,z7]):=by
 obtain⟨acc,S',e,rfl,rfl⟩:=kZ (cap:=[2]) (g:=aL 1 (eF (ao 0))) (bN W g)
  (fun j acc S=>acc=bN j (fun c=>na ns (g c))/\S=[z0,z2,some (.t (.lst (iD ns))),z3,z4,z5,z6,z7]) _ ⟨rfl,rfl⟩ (by
  rintro j d acc S hd ⟨rfl,rfl⟩
  have hj:j < W:=by
   have:=(List.getElem?_eq_some_iff.mp hd).1
   rwa [cR] at this
  unfold bN at hd
  rw[List.getElem?_map,List.getElem?_range hj] at hd
  have hd:D.int (g j:Nat)=d:=Option.some.inj hd
  subst hd
  have e:=kJ (ns:=ns) (s:=g j) (h j hj)
  refine⟨.int (na ns (g j):Nat),_,?_,?_,rfl⟩
  ·generalize ((g j:Nat):Int)=i at e ⊢
   generalize iD ns=l at e ⊢
   simp[aW,bL,fM,e,aK]
  ·unfold bN
   rw[List.range_succ,List.map_append]
   rfl)
 rw[e,cR]
section
variable {nt:D}{z1 z3 x6 x7:Option U}
theorem Iw {b:Bool}{kd rs os:List D}{kv kv':List (D×D)}{out:List D}{k:Int}{a v:D}{o:Option D}{ln:Nat}(h7:iE x7=false) (e1:cX kd k=some a) (e2:dz (.t nt) (.int k)=some (oO b rs)) (rl:rs.length<=1000)
  (e3:∀z7,aW [2] aO (aL 1 (eF (ao 0))) rs [some (.t nt),z1,some (.t (.lst kd)),z3,some (.m (.cS kv)),some (.m (.lst out)),some (.t (.int k)),z7] []=some (os,[some (.t nt),z1,some (.t (.lst kd)),z3,some (.m (.cS kv)),some (.m (.lst out)),some (.t (.int k)),z7]))
  (g:CP (.m (.cS kv)) (.tup [a,.tup os])=some o) (Zq:kv.length=ln) (w:ir (.cS kv) (.tup [a,.tup os]) (o.getD (.int (ln:Nat)))=some (.cS kv')) (r:dz (.m (.cS kv')) (.tup [a,.tup os])=some v) (ol:out.length < 1000):
  eU [some (.t nt),z1,some (.t (.lst kd)),z3,some (.m (.cS kv)),some (.m (.lst out)),some (.t (.int k)),x7]=some (.nx [some (.t nt),z1,some (.t (.lst kd)),z3,some (.m (.cS kv')),some (.m (.lst (out++[v]))),some (.t (.int k)),some (.t (.tup [a,.tup os]))]):=by
 have Xw:rs.length<=100000:=by omega
 have Zr:out.length < 100000:=by omega
 have ll:qy (.m (.cS kv))=some ln:=by rw[<-Zq];rfl
 have dc:yE (.m (.cS kv))=true:=rfl
 cases b <;> simp[-dO,cE,eU,e1,e2,oO,eB,bZ,Xw,e3,h7,By,dc,g,ll,w,r,Zr,jq,xC,hAppend]
end
theorem FF {acc:List D}{k:D}:∃r,wN acc k=acc++r:=by
 unfold wN
 split
 ·exact⟨[],by simp⟩
 ·exact⟨_,rfl⟩
section
variable {b:Bool}{m W:Nat}{f:Nat->Nat->Nat}{ns:List Nat}{z1 z3:Option U}
theorem Iz (hm : m <= 900) (hW : W < 900) (hf : ∀ s c, s < m -> c < W -> f s c < m) (hn : ns.length = m) {x6 x7 : Option U} (h6 : iE x6 = false) (h7 : iE x7 = false) :
    ∃z4 y6 y7,loop (bName 6) eU (mD 0 m) [some (.t (lY b m W f)),z1,some (.t (.lst (iD ns))),z3,some (.m (.cS [])),some (.m (.lst [])),x6,x7]=some (.nx [some (.t (lY b m W f)),z1,some (.t (.lst (iD ns))),z3,z4,some (.m (.lst (iD (jG m W f ns)))),y6,y7])/\iE z4=false/\iE y6=false/\iE y7=false:=by
  obtain⟨S',e,y6,y7,q6,q7,rfl⟩:=j5 (bd:=bName 6) (body:=eU) (mD 0 m)
    (fun j S=>∃y6 y7,iE y6=false/\iE y7=false/\S=[some (.t (lY b m W f)),z1,some (.t (.lst (iD ns))),z3,some (.m (.cS (ent 0 (iM [] ((List.range j).map (mw W f ns)))))),some (.m (.lst ((List.range j).map fun s=>D.int ((iM [] ((List.range j).map (mw W f ns))).idxOf (mw W f ns s):Nat)))),y6,y7])
    _ ⟨x6,x7,h6,h7,rfl⟩ (by
    rintro j d S hd ⟨y6,y7,q6,q7,rfl⟩
    obtain⟨hj,rfl⟩:=BH hd
    have nd:(iM [] ((List.range j).map (mw W f ns))).Nodup:=pB List.nodup_nil
    have dl:(iM [] ((List.range j).map (mw W f ns))).length<=j:=by
      have:=nd.length_le_of_subset (l₂:=(List.range j).map (mw W f ns)) fun v hv=>by
        rcases fP.mp hv with q | q
        . cases q
        . exact q
      rwa [List.length_map,List.length_range] at this
    have eD:iM [] ((List.range (j+1)).map (mw W f ns))=wN (iM [] ((List.range j).map (mw W f ns))) (mw W f ns j):=by
      rw[List.range_succ,List.map_append,wO]
      rfl
    obtain⟨o,g,w⟩:=FE nd (B6 W f ns j) (by omega)
    have r:=wK.rd (ent 0 (wN (iM [] ((List.range j).map (mw W f ns))) (mw W f ns j))) (mw W f ns j) (mw W f ns j) (B6 W f ns j)
    rw[fq (EN _ _)] at r
    have tn:=Iw (nt:=lY b m W f) (z1:=z1) (z3:=z3) (b:=b) (kd:=iD ns) (rs:=bN W (f j)) (os:=bN W fun c=>na ns (f j c)) (out:=(List.range j).map fun s=>D.int ((iM [] ((List.range j).map (mw W f ns))).idxOf (mw W f ns s):Nat)) (k:=(j:Nat)) q7 (kJ (by omega)) (J4 hj) (by rw[cR];omega) (fun z7=>kd_in W (f j) fun c hc=>by rw[hn];exact hf j c hj hc) g (jK _ _) w r (by rw[List.length_map,List.length_range];omega)
    refine⟨_,_,?_,tn,some (.t (.int (j:Nat))),some (.t (mw W f ns j)),rfl,rfl,?_⟩
    . generalize ((j:Nat):Int)=jj
      generalize ent 0 (iM [] ((List.range j).map (mw W f ns)))=kv
      generalize ((List.range j).map fun s=>D.int ((iM [] ((List.range j).map (mw W f ns))).idxOf (mw W f ns s):Nat))=ou
      generalize iD ns=ii
      generalize lY b m W f=nn
      simp[-dO,cE,q6]
    . rw[eD]
      have:((List.range j).map fun s=>D.int ((iM [] ((List.range j).map (mw W f ns))).idxOf (mw W f ns s):Nat))=(List.range j).map fun s=>D.int ((wN (iM [] ((List.range j).map (mw W f ns))) (mw W f ns j)).idxOf (mw W f ns s):Nat):=List.map_congr_left fun s hs=>by
        obtain⟨r,er⟩:=FF (acc:=iM [] ((List.range j).map (mw W f ns))) (k:=mw W f ns j)
        rw[er,List.idxOf_append,if_pos (fP.mpr (.inr (List.mem_map_of_mem hs)))]
      rw[this,List.range_succ,List.map_append]
      rfl)
  rw[Sq.kE] at e
  refine⟨some (.m (.cS (ent 0 (iM [] ((List.range m).map (mw W f ns)))))),y6,y7,Eq.trans e ?_,rfl,q6,q7⟩
  have:((List.range m).map fun s=>D.int ((iM [] ((List.range m).map (mw W f ns))).idxOf (mw W f ns s):Nat))=iD (jG m W f ns):=by
    unfold jG jJ iD
    rw[List.map_map,List.map_map]
    rfl
  rw[this]
noncomputable abbrev Uz:GT:=(qB (eF (eP MG (aa (eF (eP iJ (aa (eF (ao 2)) aq))) (aa (eF (ao 3)) aq)))))
theorem IA {nt:D}{kd:List D}{u2:U}{cn:Int}{k:Int}{z4 z5 z6 z7:Option U}(h2:u2= .m (.lst kd)\/u2= .t (.lst kd)) (e:iJ [.lst kd]=some (.t (.int cn))):
  Uz [some (.t nt),z1,some u2,some (.t (.int k)),z4,z5,z6,z7]=some (decide (k < cn),[some (.t nt),z1,some (.t (.lst kd)),some (.t (.int k)),z4,z5,z6,z7]):=by
 rcases h2 with rfl | rfl <;> simp[e]
theorem IB {nt:D}{kd Mg:List D}{cn:Int}{n:Nat}{x3 x4 x5 x6 x7 z4 y6 y7:Option U}(h3:iE x3=false) (h4:iE x4=false) (h5:iE x5=false) (e:iJ [.lst kd]=some (.t (.int cn))) (ln:qy (.t nt)=some n) (hn:n < 1000)
  (lp:loop (bName 6) eU (mD 0 n) [some (.t nt),z1,some (.t (.lst kd)),some (.t (.int cn)),some (.m (.cS [])),some (.m (.lst [])),x6,x7]=some (.nx [some (.t nt),z1,some (.t (.lst kd)),some (.t (.int cn)),z4,some (.m (.lst Mg)),y6,y7])):
  jf [some (.t nt),z1,some (.t (.lst kd)),x3,x4,x5,x6,x7]=some (.nx [some (.t nt),z1,some (.t (.lst Mg)),some (.t (.int cn)),z4,some (.t (.lst Mg)),y6,y7]):=by
 have g:iO (aa (d7 0) aq) [some (.t nt),z1,some (.t (.lst kd)),some (.t (.int cn)),some (.m (.cS [])),some (.m (.lst [])),x6,x7]=some (mD 0 n,[some (.t nt),z1,some (.t (.lst kd)),some (.t (.int cn)),some (.m (.cS [])),some (.m (.lst [])),x6,x7]):=by
  have e:(aa (d7 0) aq) [some (.t nt),z1,some (.t (.lst kd)),some (.t (.int cn)),some (.m (.cS [])),some (.m (.lst [])),x6,x7]=some ([.int (n:Nat)],[some (.t nt),z1,some (.t (.lst kd)),some (.t (.int cn)),some (.m (.cS [])),some (.m (.lst [])),x6,x7]):=by simp[ln]
  have hb:n < 1000000:=by omega
  rw[Sq.qF e (Int.ofNat_lt.mpr hb) (Sq.Az _),Int.toNat_natCast]
 have s0:Uw [some (.t nt),z1,some (.t (.lst kd)),x3,x4,x5,x6,x7]=some (.nx [some (.t nt),z1,some (.t (.lst kd)),some (.t (.int cn)),x4,x5,x6,x7]):=by simp[-dO,cE,Uw,e,h3]
 have s1:kb1 [some (.t nt),z1,some (.t (.lst kd)),some (.t (.int cn)),x4,x5,x6,x7]=some (.nx [some (.t nt),z1,some (.t (.lst kd)),some (.t (.int cn)),some (.m (.cS [])),x5,x6,x7]):=by simp[-dO,cE,kb1,h4]
 have s2:kb2 [some (.t nt),z1,some (.t (.lst kd)),some (.t (.int cn)),some (.m (.cS [])),x5,x6,x7]=some (.nx [some (.t nt),z1,some (.t (.lst kd)),some (.t (.int cn)),some (.m (.cS [])),some (.m (.lst [])),x6,x7]):=by simp[-dO,cE,kb2,h5]
 have s3:Ux [some (.t nt),z1,some (.t (.lst kd)),some (.t (.int cn)),some (.m (.cS [])),some (.m (.lst [])),x6,x7]=some (.nx [some (.t nt),z1,some (.t (.lst kd)),some (.t (.int cn)),z4,some (.m (.lst Mg)),y6,y7]):=by
  unfold Ux
  rw[wF,g]
  exact lp
 have s4:Uy [some (.t nt),z1,some (.t (.lst kd)),some (.t (.int cn)),z4,some (.m (.lst Mg)),y6,y7]=some (.nx [some (.t nt),z1,some (.t (.lst Mg)),some (.t (.int cn)),z4,some (.t (.lst Mg)),y6,y7]):=by simp[-dO,cE,Uy]
 rw[kb_eq,Sq.bw s0,Sq.bw s1,Sq.bw s2,Sq.bw s3,s4]
end
section
variable {b:Bool}{m W:Nat}{f:Nat->Nat->Nat}{wd:Nat->D}{z1:Option U}
theorem B8 (h0 : 0 < m) (hm : m <= 900) (hW : W < 900) (hf : ∀ s c, s < m -> c < W -> f s c < m) :
    ∀(q:Nat) (ns:List Nat) (cn:Nat) (u2:U) (x4 x5 x6 x7:Option U),Kd m W f wd ns->m < cn+q->cn<=m->(cn=0\/∃n0,Kd m W f wd n0/\cnt n0=cn/\ns=jG m W f n0)->(u2= .m (.lst (iD ns))\/u2= .t (.lst (iD ns)))->iE x4=false->iE x5=false->iE x6=false->iE x7=false->
    ∃ns' z3 z4 z5 z6 z7,iH Uz jf q [some (.t (lY b m W f)),z1,some u2,some (.t (.int cn)),x4,x5,x6,x7]=some (.nx [some (.t (lY b m W f)),z1,some (.t (.lst (iD ns'))),z3,z4,z5,z6,z7])/\Kd m W f wd ns'/\E3 m W f ns'
  | 0,ns,cn,u2,x4,x5,x6,x7,P,hq,hc,_,_,_,_,_,_=>by omega
  | q + 1, ns, cn, u2, x4, x5, x6, x7, P, hq, hc, pr, h2, h4, h5, h6, h7 => by
    have zc:=P.len
    have TZ:=Mf ns
    have cpos:=Iv (ns:=ns) (by omega)
    have es:=AH ns (by omega)
    have cd:=IA (nt:=lY b m W f) (z1:=z1) (k:=cn) (z4:=x4) (z5:=x5) (z6:=x6) (z7:=x7) h2 es
    have e1:decide ((cn:Int) < (cnt ns:Nat))=decide (cn < cnt ns):=decide_eq_decide.mpr ⟨fun h=>by omega,fun h=>by omega⟩
    rw[e1] at cd
    unfold iH
    rw[show Uz _=_ from cd,Option.bind_some]
    by_cases h:cn < cnt ns
    . rw[decide_eq_true h]
      simp only[if_true]
      obtain⟨z4,y6,y7,lp,q4,q6,q7⟩:=Iz (b:=b) (z1:=z1) (z3:=some (.t (.int (cnt ns:Nat)))) hm hW hf zc h6 h7
      have tn:=IB (x3:=some (.t (.int cn))) (x4:=x4) (x5:=x5) rfl h4 h5 es Mb (by omega) lp
      rw[tn,Option.bind_some]
      exact B8 h0 hm hW hf q (jG m W f ns) (cnt ns) _ _ _ _ _ (P.next hf) (by omega) (by omega) (.inr ⟨ns,P,rfl,rfl⟩) (.inr rfl) q4 rfl q6 q7
    . rw[decide_eq_false h]
      refine⟨ns,_,_,_,_,_,rfl,P,?_⟩
      rcases pr with rfl | ⟨n0,P0,ec,rfl⟩
      . omega
      . intro s t col hs ht pC e
        exact AJ P0.len (by omega) (hf s col hs pC) (hf t col ht pC) (((qg hs ht).mp e).2 col pC)
noncomputable def J5 (d:D):Nat:=if bo d then 1 else 0
theorem zh {z0 z1 z2 z3 z4 z5 z6 z7:Option U}:∀(ws acc:List D),(∀w∈ws,∃b,w=D.bl b)->aW [] aO (eF (eP CH (aa (eF (ao 0)) aq))) ws [z0,z1,z2,z3,z4,z5,z6,z7] acc=some (acc++iD (ws.map J5),[z0,z1,z2,z3,z4,z5,z6,z7])
  | [],acc,_=>by simp[aW,iD]
  | w :: ws, acc, h => by
    obtain⟨b,rfl⟩:=h w List.mem_cons_self
    have e:aW [] aO (eF (eP CH (aa (eF (ao 0)) aq))) [.bl b] [z0,z1,z2,z3,z4,z5,z6,z7] acc=some (acc++[.int (J5 (.bl b):Nat)],[z0,z1,z2,z3,z4,z5,z6,z7]):=by
      cases b <;> simp[aW,bL,aK,J5,bo]
    rw[Sq.fO,e,Option.bind_some,zh ws _ fun x hx=>h x (List.mem_cons_of_mem _ hx)]
    simp[iD]
theorem kinds_ok (A:Mc W m f wd) (hW:W < 900):∃ns,nv [.t (lY b m W f),.t (.lst ((List.range m).map wd))]=some (.t (.lst (iD ns)),[])/\Kd m W f wd ns/\E3 m W f ns:=by
 have few:=A.few
 have hw:∀w∈(List.range m).map wd,∃b,w=D.bl b:=fun w hw=>by
  obtain⟨s,hs,rfl⟩:=List.mem_map.mp hw
  exact A.bl s (List.mem_range.mp hs)
 have get:∀i,i < m->na (((List.range m).map wd).map J5) i=J5 (wd i):=fun i hi=>by
  unfold na
  rw[List.getD_eq_getElem?_getD,List.getElem?_map,List.getElem?_map,List.getElem?_range hi]
  rfl
 have P0:Kd m W f wd (((List.range m).map wd).map J5):=by
  refine⟨by rw[List.length_map,List.length_map,List.length_range],fun s t hs ht e=>?_,fun s t hs ht ne=>⟨[],fun c hc=>(by cases hc),fun z=>ne ?_⟩⟩
  ·rw[get s hs,get t ht] at e
   rw[A.bo hs,A.bo ht]
   unfold J5 at e
   cases h1:So.bo (wd s) <;> cases h2:So.bo (wd t) <;> rw[h1,h2] at e <;> first | rfl | (simp at e)
  ·rw[get s hs,get t ht,show wd s=wd t from z]
 obtain⟨ns,z3,z4,z5,z6,z7,e,P,st⟩:=B8 (b:=b) (z1:=some (.t (.lst ((List.range m).map wd)))) A.pos (by omega) hW A.lt 100000 _ 0 _ none none none none P0 (by omega) (Nat.zero_le _) (.inl rfl) (.inl rfl) rfl rfl rfl rfl
 refine⟨ns,?_,P,st⟩
 have ec:=fun z0 z2 z3 z4 z5 z6 z7=>zh (z0:=z0) (z1:=some (.t (.lst ((List.range m).map wd)))) (z2:=z2) (z3:=z3) (z4:=z4) (z5:=z5) (z6:=z6) (z7:=z7) ((List.range m).map wd) [] hw
 have wl:((List.range m).map wd).length<=100000:=by rw[List.length_map,List.length_range];omega
 have all:∃a b' S,gG [some (.t (lY b m W f)),some (.t (.lst ((List.range m).map wd))),none,none,none,none,none,none]=some (.rt (.t (.lst (iD ns))) (some (.t a) :: some (.t b') :: S)):=by
  unfold gG
  generalize iD (((List.range m).map wd).map J5)=i0 at *
  generalize (List.range m).map wd=ws at *
  generalize lY b m W f=nt at *
  rw[Sq.bw (S1:=[some (.t nt),some (.t (.lst ws)),some (.m (.lst i0)),none,none,none,none,none]) (by simp[eB,bZ,wl,ec]),
   Sq.bw (S1:=[some (.t nt),some (.t (.lst ws)),some (.m (.lst i0)),some (.t (.int ((0:Nat):Int))),none,none,none,none]) rfl,Sq.bw (show iR 100000 _ _ _=_ from e)]
  generalize iD ns=l
  exact⟨_,_,_,by simp;exact⟨rfl,rfl,rfl⟩⟩
 obtain⟨a,b',S,all⟩:=all
 exact nh (S:=some (.t a) :: some (.t b') :: S) all rfl
end
noncomputable abbrev Gx (ns L:List Nat):MO:=.dct (ent 0 (kL (L.map (na ns))))
noncomputable def cY (cC:FM):GS:=
 (aR (uz (qB (lR true 4 (aL 2 (eF (ao 7))))) (aR (pX 4 (aL 2 (eF (ao 7))) (d7 3))
 (jo (eT (eM 3 hAppend (aa (eF (ao 7)) aq))))) kI)
 (jo (eT (eM 6 hAppend (aa (aL 4 (aL 2 (eF (ao 7)))) aq)))))
noncomputable def jg (cC:FM):GS:=
 (aR (bz 6 (eP gW aq))
 (aR (jX (bName 7) (cU (aL 0 (aL 3 (d7 5)))) (cY cC))
 (jo (eT (eM 5 hAppend (aa (eF (eP cu (aa (eF (ao 6)) aq))) aq))))))
noncomputable def gH (cC:FM):GS:=
 (aR (bz 2 (bA cC (bg (eF (ao 0)) (bg (eF (ao 1)) bX))))
 (aR (bz 3 (eP gW (aa (eC (.int 0)) aq)))
 (aR (bz 4 (As (aL 2 (eC (.int 0))) (eC (.int 0))))
 (aR (bz 5 (eP gW aq))
 (aR (iR 100000 (qB (eF (eP Ad (aa (d7 5) (aa (d7 3) aq))))) (jg cC))
 (ff (eP fE (aa (eF (eP cu (aa (eF (ao 5)) aq))) (aa (eF (eP cu (aa (eF (bO [1] (cU (eF (ao 3))) aO (aL 1 (eF (ao 0))))) aq))) aq)))))))))
noncomputable def NW (cC:FM):GS:=
 (jX (bName 7) (cU (aL 0 (aL 3 (d7 5)))) (cY cC))
noncomputable def SV (cC:FM):GS:=
 (jo (eT (eM 5 hAppend (aa (eF (eP cu (aa (eF (ao 6)) aq))) aq))))
noncomputable def oG:FM:=bG 8 (gH nv)
theorem IC:∀us r,oG us=some r->bG 8 (gH nv) us=some r:=fun _ _ h=>h
section
variable {fk:FM}{z0 z1 z5:Option U}{ns L:List Nat}{v:Nat}{row:List D}
noncomputable def uC (ns L:List Nat) (v:Nat):List Nat:=if na ns v∈L.map (na ns) then L else L++[v]
theorem ID (ns L:List Nat) (v:Nat):na ns v∈(uC ns L v).map (na ns):=by
 unfold uC
 split
 ·assumption
 ·rw[List.map_append];simp
theorem IE (hv:v < ns.length) (hl:L.length < 1000) (hr:row.length < 1000):
  cY fk [z0,z1,some (.t (.lst (iD ns))),some (.m (.lst (iD L))),some (.m (Gx ns L)),z5,some (.m (.lst row)),some (.t (.int (v:Nat)))]=some (.nx [z0,z1,some (.t (.lst (iD ns))),some (.m (.lst (iD (uC ns L v)))),some (.m (Gx ns (uC ns L v))),z5,some (.m (.lst (row++[.int (((uC ns L v).map (na ns)).idxOf (na ns v):Nat)]))),some (.t (.int (v:Nat)))]):=by
 have e1:=kJ (ns:=ns) (s:=v) hv
 have ko:keyOf (.int (na ns v:Nat))=some (Sum.inl ((na ns v:Nat):Int)):=rfl
 have h1:=yQ.has (ent 0 (kL (L.map (na ns)))) (.int (na ns v:Nat)) (Sum.inl ((na ns v:Nat):Int)) ko
 have r2:=yQ.rd (ent 0 (kL ((uC ns L v).map (na ns)))) (.int (na ns v:Nat)) (Sum.inl ((na ns v:Nat):Int)) ko
 rw[fq (qI.mpr (ID ns L v))] at r2
 unfold kL at r2
 rw[idx_map (κ:=Key) (fun v:Nat=>(Sum.inl (v:Int):Key)) (fun a b z=>by injection z with z;omega)] at r2
 have r2:dz (.m (.dct (ent 0 (kL ((uC ns L v).map (na ns)))))) (.int (na ns v:Nat))=some (.int (((uC ns L v).map (na ns)).idxOf (na ns v):Nat)):=r2
 have rz:row.length < 100000:=by omega
 unfold Gx
 by_cases m:na ns v∈L.map (na ns)
 ·rw[fq (qI.mpr m)] at h1
  have e:uC ns L v=L:=if_pos m
  rw[e] at r2 ⊢
  generalize ((na ns v:Nat):Int)=a at *
  generalize ((v:Nat):Int)=i at *
  generalize iD ns=kd at *
  generalize iD L=ld at *
  simp[cY,lR,e1,h1,r2,rz,jq,xC,hAppend]
 ·rw[gn 0 (fun z=>m (qI.mp z))] at h1
  have kl:(kL (L.map (na ns))).length=L.length:=by unfold kL;rw[List.length_map,List.length_map]
  have w:=yQ.wr (ent 0 (kL (L.map (na ns)))) (.int (na ns v:Nat)) (Sum.inl ((na ns v:Nat):Int)) (.int ((kL (L.map (na ns))).length:Nat)) ko (by rw[jK,kl];omega)
  rw[nU (fun z=>m (qI.mp z)),kl] at w
  have e:uC ns L v=L++[v]:=if_neg m
  have ek:kL ((uC ns L v).map (na ns))=kL (L.map (na ns))++[Sum.inl ((na ns v:Nat):Int)]:=by rw[e];unfold kL;simp
  have el:iD (uC ns L v)=iD L++[.int (v:Nat)]:=by rw[e,BR]
  have il:(iD L).length=L.length:=by unfold iD;rw[List.length_map]
  have ln:qy (.m (.lst (iD L)))=some L.length:=by rw[<-il];rfl
  have lz:(iD L).length < 100000:=by omega
  have Zs:L.length < 100000:=by omega
  rw[ek] at r2 ⊢
  rw[el]
  generalize ((uC ns L v).map (na ns)).idxOf (na ns v)=ii at *
  generalize ((na ns v:Nat):Int)=a at *
  generalize ((v:Nat):Int)=i at *
  generalize iD ns=kd at *
  generalize iD L=ld at *
  generalize ent 0 (kL (L.map (na ns)))=kv at *
  generalize ent 0 (kL (L.map (na ns))++[Sum.inl a])=kv' at *
  simp[cY,lR,e1,h1,w,r2,rz,lz,Zs,ln,il,jq,xC,hAppend]
end
section
variable {fk:FM}{W m:Nat}{f:Nat->Nat->Nat}{wd:Nat->D}{ns:List Nat}{z0 z1 z5:Option U}
theorem FG {L E:List Nat}{v:Nat}(h:na ns v∈L.map (na ns)):ix (na ns) (L++E) v=ix (na ns) L v:=by
 unfold ix
 rw[List.map_append,List.idxOf_append,if_pos h]
theorem FH {L E:List Nat}{s:Nat}(h:s < L.length):na (L++E) s=na L s:=by
 unfold na
 rw[List.getD_eq_getElem?_getD,List.getD_eq_getElem?_getD,List.getElem?_append_left h]
theorem B9 {L:List Nat}{a col:Nat}(h:Bf f (na ns) W L a col) (hL:∀v∈L,v < m):L.length<=m:=qH (by
 have:=h.nd
 unfold List.Nodup at this ⊢
 rw[List.pairwise_map] at this
 exact this.imp fun h e=>h (by rw[e])) hL
theorem Mh (hm : m <= 300) (hW : W < 900) (hf : ∀ s c, s < m -> c < W -> f s c < m) (hn : ns.length = m) {L : List Nat} {a u : Nat} {x7 : Option U} (h : Bf f (na ns) W L a 0) (hL : ∀ v ∈ L, v < m) (hu : L[a]? = some u) (h7 : iE x7 = false) :
    ∃L' mH,loop (bName 7) (cY fk) (bN W (f u)) [z0,z1,some (.t (.lst (iD ns))),some (.m (.lst (iD L))),some (.m (Gx ns L)),z5,some (.m (.lst [])),x7]=some (.nx [z0,z1,some (.t (.lst (iD ns))),some (.m (.lst (iD L'))),some (.m (Gx ns L')),z5,some (.m (.lst (bN W (ni f (na ns) L' a)))),mH])/\Bf f (na ns) W L' a W/\(∀v∈L',v < m)/\iE mH=false/\(∃E,L'=L++E):=by
  have un:u < m:=hL u (List.mem_of_getElem? hu)
  obtain⟨S',e,L',mH,b1,b2,b4,b5,b6,rfl⟩:=j5 (bd:=bName 7) (body:=cY fk) (bN W (f u))
    (fun j S=>∃L' mH,Bf f (na ns) W L' a j/\(∀v∈L',v < m)/\iE mH=false/\(∃E,L'=L++E)/\j<=W/\S=[z0,z1,some (.t (.lst (iD ns))),some (.m (.lst (iD L'))),some (.m (Gx ns L')),z5,some (.m (.lst (bN j fun c=>ix (na ns) L' (f u c)))),mH])
    _ ⟨L,x7,h,hL,h7,⟨[],by simp⟩,Nat.zero_le _,rfl⟩ (by
    rintro j d S hd ⟨L',mH,b1,b2,b4,⟨E,b5⟩,b6,rfl⟩
    have hj:j < W:=by
      have:=(List.getElem?_eq_some_iff.mp hd).1
      rwa [cR] at this
    unfold bN at hd
    rw[List.getElem?_map,List.getElem?_range hj] at hd
    have hd:D.int (f u j:Nat)=d:=Option.some.inj hd
    subst hd
    have lf:=B9 b1 b2
    have UA:L'[a]? =some u:=by rw[b5,List.getElem?_append_left (List.getElem?_eq_some_iff.mp hu).1];exact hu
    have tn:=IE (fk:=fk) (z0:=z0) (z1:=z1) (z5:=z5) (ns:=ns) (L:=L') (v:=f u j) (row:=bN j fun c=>ix (na ns) L' (f u c)) (by rw[hn];exact hf u j un hj) (by omega) (by rw[cR];omega)
    have seen:∀c,c < j->na ns (f u c)∈L'.map (na ns):=fun c hc=>b1.seen a c u (by omega) (by unfold Er;omega) UA
    have gr:∃E2,uC ns L' (f u j)=L'++E2:=by
      unfold uC
      split
      . exact⟨[],by simp⟩
      . exact⟨_,rfl⟩
    obtain⟨E2,eE⟩:=gr
    refine⟨[z0,z1,some (.t (.lst (iD ns))),some (.m (.lst (iD L'))),some (.m (Gx ns L')),z5,some (.m (.lst (bN j fun c=>ix (na ns) L' (f u c)))),some (.t (.int (f u j:Nat)))],_,?_,tn,uC ns L' (f u j),some (.t (.int (f u j:Nat))),?_,?_,rfl,⟨E++E2,by rw[eE,b5,List.append_assoc]⟩,hj,?_⟩
    . generalize ((f u j:Nat):Int)=jj
      generalize iD L'=ld
      generalize iD ns=kd
      generalize (bN j fun c=>ix (na ns) L' (f u c))=rr
      simp[-dO,cE,b4]
    . by_cases mm:na ns (f u j)∈L'.map (na ns)
      . rw[show uC ns L' (f u j)=L' from if_pos mm];exact b1.skip UA mm
      . rw[show uC ns L' (f u j)=L'++[f u j] from if_neg mm];exact b1.add UA hj mm
    . intro v hv
      unfold uC at hv
      split at hv
      . exact b2 v hv
      . rcases List.mem_append.mp hv with q | q
        . exact b2 v q
        . rw[List.mem_singleton.mp q];exact hf u j un hj
    . have:(bN j fun c=>ix (na ns) L' (f u c))=bN j fun c=>ix (na ns) (uC ns L' (f u j)) (f u c):=by
        unfold bN
        exact List.map_congr_left fun c hc=>by
          show D.int ((ix (na ns) L' (f u c):Nat):Int)=D.int ((ix (na ns) (uC ns L' (f u j)) (f u c):Nat):Int)
          rw[eE,FG (seen c (List.mem_range.mp hc))]
      rw[this]
      unfold bN
      rw[List.range_succ,List.map_append]
      rfl)
  rw[cR] at b1
  obtain⟨E,eE⟩:=b5
  have un':na L' a=u:=by
    have al:=(List.getElem?_eq_some_iff.mp hu).1
    rw[eE,FH al]
    have:=bU al
    rw[hu] at this
    exact(Option.some.inj this).symm
  refine⟨L',mH,Eq.trans e ?_,b1,b2,b4,⟨E,eE⟩⟩
  rw[cR]
  have:(bN W fun c=>ix (na ns) L' (f u c))=bN W (ni f (na ns) L' a):=by
    unfold ni
    rw[un']
  rw[this]
theorem le_step {nt:D}{b:Bool}{kd ld XM rs r:List D}{o o':MO}{rw:List D}{a u:Nat}{x6 x7 mH:Option U}(ra:rs.length=a) (ha:a < 1000) (hu:cX ld (a:Int)=some (.int (u:Nat))) (h1:dz (.t nt) (.int (u:Nat))=some (oO b r)) (h6:iE x6=false)
  (lp:loop (bName 7) (cY fk) r [some (.t nt),z1,some (.t (.lst kd)),some (.m (.lst ld)),some (.m o),some (.m (.lst rs)),some (.m (.lst [])),x7]=some (.nx [some (.t nt),z1,some (.t (.lst kd)),some (.m (.lst XM)),some (.m o'),some (.m (.lst rs)),some (.m (.lst rw)),mH])):
  jg fk [some (.t nt),z1,some (.t (.lst kd)),some (.m (.lst ld)),some (.m o),some (.m (.lst rs)),x6,x7]=some (.nx [some (.t nt),z1,some (.t (.lst kd)),some (.m (.lst XM)),some (.m o'),some (.m (.lst (rs++[.tup rw]))),some (.t (.lst rw)),mH]):=by
 have hu:cX ld (rs.length:Int)=some (.int (u:Nat)):=by rw[ra];exact hu
 have rz:rs.length < 100000:=by omega
 generalize ((u:Nat):Int)=uu at *
 cases b <;> simp[-dO,cE,jg,hu,h1,oO,h6,eB,lp,rz,jq,xC,hAppend]
noncomputable abbrev leQ:GT:=(qB (eF (eP Ad (aa (d7 5) (aa (d7 3) aq)))))
theorem IF {nt:D}{kd ld rs:List D}{o:MO}{x6 x7:Option U}:leQ [some (.t nt),z1,some (.t (.lst kd)),some (.m (.lst ld)),some (.m o),some (.m (.lst rs)),x6,x7]=some (decide (rs.length < ld.length),[some (.t nt),z1,some (.t (.lst kd)),some (.m (.lst ld)),some (.m o),some (.m (.lst rs)),x6,x7]):=by
 simp
theorem FI {L E:List Nat}{a:Nat}(h:Bf f (na ns) W L a 0) (ha:a<=L.length):aF a W (ni f (na ns) (L++E))=aF a W (ni f (na ns) L):=qd fun s c hs hc=>by
 unfold ni
 rw[FH (by omega),FG (h.seen s c _ hc (by unfold Er;omega) (bU (by omega)))]
theorem Ca {b:Bool}(hm:m<=300) (hW:W < 900) (hf:∀s c,s < m->c < W->f s c < m) (hn:ns.length=m):
  ∀(fu a:Nat) (L:List Nat) (x6 x7:Option U),m < a+fu->a<=L.length->Bf f (na ns) W L a 0->(∀v∈L,v < m)->iE x6=false->iE x7=false->
  ∃L' z4 z6 z7,iH leQ (jg fk) fu [some (.t (lY b m W f)),z1,some (.t (.lst (iD ns))),some (.m (.lst (iD L))),some (.m (Gx ns L)),some (.m (.lst (aF a W (ni f (na ns) L)))),x6,x7]=some (.nx [some (.t (lY b m W f)),z1,some (.t (.lst (iD ns))),some (.m (.lst (iD L'))),z4,some (.m (.lst (aF L'.length W (ni f (na ns) L')))),z6,z7])/\(∀v∈L',v < m)/\Bf f (na ns) W L' L'.length 0
 | 0,a,L,x6,x7,hq,ha,h,hL,h6,h7=>by
  have:=B9 h hL
  omega
 | fu+1,a,L,x6,x7,hq,ha,h,hL,h6,h7=>by
  have few:=B9 h hL
  have il:(iD L).length=L.length:=by unfold iD;rw[List.length_map]
  unfold iH
  rw[show leQ _=_ from IF,Option.bind_some,lu,il]
  by_cases c:a < L.length
  ·rw[decide_eq_true c]
   simp only[if_true]
   have hu:=bU c
   have un:na L a < m:=hL _ (cV c)
   obtain⟨L',mH,e,b1,b2,b4,⟨E,eE⟩⟩:=Mh (fk:=fk) (z0:=some (.t (lY b m W f))) (z1:=z1) (z5:=some (.m (.lst (aF a W (ni f (na ns) L))))) hm hW hf hn h hL hu h7
   have tn:=le_step (fk:=fk) (x6:=x6) (lu a W _) (by omega) (kJ c) (J4 un) h6 e
   rw[tn,Option.bind_some]
   have rg:aF a W (ni f (na ns) L)=aF a W (ni f (na ns) L'):=by rw[eE,FI h ha]
   show ∃L'' z4 z6 z7,iH _ _ fu _=_/\_
   rw[rg,uc]
   exact Ca hm hW hf hn fu (a+1) L' _ mH (by omega) (by rw[eE,List.length_append];omega) b1.row b2 rfl b4
  ·rw[decide_eq_false c]
   have:a=L.length:=by omega
   subst this
   exact⟨L,_,x6,x7,rfl,hL,h⟩
end
theorem FJ {b : Bool} {W m : Nat} {f : Nat -> Nat -> Nat} {wd : Nat -> D} (A : Mc W m f wd) (hW : W < 900) :
    ∃n' nx' jL,oG [.t (lY b m W f),.t (.lst ((List.range m).map wd))]=some (.t (mT n' W nx' jL),[])/\Canon W n' nx' jL/\(∀cs,Vd W cs->jL (led nx' cs 0)=wd (led f cs 0))/\Mc W n' nx' jL:=by
  have few:=A.few
  obtain⟨ns,e1,K,st⟩:=kinds_ok (b:=b) A hW
  have nl:=K.len
  obtain⟨L,z4,z6,z7,e2,hL,hB⟩:=Ca (fk:=nv) (z1:=some (.t (.lst ((List.range m).map wd)))) (b:=b) A.few hW A.lt nl 100000 0 [0] none none (by omega) (by decide) BN (fun v hv=>by rw[List.mem_singleton.mp hv];exact A.pos) rfl rfl
  have C:LK f wd (na ns) W (fun s=>s < m):=⟨A.pos,fun s c hs hc=>A.lt s c hs hc,fun s t c hs ht hc e=>st s t c hs ht hc e,fun s t hs ht e=>K.word s t hs ht e,fun s t hs ht ne=>K.ne s t hs ht ne⟩
  obtain⟨cn,bh⟩:=canon_of C hB (Nat.le_refl _) hL
  have lf:=B9 hB hL
  refine⟨L.length,ni f (na ns) L,fun s=>wd (na L s),?_,cn,bh,⟨cn.pos,by omega,cn.lt,fun s hs=>A.bl _ (hL _ (cV hs))⟩⟩
  have i0:cX (iD ns) 0=some (.int (na ns 0:Nat)):=kJ (s:=0) (by have:=A.pos;omega)
  have ec:∀z0 z2 z3 z4 z5 z6 z7,aW [1] aO (aL 1 (eF (ao 0))) (iD L) [z0,some (.t (.lst ((List.range m).map wd))),z2,z3,z4,z5,z6,z7] []=some ((List.range L.length).map fun s=>wd (na L s),[z0,some (.t (.lst ((List.range m).map wd))),z2,z3,z4,z5,z6,z7]):=by
    intro z0 z2 z3 z4 z5 z6 z7
    obtain⟨acc,S',e,rfl,rfl⟩:=kZ (cap:=[1]) (g:=aL 1 (eF (ao 0))) (iD L)
      (fun j acc S=>acc=(List.range j).map (fun s=>wd (na L s))/\S=[z0,some (.t (.lst ((List.range m).map wd))),z2,z3,z4,z5,z6,z7]) _ ⟨rfl,rfl⟩ (by
      rintro j d acc S hd ⟨rfl,rfl⟩
      have hj:j < L.length:=by
        have:=(List.getElem?_eq_some_iff.mp hd).1
        unfold iD at this
        rwa [List.length_map] at this
      unfold iD at hd
      rw[List.getElem?_map,bU hj] at hd
      have hd:D.int (na L j:Nat)=d:=Option.some.inj hd
      subst hd
      have w:=nq (w:=wd) (hL _ (cV hj))
      refine⟨wd (na L j),_,?_,?_,rfl⟩
      . generalize ((na L j:Nat):Int)=i at w ⊢
        generalize (List.range m).map wd=ws at w ⊢
        simp[aW,bL,fM,w,aK]
      . rw[List.range_succ,List.map_append]
        rfl)
    rw[e]
    unfold iD
    rw[List.length_map]
  have il:(iD L).length<=100000:=by unfold iD;rw[List.length_map];omega
  have all:∃a b' S,gH nv [some (.t (lY b m W f)),some (.t (.lst ((List.range m).map wd))),none,none,none,none,none,none]=some (.rt (.t (.tup [.tup (aF L.length W (ni f (na ns) L)),.tup ((List.range L.length).map fun s=>wd (na L s))])) (some (.t a) :: some (.t b') :: S)):=by
    unfold gH
    generalize (List.range L.length).map (fun s=>wd (na L s))=ww at *
    generalize (List.range m).map wd=ws at *
    generalize lY b m W f=nt at *
    rw[Sq.bw (S1:=[some (.t nt),some (.t (.lst ws)),some (.t (.lst (iD ns))),none,none,none,none,none]) (by
        generalize nv=g at e1
        simp[e1]),
      Sq.bw (S1:=[some (.t nt),some (.t (.lst ws)),some (.t (.lst (iD ns))),some (.m (.lst (iD [0]))),none,none,none,none]) rfl,
      Sq.bw (S1:=[some (.t nt),some (.t (.lst ws)),some (.t (.lst (iD ns))),some (.m (.lst (iD [0]))),some (.m (Gx ns [0])),none,none,none]) (by
        generalize iD ns=kd at *
        simp[i0,keyOf]
        rfl),
      Sq.bw (S1:=[some (.t nt),some (.t (.lst ws)),some (.t (.lst (iD ns))),some (.m (.lst (iD [0]))),some (.m (Gx ns [0])),some (.m (.lst (aF 0 W (ni f (na ns) [0])))),none,none]) rfl,Sq.bw (show iR 100000 _ _ _=_ from e2)]
    generalize aF L.length W (ni f (na ns) L)=rr
    generalize iD L=ld at *
    exact⟨_,_,_,by simp[eB,bZ,il,ec];exact⟨rfl,rfl,rfl⟩⟩
  obtain⟨a,b',S,all⟩:=all
  exact nh (S:=some (.t a) :: some (.t b') :: S) all rfl
noncomputable def oq:GS:=
 (aR (uz (qB (eF (eP xD (aa (eF (ao 0)) (aa (eC (.str "unlike")) aq))))) (ff (eP Od (aa (eF (ao 1)) (aa (eF (ao 2)) aq)))) kI)
 (aR (uz (qB (eF (eP xD (aa (eF (ao 0)) (aa (eC (.str "either")) aq))))) (ff (eT (eQ (P8 (qB (eF (ao 1))) (qB (eF (ao 2))))))) kI)
 (ff (eT (eQ (yg (qB (eF (ao 1))) (qB (eF (eP xD (aa (eF (ao 2)) (aa (eF (eP xD (aa (eF (ao 0)) (aa (eC (.str "both")) aq)))) aq)))))))))))
noncomputable def AK:FM:=bG 3 oq
theorem IG:∀us r,AK us=some r->bG 3 oq us=some r:=fun _ _ h=>h
theorem Mi (o:Op) (a b:Bool):AK [.t (.str o.s),.t (.bl a),.t (.bl b)]=some (.t (.bl (o.b a b)),[]):=by
 cases o <;> cases a <;> cases b <;> rfl
noncomputable def cZ:GS:=
 (aR (uz (qB (lR true 3 (eF (ao 8)))) (aR (pX 3 (eF (ao 8)) (d7 2))
 (jo (eT (eM 2 hAppend (aa (eF (ao 8)) aq))))) kI)
 (jo (eT (eM 5 hAppend (aa (aL 3 (eF (ao 8))) aq)))))
noncomputable def jh:GS:=
 (aR (bz 5 (eP gW aq))
 (aR (Eb (oE 2 (eZ (bName 6) (eZ (bName 7) o7))) (aL 2 (d7 4)))
 (aR (jX (bName 8) (tG (aa (eF (eP sY (aa (aL 0 (eC (.int 0))) (aa (eF (ao 6)) aq)))) (aa (eF (eP sY (aa (aL 1 (eC (.int 0))) (aa (eF (ao 7)) aq)))) aq))) (cZ))
 (jo (eT (eM 4 hAppend (aa (eF (ao 5)) aq)))))))
noncomputable def gI:GS:=
 (aR (bz 2 (eP gW (aa (eF (eP fE (aa (eC (.int 0)) (aa (eC (.int 0)) aq)))) aq)))
 (aR (bz 3 (tK (eF (eP fE (aa (eC (.int 0)) (aa (eC (.int 0)) aq)))) (eC (.int 0))))
 (aR (bz 4 (eP gW aq))
 (aR (iR 100000 (qB (eF (eP Ad (aa (d7 4) (aa (d7 2) aq))))) (jh))
 (ff (eP fE (aa (eF (ao 2)) (aa (eF (ao 4)) aq))))))))
noncomputable def UB:GS:=
 (bz 5 (eP gW aq))
noncomputable def UC:GS:=
 (Eb (oE 2 (eZ (bName 6) (eZ (bName 7) o7))) (aL 2 (d7 4)))
noncomputable def UD:GS:=
 (jX (bName 8) (tG (aa (eF (eP sY (aa (aL 0 (eC (.int 0))) (aa (eF (ao 6)) aq)))) (aa (eF (eP sY (aa (aL 1 (eC (.int 0))) (aa (eF (ao 7)) aq)))) aq))) (cZ))
noncomputable def UE:GS:=
 (jo (eT (eM 4 hAppend (aa (eF (ao 5)) aq))))
theorem Pn:jh=aR (UB) (aR (UC) (aR (UD) (UE))):=rfl
noncomputable def qL:FM:=bG 9 gI
theorem Dd:∀us r,qL us=some r->bG 9 gI us=some r:=fun _ _ h=>h
section
variable {z0 z1 z4 z6 z7:Option U}{P:List (Nat×Nat)}{q:Nat×Nat}{ld:List D}
theorem II (hl:P.length < 1000) (hb:ld.length < 1000):
  cZ [z0,z1,some (.m (.lst (P.map bE))),some (.m (.cS (ent 0 (P.map bE)))),z4,some (.m (.lst ld)),z6,z7,some (.t (bE q))]=some (.nx [z0,z1,some (.m (.lst ((rD P q).map bE))),some (.m (.cS (ent 0 ((rD P q).map bE)))),z4,some (.m (.lst (ld++[.int ((rD P q).idxOf q:Nat)]))),z6,z7,some (.t (bE q))]):=by
 have h1:=wK.has (ent 0 (P.map bE)) (bE q) (bE q) (nZ q)
 have r2:=wK.rd (ent 0 ((rD P q).map bE)) (bE q) (bE q) (nZ q)
 rw[fq (kF.mpr (sD P q)),wU] at r2
 have lz:ld.length < 100000:=by omega
 by_cases m:q∈P
 ·rw[fq (kF.mpr m)] at h1
  have e:rD P q=P:=if_pos m
  rw[e] at r2 ⊢
  generalize bE q=d at *
  simp[cZ,lR,h1,r2,lz,jq,xC,hAppend]
 ·rw[gn 0 (fun z=>m (kF.mp z))] at h1
  have w:=wK.wr (ent 0 (P.map bE)) (bE q) (bE q) (.int ((P.map bE).length:Nat)) (nZ q) (by rw[jK,List.length_map];omega)
  rw[nU (fun z=>m (kF.mp z))] at w
  have e:rD P q=P++[q]:=if_neg m
  have em:(rD P q).map bE=P.map bE++[bE q]:=by rw[e,List.map_append];rfl
  have pz:(P.map bE).length < 100000:=by rw[List.length_map];omega
  rw[em] at r2 ⊢
  generalize bE q=d at *
  generalize P.map bE=pd at *
  generalize (rD P q).idxOf q=ii at *
  simp[cZ,lR,h1,w,r2,lz,pz,jq,xC,hAppend]
end
section
variable {W m:Nat}{f g:Nat->Nat->Nat}{k:List Nat->Nat}{z0 z1 z4 z6 z7:Option U}
theorem Mj (hk : ∀ cs, Vd W cs -> k cs < m) (hf : kM W k f) (hg : kM W k g) (hm : m <= 300) (hW : W < 900) {P : List (Nat × Nat)} {a : Nat} {x7 : Option U} (F : Fd W f g P a) (ha : a < P.length) (h7 : iE x7 = false) :
    ∃P' mH,loop (bName 8) cZ ((List.range W).map fun c=>bE (st2 f g (pa P a) c)) [z0,z1,some (.m (.lst (P.map bE))),some (.m (.cS (ent 0 (P.map bE)))),z4,some (.m (.lst [])),z6,z7,x7]=some (.nx [z0,z1,some (.m (.lst (P'.map bE))),some (.m (.cS (ent 0 (P'.map bE)))),z4,some (.m (.lst (bN W (fx f g P' a)))),z6,z7,mH])/\Fd W f g P' (a+1)/\(∃E,P'=P++E)/\iE mH=false:=by
  obtain⟨S',e,P',mH,b1,b2,b3,b4,b5,b6,rfl⟩:=j5 (bd:=bName 8) (body:=cZ) ((List.range W).map fun c=>bE (st2 f g (pa P a) c))
    (fun j S=>∃P' mH,P'.Nodup/\(∀p∈P',Rc W f g p)/\(∃E,P'=P++E)/\(∀c,c < j->st2 f g (pa P a) c∈P')/\iE mH=false/\j<=W/\S=[z0,z1,some (.m (.lst (P'.map bE))),some (.m (.cS (ent 0 (P'.map bE)))),z4,some (.m (.lst ((List.range j).map fun c=>D.int (P'.idxOf (st2 f g (pa P a) c):Nat)))),z6,z7,mH])
    _ ⟨P,x7,F.nd,F.rc,⟨[],by simp⟩,fun c h=>by omega,h7,Nat.zero_le _,rfl⟩ (by
    rintro j d S hd ⟨P',mH,b1,b2,⟨E,b3⟩,b4,b5,b6,rfl⟩
    have hj:j < W:=by
      have:=(List.getElem?_eq_some_iff.mp hd).1
      rwa [List.length_map,List.length_range] at this
    rw[List.getElem?_map,List.getElem?_range hj] at hd
    have hd:bE (st2 f g (pa P a) j)=d:=Option.some.inj hd
    subst hd
    have lf:=ze hk hf hg b1 b2
    have rq:Rc W f g (st2 f g (pa P a) j):=J0 (F.rc _ (wV ha)) hj
    obtain⟨E2,e2,e3⟩:=BY P' (st2 f g (pa P a) j)
    have tn:=II (z0:=z0) (z1:=z1) (z4:=z4) (z6:=z6) (z7:=z7) (P:=P') (q:=st2 f g (pa P a) j) (ld:=(List.range j).map fun c=>D.int (P'.idxOf (st2 f g (pa P a) c):Nat)) (by omega) (by rw[List.length_map,List.length_range];omega)
    refine⟨[z0,z1,some (.m (.lst (P'.map bE))),some (.m (.cS (ent 0 (P'.map bE)))),z4,some (.m (.lst ((List.range j).map fun c=>D.int (P'.idxOf (st2 f g (pa P a) c):Nat)))),z6,z7,some (.t (bE (st2 f g (pa P a) j)))],_,?_,tn,rD P' (st2 f g (pa P a) j),some (.t (bE (st2 f g (pa P a) j))),Ff _ b1,fun p hp=>?_,⟨E++E2,by rw[e2,b3,List.append_assoc]⟩,fun c hc=>?_,rfl,hj,?_⟩
    . generalize bE (st2 f g (pa P a) j)=dd
      generalize P'.map bE=pd
      simp[-dO,cE,b5]
    . rw[e2] at hp
      rcases List.mem_append.mp hp with q | q
      . exact b2 p q
      . rw[e3 p q];exact rq
    . by_cases q:c=j
      . subst q;exact sD _ _
      . rw[e2];exact List.mem_append_left _ (b4 c (by omega))
    . have:(List.range j).map (fun c=>D.int (P'.idxOf (st2 f g (pa P a) c):Nat))=(List.range j).map fun c=>D.int ((rD P' (st2 f g (pa P a) j)).idxOf (st2 f g (pa P a) c):Nat):=List.map_congr_left fun c hc=>by
        rw[e2,sE (b4 c (List.mem_range.mp hc))]
      rw[this,List.range_succ,List.map_append]
      rfl)
  rw[List.length_map,List.length_range] at b4
  obtain⟨E,Fj⟩:=b3
  have pe:pa P' a=pa P a:=by rw[Fj];exact qJ ha
  refine⟨P',mH,?_,⟨?_,b1,b2,fun i c hi hc=>?_,?_⟩,⟨E,Fj⟩,b5⟩
  . refine Eq.trans e ?_
    rw[List.length_map,List.length_range]
    unfold bN fx
    rw[pe]
  . rw[Fj,List.getElem?_append_left (List.getElem?_eq_some_iff.mp F.zero).1];exact F.zero
  . by_cases q:i=a
    . subst q;rw[pe];exact b4 c hc
    . have Ui:i < a:=by omega
      have:=F.seen i c Ui hc
      rw[Fj,qJ (by omega)]
      exact List.mem_append_left _ this
  . rw[Fj,List.length_append];omega
noncomputable def iP (a W:Nat) (h:Nat->Nat->Nat):List D:=(List.range a).map fun s=>.lst (bN W (h s))
theorem vE (a W:Nat) (h:Nat->Nat->Nat):(iP a W h).length=a:=by unfold iP;rw[List.length_map,List.length_range]
theorem AL (a W:Nat) (h:Nat->Nat->Nat):iP a W h++[.lst (bN W (h a))]=iP (a+1) W h:=by
 unfold iP
 rw[List.range_succ,List.map_append]
 rfl
theorem AM {P E:List (Nat×Nat)}{a:Nat}(F:Fd W f g P a):iP a W (fx f g (P++E))=iP a W (fx f g P):=by
 unfold iP
 refine List.map_congr_left fun s hs=>?_
 have hs:=List.mem_range.mp hs
 have:=F.le
 unfold bN
 congr 1
 refine List.map_congr_left fun c hc=>?_
 show D.int ((fx f g (P++E) s c:Nat):Int)=D.int ((fx f g P s c:Nat):Int)
 unfold fx
 rw[qJ (by omega),sE (F.seen s c hs (List.mem_range.mp hc))]
theorem IJ {w1 w2:D}{n1 n2:List D}{P P':List (Nat×Nat)}{rs row:List D}{a:Nat}{p:Nat×Nat}{r1 r2:List D}{x5 x6 x7 x8 Mk:Option U}(hr:rs.length=a) (ha:a < 1000) (hp:cX (P.map bE) (a:Int)=some (bE p)) (h1:cX n1 (p.1:Nat)=some (.tup r1)) (h2:cX n2 (p.2:Nat)=some (.tup r2)) (h5:iE x5=false) (h6:iE x6=false) (h7:iE x7=false)
  (lp:loop (bName 8) cZ (List.zipWith (fun a b=>D.tup [a,b]) r1 r2) [some (.t (.tup [.tup n1,w1])),some (.t (.tup [.tup n2,w2])),some (.m (.lst (P.map bE))),some (.m (.cS (ent 0 (P.map bE)))),some (.m (.lst rs)),some (.m (.lst [])),some (.t (.int (p.1:Nat))),some (.t (.int (p.2:Nat))),x8]=some (.nx [some (.t (.tup [.tup n1,w1])),some (.t (.tup [.tup n2,w2])),some (.m (.lst (P'.map bE))),some (.m (.cS (ent 0 (P'.map bE)))),some (.m (.lst rs)),some (.m (.lst row)),some (.t (.int (p.1:Nat))),some (.t (.int (p.2:Nat))),Mk])):
  jh [some (.t (.tup [.tup n1,w1])),some (.t (.tup [.tup n2,w2])),some (.m (.lst (P.map bE))),some (.m (.cS (ent 0 (P.map bE)))),some (.m (.lst rs)),x5,x6,x7,x8]=some (.nx [some (.t (.tup [.tup n1,w1])),some (.t (.tup [.tup n2,w2])),some (.m (.lst (P'.map bE))),some (.m (.cS (ent 0 (P'.map bE)))),some (.m (.lst (rs++[.lst row]))),some (.t (.lst row)),some (.t (.int (p.1:Nat))),some (.t (.int (p.2:Nat))),Mk]):=by
 have rz:rs.length < 100000:=by omega
 have hp:cX (P.map bE) (rs.length:Int)=some (bE p):=by rw[hr];exact hp
 generalize ent 0 (P.map bE)=kv at *
 generalize ent 0 (P'.map bE)=kv' at *
 generalize P.map bE=pd at *
 generalize P'.map bE=QU at *
 unfold bE at *
 generalize ((p.1:Nat):Int)=i at *
 generalize ((p.2:Nat):Int)=j at *
 have s0:UB [some (.t (.tup [.tup n1,w1])),some (.t (.tup [.tup n2,w2])),some (.m (.lst pd)),some (.m (.cS kv)),some (.m (.lst rs)),x5,x6,x7,x8]=some (.nx [some (.t (.tup [.tup n1,w1])),some (.t (.tup [.tup n2,w2])),some (.m (.lst pd)),some (.m (.cS kv)),some (.m (.lst rs)),some (.m (.lst [])),x6,x7,x8]):=by simp[-dO,cE,UB,h5]
 have s1:UC [some (.t (.tup [.tup n1,w1])),some (.t (.tup [.tup n2,w2])),some (.m (.lst pd)),some (.m (.cS kv)),some (.m (.lst rs)),some (.m (.lst [])),x6,x7,x8]=some (.nx [some (.t (.tup [.tup n1,w1])),some (.t (.tup [.tup n2,w2])),some (.m (.lst pd)),some (.m (.cS kv)),some (.m (.lst rs)),some (.m (.lst [])),some (.t (.int i)),some (.t (.int j)),x8]):=by simp[-dO,cE,UC,hp,h6,h7]
 have s2:UD [some (.t (.tup [.tup n1,w1])),some (.t (.tup [.tup n2,w2])),some (.m (.lst pd)),some (.m (.cS kv)),some (.m (.lst rs)),some (.m (.lst [])),some (.t (.int i)),some (.t (.int j)),x8]=some (.nx [some (.t (.tup [.tup n1,w1])),some (.t (.tup [.tup n2,w2])),some (.m (.lst QU)),some (.m (.cS kv')),some (.m (.lst rs)),some (.m (.lst row)),some (.t (.int i)),some (.t (.int j)),Mk]):=by simp[UD,at2,h1,h2,tG,rT,lp]
 have s3:UE [some (.t (.tup [.tup n1,w1])),some (.t (.tup [.tup n2,w2])),some (.m (.lst QU)),some (.m (.cS kv')),some (.m (.lst rs)),some (.m (.lst row)),some (.t (.int i)),some (.t (.int j)),Mk]=some (.nx [some (.t (.tup [.tup n1,w1])),some (.t (.tup [.tup n2,w2])),some (.m (.lst QU)),some (.m (.cS kv')),some (.m (.lst (rs++[.lst row]))),some (.t (.lst row)),some (.t (.int i)),some (.t (.int j)),Mk]):=by simp[UE,rz,jq,xC,hAppend]
 rw[Pn,Sq.bw s0,Sq.bw s1,Sq.bw s2,s3]
theorem IK {od ud:D}{P:List (Nat×Nat)}{rs:List D}{kv:List (D×D)}{x5 x6 x7 x8:Option U}:(qB (eF (eP Ad (aa (d7 4) (aa (d7 2) aq))))) [some (.t od),some (.t ud),some (.m (.lst (P.map bE))),some (.m (.cS kv)),some (.m (.lst rs)),x5,x6,x7,x8]=some (decide (rs.length < P.length),[some (.t od),some (.t ud),some (.m (.lst (P.map bE))),some (.m (.cS kv)),some (.m (.lst rs)),x5,x6,x7,x8]):=by
 simp
theorem zj {n W s:Nat}{h:Nat->Nat->Nat}(hs:s < n):cX (aF n W h) (s:Int)=some (.tup (bN W (h s))):=lJ (by
 unfold aF
 rw[List.getElem?_map,List.getElem?_range hs]
 rfl)
theorem Cb {n1 n2:Nat}{w1 w2:D}(hk:∀cs,Vd W cs->k cs < m) (hf:kM W k f) (hg:kM W k g) (hm:m<=300) (hW:W < 900) (l1:∀cs,Vd W cs->led f cs 0 < n1) (l2:∀cs,Vd W cs->led g cs 0 < n2):
  ∀(fu a:Nat) (P:List (Nat×Nat)) (x5 x6 x7 x8:Option U),m < a+fu->Fd W f g P a->iE x5=false->iE x6=false->iE x7=false->iE x8=false->
  ∃P' z3 z5 z6 z7 z8,iH (qB (eF (eP Ad (aa (d7 4) (aa (d7 2) aq))))) jh fu [some (.t (.tup [.tup (aF n1 W f),w1])),some (.t (.tup [.tup (aF n2 W g),w2])),some (.m (.lst (P.map bE))),some (.m (.cS (ent 0 (P.map bE)))),some (.m (.lst (iP a W (fx f g P)))),x5,x6,x7,x8]=some (.nx [some (.t (.tup [.tup (aF n1 W f),w1])),some (.t (.tup [.tup (aF n2 W g),w2])),some (.m (.lst (P'.map bE))),z3,some (.m (.lst (iP P'.length W (fx f g P')))),z5,z6,z7,z8])/\Fd W f g P' P'.length
 | 0,a,P,x5,x6,x7,x8,hm',F,_,_,_,_=>by
  have:=ze hk hf hg F.nd F.rc
  have:=F.le
  omega
 | fu+1,a,P,x5,x6,x7,x8,hm',F,h5,h6,h7,h8=>by
  have few:=ze hk hf hg F.nd F.rc
  have le:=F.le
  unfold iH
  rw[show(qB (eF (eP Ad (aa (d7 4) (aa (d7 2) aq))))) _=_ from IK,Option.bind_some,vE]
  by_cases c:a < P.length
  ·rw[decide_eq_true c]
   simp only[if_true]
   obtain⟨cs,v,ep⟩:=F.rc _ (wV c)
   obtain⟨P',Mk,e,F',⟨E,eE⟩,Zt⟩:=Mj (z0:=some (.t (.tup [.tup (aF n1 W f),w1]))) (z1:=some (.t (.tup [.tup (aF n2 W g),w2]))) (z4:=some (.m (.lst (iP a W (fx f g P))))) (z6:=some (.t (.int ((pa P a).1:Nat)))) (z7:=some (.t (.int ((pa P a).2:Nat)))) hk hf hg hm hW F c h8
   have pp:cX (P.map bE) (a:Int)=some (bE (pa P a)):=lJ (by rw[List.getElem?_map,pF c];rfl)
   have tn:=IJ (w1:=w1) (w2:=w2) (x5:=x5) (x6:=x6) (x7:=x7) (vE a W _) (by omega) pp (zj (n:=n1) (W:=W) (h:=f) (by rw[ep];exact l1 cs v)) (zj (n:=n2) (W:=W) (h:=g) (by rw[ep];exact l2 cs v)) h5 h6 h7 (by rw[So.zip_rows];exact e)
   rw[tn,Option.bind_some]
   have rg:iP a W (fx f g P)=iP a W (fx f g P'):=by rw[eE,AM F]
   show ∃Zm z3 z5 z6 z7 z8,iH _ _ fu _=_/\_
   rw[rg,AL]
   exact Cb hk hf hg hm hW l1 l2 fu (a+1) P' _ _ _ Mk (by omega) F' rfl rfl rfl Zt
  ·rw[decide_eq_false c]
   have:a=P.length:=by omega
   subst this
   exact⟨P,_,x5,x6,x7,x8,rfl,F⟩
theorem FL {n1 n2:Nat}{w1 w2:D}(hk:∀cs,Vd W cs->k cs < m) (hf:kM W k f) (hg:kM W k g) (hm:m<=300) (hW:W < 900) (l1:∀cs,Vd W cs->led f cs 0 < n1) (l2:∀cs,Vd W cs->led g cs 0 < n2):
  ∃P,qL [.t (.tup [.tup (aF n1 W f),w1]),.t (.tup [.tup (aF n2 W g),w2])]=some (.t (.tup [.lst (P.map bE),.lst (iP P.length W (fx f g P))]),[])/\Fd W f g P P.length/\P.length<=m:=by
 obtain⟨P,z3,z5,z6,z7,z8,e,F⟩:=Cb (w1:=w1) (w2:=w2) hk hf hg hm hW l1 l2 100000 0 [(0,0)] none none none none (by omega) BZ rfl rfl rfl rfl
 refine⟨P,?_,F,ze hk hf hg F.nd F.rc⟩
 have k0:ju (.tup [.int 0,.int 0])=some (.tup [.int 0,.int 0]):=nX [0,0]
 have all:∃a b S,gI [some (.t (.tup [.tup (aF n1 W f),w1])),some (.t (.tup [.tup (aF n2 W g),w2])),none,none,none,none,none,none,none]=some (.rt (.t (.tup [.lst (P.map bE),.lst (iP P.length W (fx f g P))])) (some (.t a) :: some (.t b) :: S)):=by
  unfold gI
  generalize D.tup [.tup (aF n1 W f),w1]=od at *
  generalize D.tup [.tup (aF n2 W g),w2]=ud at *
  rw[Sq.bw (S1:=[some (.t od),some (.t ud),some (.m (.lst [bE (0,0)])),none,none,none,none,none,none]) rfl,
   Sq.bw (S1:=[some (.t od),some (.t ud),some (.m (.lst [bE (0,0)])),some (.m (.cS (ent 0 [bE (0,0)]))),none,none,none,none,none]) (by simp[tK,k0,bE,ent]),
   Sq.bw (S1:=[some (.t od),some (.t ud),some (.m (.lst (List.map bE [(0,0)]))),some (.m (.cS (ent 0 (List.map bE [(0,0)])))),some (.m (.lst (iP 0 W (fx f g [(0,0)])))),none,none,none,none]) rfl,Sq.bw (show iR 100000 _ _ _=_ from e)]
  generalize P.map bE=pd
  generalize iP P.length W (fx f g P)=rr
  exact⟨_,_,_,by simp;exact⟨rfl,rfl,rfl⟩⟩
 obtain⟨a,b,S,all⟩:=all
 exact nh (S:=some (.t a) :: some (.t b) :: S) all rfl
end
noncomputable def fT (jw:FM) (aP:FM) (nA:FM):GS:=
 (aR (Eb (oE 2 (eZ (bName 3) (eZ (bName 4) o7))) (eF (bA jw (bg (eF (ao 1)) (bg (eF (ao 2)) bX)))))
 (ff (bA aP (bg (eF (ao 4)) (bg (eF (m8 [1,0,2] (CF (eF (ao 3))) aO (eF (bA nA (bg (eF (ao 3)) (bg (eF (eP sY (aa (aL 2 (eC (.int 1))) (aa (eF (ao 0)) aq)))) (bg (eF (eP sY (aa (aL 4 (eC (.int 1))) (aa (eF (ao 1)) aq)))) bX))))))) bX)))))
noncomputable def jD:FM:=bG 5 (fT qL oG AK)
theorem De:∀us r,jD us=some r->bG 5 (fT qL oG AK) us=some r:=fun _ _ h=>h
noncomputable abbrev UG (f3:FM):GD:=(eF (bA f3 (bg (eF (ao 3)) (bg (eF (eP sY (aa (aL 2 (eC (.int 1))) (aa (eF (ao 0)) aq)))) (bg (eF (eP sY (aa (aL 4 (eC (.int 1))) (aa (eF (ao 1)) aq)))) bX)))))
section
variable {f3:FM}{o a a' b x1 x2:D}{ws us:List D}{p:Nat×Nat}{z3 z4:Option U}
theorem Ml {acc:List D}(h1:cX ws (p.1:Int)=some x1) (h2:cX us (p.2:Int)=some x2) (h:f3 [.t o,.t x1,.t x2]=some (.t b,[])):
  cK [1,0,2] aO (UG f3) [bE p] [some (.t o),some (.t (.tup [a,.tup ws])),some (.t (.tup [a',.tup us])),z3,z4] acc=some (acc++[b],[some (.t o),some (.t (.tup [a,.tup ws])),some (.t (.tup [a',.tup us])),z3,z4]):=by
 unfold bE
 generalize ((p.1:Nat):Int)=i at *
 generalize ((p.2:Nat):Int)=j at *
 simp[cK,bL,fM,at2,h1,h2,h,aK]
theorem Cc {w:Nat×Nat->D}:∀(P:List (Nat×Nat)) (acc:List D),(∀p∈P,∃x1 x2,cX ws (p.1:Int)=some x1/\cX us (p.2:Int)=some x2/\f3 [.t o,.t x1,.t x2]=some (.t (w p),[]))->
  cK [1,0,2] aO (UG f3) (P.map bE) [some (.t o),some (.t (.tup [a,.tup ws])),some (.t (.tup [a',.tup us])),z3,z4] acc=some (acc++P.map w,[some (.t o),some (.t (.tup [a,.tup ws])),some (.t (.tup [a',.tup us])),z3,z4])
 | [],acc,_=>by simp[cK]
 | p :: P,acc,h=>by
  obtain⟨x1,x2,h1,h2,h3⟩:=h p List.mem_cons_self
  have e:=Ml (z3:=z3) (z4:=z4) (a:=a) (a':=a') (acc:=acc) h1 h2 h3
  rw[List.map_cons]
  show cK _ _ _ (.tup [.int (p.1:Nat),.int (p.2:Nat)] :: P.map bE) _ _=_
  rw[rC]
  show(cK _ _ _ [bE p] _ _).bind _=_
  rw[e,Option.bind_some,Cc P _ fun q hq=>h q (List.mem_cons_of_mem _ hq)]
  simp
end
theorem IL {f1 f2 f3:FM}{o a1 a2 r:D}{ws us ps rs ts:List D}(e1:f1 [.t (.tup [a1,.tup ws]),.t (.tup [a2,.tup us])]=some (.t (.tup [.lst ps,.lst rs]),[])) (pl:ps.length<=1000)
  (e2:∀z3 z4,cK [1,0,2] aO (UG f3) ps [some (.t o),some (.t (.tup [a1,.tup ws])),some (.t (.tup [a2,.tup us])),z3,z4] []=some (ts,[some (.t o),some (.t (.tup [a1,.tup ws])),some (.t (.tup [a2,.tup us])),z3,z4]))
  (e3:f2 [.t (.lst rs),.t (.lst ts)]=some (.t r,[])):
  bG 5 (fT f1 f2 f3) [.t o,.t (.tup [a1,.tup ws]),.t (.tup [a2,.tup us])]=some (.t r,[]):=by
 have Ur:ps.length<=100000:=by omega
 simp[bG,fT,e1,CF,rT,vq,Ur,e2,e3,aK]
theorem FO {W m:Nat}{k:List Nat->Nat}{β γ:List Nat->Bool}{d e:D}(o:Op) (hW:W < 900) (hk:∀cs,Vd W cs->k cs < m) (hm:m<=300) (h:Jd W k β d) (h':Jd W k γ e):
  ∃d',jD [.t (.str o.s),.t d,.t e]=some (.t d',[])/\Cn W k (fun cs=>o.b (β cs) (γ cs)) d':=by
 have tb:=h.tb
 have tb':=h'.tb
 obtain⟨n1,f,w1,rfl,A,b1,t1⟩:=h.ex
 obtain⟨n2,g,w2,rfl,B,b2,t2⟩:=h'.ex
 obtain⟨P,e1,F,few⟩:=FL (w1:=.tup ((List.range n1).map w1)) (w2:=.tup ((List.range n2).map w2)) hk t1 t2 hm hW (fun cs v=>fy A.lt cs 0 v A.pos) (fun cs v=>fy B.lt cs 0 v B.pos)
 have p0:0 < P.length:=(List.getElem?_eq_some_iff.mp F.zero).1
 have pz:pa P 0=(0,0):=by have:=pF p0;rw[F.zero] at this;exact(Option.some.inj this).symm
 have lt:∀s c,s < P.length->c < W->fx f g P s c < P.length:=fun s c hs hc=>List.idxOf_lt_length_of_mem (F.seen s c hs hc)
 have Us:∀p∈P,p.1 < n1/\p.2 < n2:=fun p hp=>by
  obtain⟨cs,v,rfl⟩:=F.rc p hp
  exact⟨fy A.lt cs 0 v A.pos,fy B.lt cs 0 v B.pos⟩
 have way:∀(cs:List Nat) (s:Nat),Vd W cs->s < P.length->pa P (led (fx f g P) cs s)=(led f cs (pa P s).1,led g cs (pa P s).2):=by
  intro cs
  induction cs with
  | nil=>intro s _ _;rfl
  | cons c cs ih=>
   intro s hc hs
   have hcc:=hc c List.mem_cons_self
   show pa P (led (fx f g P) cs (fx f g P s c))=(led f cs (f (pa P s).1 c),led g cs (g (pa P s).2 c))
   rw[ih _ (fun x hx=>hc x (List.mem_cons_of_mem _ hx)) (lt s c hs hcc)]
   unfold fx
   rw[Fg (F.seen s c hs hcc)]
   rfl
 let w:Nat×Nat->D:=fun p=>.bl (o.b (bo (w1 p.1)) (bo (w2 p.2)))
 have ew:P.map w=(List.range P.length).map fun s=>w (pa P s):=by
  apply List.ext_getElem?
  intro i
  rw[List.getElem?_map,List.getElem?_map]
  by_cases hi:i < P.length
  ·rw[pF hi,List.getElem?_range hi];rfl
  ·rw[List.getElem?_eq_none (by omega),List.getElem?_eq_none (by rw[List.length_range];omega)];rfl
 obtain⟨n',nx',jL,e3,C,b3,A'⟩:=FJ (b:=true) (W:=W) (m:=P.length) (f:=fx f g P) (wd:=fun s=>w (pa P s)) ⟨p0,by omega,lt,fun s _=>⟨_,rfl⟩⟩ hW
 rw[<-ew] at e3
 have e3:oG [.t (.lst (iP P.length W (fx f g P))),.t (.lst (P.map w))]=some (.t (mT n' W nx' jL),[]):=e3
 have b4:∀cs,Vd W cs->jL (led nx' cs 0)= .bl (o.b (β cs) (γ cs)):=fun cs v=>by
  rw[b3 cs v]
  show w (pa P (led (fx f g P) cs 0))=_
  rw[way cs 0 v p0,pz]
  show D.bl (o.b (bo (w1 (led f cs 0))) (bo (w2 (led g cs 0))))=_
  rw[b1 cs v,b2 cs v]
  rfl
 have e5:=IL (f1:=qL) (f2:=oG) (f3:=AK) (o:=.str o.s) e1 (by rw[List.length_map];omega) (fun z3 z4=>by
  have:=Cc (f3:=AK) (o:=.str o.s) (a:=.tup (aF n1 W f)) (a':=.tup (aF n2 W g)) (ws:=(List.range n1).map w1) (us:=(List.range n2).map w2) (z3:=z3) (z4:=z4) (w:=w) P [] fun p hp=>by
   obtain⟨q1,q2⟩:=Us p hp
   refine⟨w1 p.1,w2 p.2,nq q1,nq q2,?_⟩
   rw[A.bo q1,B.bo q2]
   exact Mi o _ _
  rw[List.nil_append] at this
  exact this) e3
 refine⟨mT n' W nx' jL,e5,n',nx',jL,rfl,A',b4,wW C b4 fun cs ds es v1 v2 v3 q=>?_,C⟩
 show o.b _ _=o.b _ _
 rw[tb cs ds es v1 v2 v3 q,tb' cs ds es v1 v2 v3 q]
section
variable {f:FM}{a1 a2 a4 a5:Option U}
theorem FP (hf:Tk f){o:MO}(ho:Fq o){n W:Nat}{N:List (List Int)}{k:Int}(n0:0 < n) (n6:n<=9) (hW:W < 900) (hN:N.length < 10):
  ∃(vs:List Int) (o':MO),fS f [some (.b o),some (.t (.int W)),a2,some (.t (.int n)),some (.m (.lst (N.map Sq.bR))),some (.t (.int k))]=some (.nx [some (.b o'),some (.t (.int W)),a2,some (.t (.int n)),some (.m (.lst ((N++[vs]).map Sq.bR))),some (.t (.int k))])/\Fq o'/\vs.length=W/\∀v∈vs,0<=v/\v < (n:Int):=by
 obtain⟨vs,o',e,hq,hl,hv⟩:=L7 (a1:=some (.t (.int W))) (a2:=a2) (a4:=some (.m (.lst (N.map Sq.bR)))) (a5:=some (.t (.int k))) hf ho (m:=n) (by omega) (by omega) W
 refine⟨vs,o',?_,hq,hl,hv⟩
 have c1:=fun S h=>Sq.AA 1 W S h (by omega)
 have c3:W<=100000:=by omega
 have c4:N.length < 100000:=by omega
 have em:(N++[vs]).map Sq.bR=N.map Sq.bR++[.tup (vs.map D.int)]:=by rw[List.map_append];rfl
 have c5:(N.map Sq.bR).length < 100000:=by rw[List.length_map];exact c4
 rw[em]
 generalize N.map Sq.bR=nd at *
 generalize vs.map D.int=vd at *
 unfold fS
 simp[-HF,c1,bZ,Sq.kE,c3,e,jq,xC,hAppend,c5]
theorem Cd (hf:Tk f){o:MO}(ho:Fq o){W:Nat}(hW:W < 900){sz:List D}(h6:sz.length=6) (hsz:∀i:Int,0<=i->i < 6->∃n:Nat,cX sz i=some (.int n)/\0 < n/\n<=9):
  ∃n nx wd o',bG 6 (cW f) [.b o,.t (.int W),.t (.lst sz)]=some (.t (mT n W nx wd),[o'])/\Fq o'/\Mc W n nx wd/\n<=9:=by
 obtain⟨i,o1,e1,h1,i0,i1⟩:=hf o ho 6 (by decide) (by decide)
 obtain⟨n,en,n0,n6⟩:=hsz i i0 i1
 obtain⟨S',e2,N,o2,x5,hN,hr,h2,h5,rfl⟩:=j5 (bd:=bName 5) (body:=fS f) (mD 0 n)
  (fun j S=>∃(N:List (List Int)) (o':MO) (x5:Option U),N.length=j/\(∀r∈N,r.length=W/\∀v∈r,0<=v/\v < (n:Int))/\Fq o'/\iE x5=false/\S=[some (.b o'),some (.t (.int W)),some (.t (.lst sz)),some (.t (.int n)),some (.m (.lst (N.map Sq.bR))),x5])
  [some (.b o1),some (.t (.int W)),some (.t (.lst sz)),some (.t (.int n)),some (.m (.lst [])),none] ⟨[],o1,none,rfl,by simp,h1,rfl,rfl⟩ (by
  rintro j d S hd ⟨N,o',x5,hN,hr,hq,h5,rfl⟩
  obtain⟨hj,rfl⟩:=BH hd
  obtain⟨vs,o2,e3,h3,vl,vv⟩:=FP (a2:=some (.t (.lst sz))) hf hq (n:=n) (W:=W) (N:=N) (k:=j) n0 n6 hW (by omega)
  refine⟨_,_,?_,e3,N++[vs],o2,some (.t (.int j)),by simp[hN],fun r hr'=>?_,h3,rfl,rfl⟩
  ·generalize ((j:Nat):Int)=jj
   generalize N.map Sq.bR=nd
   simp[-dO,cE,h5]
  ·rcases List.mem_append.mp hr' with q | q
   ·exact hr r q
   ·rw[List.mem_singleton.mp q];exact⟨vl,vv⟩)
 rw[Sq.kE] at hN
 obtain⟨ws,o3,e4,h4,wl,wv⟩:=FA (a1:=some (.t (.int W))) (a2:=some (.t (.lst sz))) (a3:=some (.t (.int n))) (a4:=some (.t (.lst (N.map Sq.bR)))) (a5:=x5) hf h2 n
 have mo:rU W N:=⟨by omega,by omega,fun r q=>by rw[hN];exact hr r q⟩
 have aN:N.map Sq.bR=aF n W (gZ N):=by
  unfold aF
  apply List.ext_getElem?
  intro s
  rw[List.getElem?_map,List.getElem?_map]
  by_cases hs:s < N.length
  ·rw[rw_get hs,List.getElem?_range (by omega)]
   show some (D.tup ((rw' N s).map D.int))=_
   rw[JX mo hs]
   rfl
  ·rw[List.getElem?_eq_none (by omega),List.getElem?_eq_none (by rw[List.length_range];omega)];rfl
 have aM:ws=(List.range n).map (iV ws):=by
  apply List.ext_getElem?
  intro s
  rw[List.getElem?_map]
  by_cases hs:s < n
  ·rw[List.getElem?_range hs,tU (by omega)];rfl
  ·rw[List.getElem?_eq_none (by omega),List.getElem?_eq_none (by rw[List.length_range];omega)];rfl
 refine⟨n,gZ N,iV ws,o3,?_,h4,⟨n0,by omega,fun s c hs hc=>?_,fun s hs=>wv _ (tV (by omega))⟩,n6⟩
 ·have s0:=Pg (W:=W) (sz:=sz) (by rw[h6];exact e1) en
  have s1:XA f [some (.b o1),some (.t (.int W)),some (.t (.lst sz)),some (.t (.int n)),none,none]=some (.nx [some (.b o1),some (.t (.int W)),some (.t (.lst sz)),some (.t (.int n)),some (.m (.lst [])),none]):=rfl
  have s2:=Ph (by omega) e2
  have s3:=Pk (nd:=N.map Sq.bR) (by omega) e4
  have all:cW f [some (.b o),some (.t (.int W)),some (.t (.lst sz)),none,none,none]=some (.rt (.t (.tup [.tup (N.map Sq.bR),.tup ws])) [some (.b o3),some (.t (.int W)),some (.t (.lst sz)),some (.t (.int n)),some (.t (.lst (N.map Sq.bR))),x5]):=by
   rw[Pf,Sq.bw s0,Sq.bw s1,Sq.bw s2,s3]
  have r:bG 6 (cW f) [.b o,.t (.int W),.t (.lst sz)]=some (.t (.tup [.tup (N.map Sq.bR),.tup ws]),[o3]):=by
   show(cW f [some (.b o),some (.t (.int W)),some (.t (.lst sz)),none,none,none]).bind _=_
   rw[all]
   rfl
  rw[r,aN]
  unfold mT
  rw[<-aM]
 ·have:=(tZ mo (s:=s) (c:=c) (by omega) hc).2
  omega
end
noncomputable abbrev lZ:List D:=[.int 1,.int 2,.int 3,.int 4,.int 6,.int 9]
theorem J6 (i:Int) (h0:0<=i) (h1:i < 6):∃n:Nat,cX lZ i=some (.int n)/\0 < n/\n<=9:=by
 have:i=0\/i=1\/i=2\/i=3\/i=4\/i=5:=by omega
 rcases this with rfl | rfl | rfl | rfl | rfl | rfl
 ·exact⟨1,rfl,by decide,by decide⟩
 ·exact⟨2,rfl,by decide,by decide⟩
 ·exact⟨3,rfl,by decide,by decide⟩
 ·exact⟨4,rfl,by decide,by decide⟩
 ·exact⟨6,rfl,by decide,by decide⟩
 ·exact⟨9,rfl,by decide,by decide⟩
theorem J7 {c k:Nat}:∀{l:List D},(∀d∈l,Good c k d)->vo l/\Gw l<=(c+2) * l.length/\gj l<=k
  | [],_=>⟨True.intro,Nat.zero_le _,Nat.zero_le _⟩
  | d :: l, h => by
    obtain⟨a,b,e⟩:=J7 (l:=l) fun x hx=>h x (List.mem_cons_of_mem _ hx)
    have g:=h d List.mem_cons_self
    have gw:=g.w
    have gd:=g.dep
    refine⟨⟨g.EI,a⟩,?_,?_⟩
    . show wD d+2+Gw l<=(c+2) * (l.length+1)
      rw[Nat.mul_add,Nat.mul_one];omega
    . show max (iS d) (gj l)<=k;omega
theorem FQ {c k m:Nat}{l:List D}(h:∀d∈l,Good c k d) (hl:l.length<=m):Good ((c+2) * m+4) (k+1) (.tup l):=by
 obtain⟨a,b,e⟩:=J7 h
 have:=Nat.mul_le_mul_left (c+2) hl
 exact⟨a,by show Gw l+4<=_;omega,by show gj l+1<=_;omega⟩
theorem IM {m W:Nat}{h:Nat->Nat->Nat}{w:Nat->D}(A:Mc W m h w) (hW:W<=44):Ek (mT m W h w):=by
 have hm:=A.few
 have g1:Good 600000 2 (.tup (aF m W h)):=(FQ (c:=1852) (k:=1) (m:=300) (fun d hd=>by
  obtain⟨p,hp,rfl⟩:=List.mem_map.mp hd
  refine(FQ (c:=40) (k:=0) (m:=44) (fun x hx=>?_) (by rw[cR];exact hW)).mono (by decide) (by decide)
  obtain⟨c,hc,rfl⟩:=List.mem_map.mp hx
  have:=A.lt p c (List.mem_range.mp hp) (List.mem_range.mp hc)
  exact⟨(by show(((h p c:Nat):Int)).natAbs < 10 ^ 30;omega),by show 40<=40;omega,Nat.le_refl _⟩) (by rw[lu];exact hm)).mono (by decide) (by decide)
 have g2:Good 20000 2 (.tup ((List.range m).map w)):=(FQ (c:=42) (k:=0) (m:=300) (fun d hd=>by
  obtain⟨p,hp,rfl⟩:=List.mem_map.mp hd
  obtain⟨b,e⟩:=A.bl p (List.mem_range.mp hp)
  obtain⟨q1,q2,q3⟩:=HN (a:=w p) (by rw[e];cases b <;> simp[EO])
  exact⟨q1,q2,by omega⟩) (by rw[List.length_map,List.length_range];exact hm)).mono (by decide) (by decide)
 have gg:Good 700000 3 (mT m W h w):=by
  refine⟨⟨g1.EI,g2.EI,True.intro⟩,?_,?_⟩
  ·have:=g1.w;have:=g2.w
   show wD (.tup (aF m W h))+2+(wD (.tup ((List.range m).map w))+2+0)+4<=_
   omega
  ·have:=g1.dep;have:=g2.dep
   show max (iS (.tup (aF m W h))) (max (iS (.tup ((List.range m).map w))) 0)+1<=_
   omega
 exact gg.Ek (by decide) (by decide)
theorem J8 {W:Nat}{k:List Nat->Nat}{β:List Nat->Bool}{d:D}(h:Cn W k β d) (hW:W<=44):jE [d]=some (.t (.str (toPy d).shown)):=by
 obtain⟨n,nx,wd,rfl,A,_⟩:=h.ex
 show(if Ek (mT n W nx wd) then some (U.t (.str (toPy (mT n W nx wd)).shown)) else none)=_
 rw[if_pos (IM A hW)]
theorem Po {z0 z1 z2 z3 z4 z5 z6 z7:Option U}:∀(ws acc:List D),(∀w∈ws,∃b,w=D.bl b)->aW [] aO (eQ (ux (qB (eF (ao 0))))) ws [z0,z1,z2,z3,z4,z5,z6,z7] acc=some (acc++ws.map rX,[z0,z1,z2,z3,z4,z5,z6,z7])
  | [],acc,_=>by simp[aW]
  | w :: ws, acc, h => by
    obtain⟨b,rfl⟩:=h w List.mem_cons_self
    have e:aW [] aO (eQ (ux (qB (eF (ao 0))))) [.bl b] [z0,z1,z2,z3,z4,z5,z6,z7] acc=some (acc++[.bl (!b)],[z0,z1,z2,z3,z4,z5,z6,z7]):=by
      simp[aW,bL,aK]
    rw[Sq.fO,e,Option.bind_some,Po ws _ fun x hx=>h x (List.mem_cons_of_mem _ hx)]
    simp[rX]
noncomputable def wZ (aU:FM) (aI:FM) (aA:FM) (aD:FM) (bC:FM) (aX:FM) (aP:FM) (bD:FM):GS:=
 (uz (qB (eF (eP Od (aa (eF (eP jE (aa (eF (bA bC (bg (eF (ao 2)) (bg (eF (ao 6)) (bg (eF (ao 4)) (bg (eF (ao 5)) bX)))))) aq))) (aa (eF (eP jE (aa (eF (bA aX (bg (eF (ao 6)) (bg (eF (ao 4)) (bg (eF (ao 5)) bX))))) aq))) aq))))) (ff (eT (eC (.bl false)))) kI)
noncomputable def zl (aU:FM) (aI:FM) (aA:FM) (aD:FM) (bC:FM) (aX:FM) (aP:FM) (bD:FM):GS:=
 (aR (bz 1 (bA aU (gY (ao 0) (bg (eC (.int 0)) bX))))
 (aR (bz 2 (bA aI (gY (ao 1) bX)))
 (aR (bz 3 (eP uy (aa (eF (bA aA (bg (eF (ao 2)) bX))) aq)))
 (aR (bz 4 (bA aD (gY (ao 1) (bg (eF (ao 3)) (bg (eF (eP gW (aa (eC (.int 1)) (aa (eC (.int 2)) (aa (eC (.int 3)) (aa (eC (.int 4)) (aa (eC (.int 6)) (aa (eC (.int 9)) aq)))))))) bX)))))
 (aR (bz 5 (bA aD (gY (ao 1) (bg (eF (ao 3)) (bg (eF (eP gW (aa (eC (.int 1)) (aa (eC (.int 2)) (aa (eC (.int 3)) (aa (eC (.int 4)) (aa (eC (.int 6)) (aa (eC (.int 9)) aq)))))))) bX)))))
 (aR (jX (bName 6) (cU (eF (eP gW (aa (eC (.str "both")) (aa (eC (.str "either")) (aa (eC (.str "but")) (aa (eC (.str "unlike")) aq))))))) (wZ aU aI aA aD bC aX aP bD))
 (aR (bz 7 (bA aP (bg (aL 4 (eC (.int 0))) (bg (eF (bO [] (cU (aL 4 (eC (.int 1)))) aO (eQ (ux (qB (eF (ao 0))))))) bX))))
 (ff (eP xD (aa (eF (eP jE (aa (eF (bA bD (bg (eF (ao 2)) (bg (eF (ao 4)) bX)))) aq))) (aa (eF (eP jE (aa (eF (ao 7)) aq))) aq)))))))))))
noncomputable def UH (aU:FM) (aI:FM) (aA:FM) (aD:FM) (bC:FM) (aX:FM) (aP:FM) (bD:FM):GS:=
 (bz 1 (bA aU (gY (ao 0) (bg (eC (.int 0)) bX))))
noncomputable def UI (aU:FM) (aI:FM) (aA:FM) (aD:FM) (bC:FM) (aX:FM) (aP:FM) (bD:FM):GS:=
 (bz 2 (bA aI (gY (ao 1) bX)))
noncomputable def UJ (aU:FM) (aI:FM) (aA:FM) (aD:FM) (bC:FM) (aX:FM) (aP:FM) (bD:FM):GS:=
 (bz 3 (eP uy (aa (eF (bA aA (bg (eF (ao 2)) bX))) aq)))
noncomputable def UK (aU:FM) (aI:FM) (aA:FM) (aD:FM) (bC:FM) (aX:FM) (aP:FM) (bD:FM):GS:=
 (bz 4 (bA aD (gY (ao 1) (bg (eF (ao 3)) (bg (eF (eP gW (aa (eC (.int 1)) (aa (eC (.int 2)) (aa (eC (.int 3)) (aa (eC (.int 4)) (aa (eC (.int 6)) (aa (eC (.int 9)) aq)))))))) bX)))))
noncomputable def UL (aU:FM) (aI:FM) (aA:FM) (aD:FM) (bC:FM) (aX:FM) (aP:FM) (bD:FM):GS:=
 (bz 5 (bA aD (gY (ao 1) (bg (eF (ao 3)) (bg (eF (eP gW (aa (eC (.int 1)) (aa (eC (.int 2)) (aa (eC (.int 3)) (aa (eC (.int 4)) (aa (eC (.int 6)) (aa (eC (.int 9)) aq)))))))) bX)))))
noncomputable def UM (aU:FM) (aI:FM) (aA:FM) (aD:FM) (bC:FM) (aX:FM) (aP:FM) (bD:FM):GS:=
 (jX (bName 6) (cU (eF (eP gW (aa (eC (.str "both")) (aa (eC (.str "either")) (aa (eC (.str "but")) (aa (eC (.str "unlike")) aq))))))) (wZ aU aI aA aD bC aX aP bD))
noncomputable def UN (aU:FM) (aI:FM) (aA:FM) (aD:FM) (bC:FM) (aX:FM) (aP:FM) (bD:FM):GS:=
 (bz 7 (bA aP (bg (aL 4 (eC (.int 0))) (bg (eF (bO [] (cU (aL 4 (eC (.int 1)))) aO (eQ (ux (qB (eF (ao 0))))))) bX))))
noncomputable def UO (aU:FM) (aI:FM) (aA:FM) (aD:FM) (bC:FM) (aX:FM) (aP:FM) (bD:FM):GS:=
 (ff (eP xD (aa (eF (eP jE (aa (eF (bA bD (bg (eF (ao 2)) (bg (eF (ao 4)) bX)))) aq))) (aa (eF (eP jE (aa (eF (ao 7)) aq))) aq))))
theorem lv_eq (aU:FM) (aI:FM) (aA:FM) (aD:FM) (bC:FM) (aX:FM) (aP:FM) (bD:FM):zl aU aI aA aD bC aX aP bD=aR (UH aU aI aA aD bC aX aP bD) (aR (UI aU aI aA aD bC aX aP bD) (aR (UJ aU aI aA aD bC aX aP bD) (aR (UK aU aI aA aD bC aX aP bD) (aR (UL aU aI aA aD bC aX aP bD) (aR (UM aU aI aA aD bC aX aP bD) (aR (UN aU aI aA aD bC aX aP bD) (UO aU aI aA aD bC aX aP bD))))))):=rfl
section
variable {f1 f2 f3 f4 f5 f6 f7 f8:FM}{td a b o d e:D}{sd:Str}{z0 z1 z3 z4 z5 z6 z7:Option U}
theorem vt (h1:f5 [.t td,.t o,.t a,.t b]=some (.t d,[])) (h2:f6 [.t o,.t a,.t b]=some (.t d,[])) (r:jE [d]=some (.t (.str sd))):
  wZ f1 f2 f3 f4 f5 f6 f7 f8 [z0,z1,some (.t td),z3,some (.t a),some (.t b),some (.t o),z7]=some (.nx [z0,z1,some (.t td),z3,some (.t a),some (.t b),some (.t o),z7]):=by
 have q:=tu (.str sd)
 have d0:iS (.str sd)<=40:=Nat.zero_le _
 simp[wZ,h1,h2,r,q,d0]
theorem QV {d:D}{z2 z4 z5:Option U}(h6:iE z6=false):bName 6 d [z0,z1,z2,z3,z4,z5,z6,z7]=some [z0,z1,z2,z3,z4,z5,some (.t d),z7]:=by
 simp[-dO,cE,h6]
theorem UP {d1 d2 d3 d4:D}{s1 s2 s3 s4:Str}(h1:f5 [.t td,.t (.str "both"),.t a,.t b]=some (.t d1,[])) (k1:f6 [.t (.str "both"),.t a,.t b]=some (.t d1,[])) (r1:jE [d1]=some (.t (.str s1)))
  (h2:f5 [.t td,.t (.str "either"),.t a,.t b]=some (.t d2,[])) (k2:f6 [.t (.str "either"),.t a,.t b]=some (.t d2,[])) (r2:jE [d2]=some (.t (.str s2)))
  (h3:f5 [.t td,.t (.str "but"),.t a,.t b]=some (.t d3,[])) (k3:f6 [.t (.str "but"),.t a,.t b]=some (.t d3,[])) (r3:jE [d3]=some (.t (.str s3)))
  (h4:f5 [.t td,.t (.str "unlike"),.t a,.t b]=some (.t d4,[])) (k4:f6 [.t (.str "unlike"),.t a,.t b]=some (.t d4,[])) (r4:jE [d4]=some (.t (.str s4))):
  UM f1 f2 f3 f4 f5 f6 f7 f8 [z0,z1,some (.t td),z3,some (.t a),some (.t b),none,z7]=some (.nx [z0,z1,some (.t td),z3,some (.t a),some (.t b),some (.t (.str "unlike")),z7]):=by
 unfold UM
 have ei:cU (eF (eP gW (aa (eC (.str "both")) (aa (eC (.str "either")) (aa (eC (.str "but")) (aa (eC (.str "unlike")) aq)))))) [z0,z1,some (.t td),z3,some (.t a),some (.t b),none,z7]=some ([.str "both",.str "either",.str "but",.str "unlike"],[z0,z1,some (.t td),z3,some (.t a),some (.t b),none,z7]):=rfl
 rw[wF,ei,Option.bind_some]
 show loop _ _ [.str "both",.str "either",.str "but",.str "unlike"] _=_
 rw[jP,QV rfl,Option.bind_some,vt h1 k1 r1,Option.bind_some]
 show loop _ _ [.str "either",.str "but",.str "unlike"] _=_
 rw[jP,QV rfl,Option.bind_some,vt h2 k2 r2,Option.bind_some]
 show loop _ _ [.str "but",.str "unlike"] _=_
 rw[jP,QV rfl,Option.bind_some,vt h3 k3 r3,Option.bind_some]
 show loop _ _ [.str "unlike"] _=_
 rw[jP,QV rfl,Option.bind_some,vt h4 k4 r4,Option.bind_some]
 rfl
theorem v0 {x:D}{o0:MO}(h:f1 [.t x,.t (.int 0)]=some (.m o0,[])):UH f1 f2 f3 f4 f5 f6 f7 f8 [some (.t x),none,none,none,none,none,none,none]=some (.nx [some (.t x),some (.m o0),none,none,none,none,none,none]):=by
 simp[UH,h]
theorem v1 {o0 o1:MO}(h:f2 [.b o0]=some (.t td,[o1])):UI f1 f2 f3 f4 f5 f6 f7 f8 [z0,some (.m o0),none,none,none,none,none,none]=some (.nx [z0,some (.m o1),some (.t td),none,none,none,none,none]):=by
 simp[UI,h]
theorem v2 {hs:List D}{W:Nat}(h:f3 [.t td]=some (.m (.lst hs),[])) (hw:hs.length=W):UJ f1 f2 f3 f4 f5 f6 f7 f8 [z0,z1,some (.t td),none,none,none,none,none]=some (.nx [z0,z1,some (.t td),some (.t (.int W)),none,none,none,none]):=by
 subst hw
 simp[UJ,h]
theorem v3 {o1 o2:MO}{W:Int}(h:f4 [.b o1,.t (.int W),.t (.lst lZ)]=some (.t a,[o2])):UK f1 f2 f3 f4 f5 f6 f7 f8 [z0,some (.m o1),some (.t td),some (.t (.int W)),none,none,none,none]=some (.nx [z0,some (.m o2),some (.t td),some (.t (.int W)),some (.t a),none,none,none]):=by
 unfold lZ at h
 simp[UK,h]
theorem v4 {o1 o2:MO}{W:Int}(h:f4 [.b o1,.t (.int W),.t (.lst lZ)]=some (.t a,[o2])):UL f1 f2 f3 f4 f5 f6 f7 f8 [z0,some (.m o1),some (.t td),some (.t (.int W)),z4,none,none,none]=some (.nx [z0,some (.m o2),some (.t td),some (.t (.int W)),z4,some (.t a),none,none]):=by
 unfold lZ at h
 simp[UL,h]
theorem v6 {nt:D}{ws:List D}(hw:∀w∈ws,∃b,w=D.bl b) (hl:ws.length<=1000) (h:f7 [.t nt,.t (.lst (ws.map rX))]=some (.t d,[])):UN f1 f2 f3 f4 f5 f6 f7 f8 [z0,z1,some (.t td),z3,some (.t (.tup [nt,.tup ws])),z5,z6,none]=some (.nx [z0,z1,some (.t td),z3,some (.t (.tup [nt,.tup ws])),z5,z6,some (.t d)]):=by
 have e:=fun z0 z1 z2 z3 z4 z5 z6 z7=>Po (z0:=z0) (z1:=z1) (z2:=z2) (z3:=z3) (z4:=z4) (z5:=z5) (z6:=z6) (z7:=z7) ws [] hw
 have hl2:ws.length<=100000:=by omega
 generalize ws.map rX=vs at *
 simp[UN,at2,eB,bZ,hl2,e,h]
theorem v7 (h:f8 [.t td,.t a]=some (.t d,[])) (r:jE [d]=some (.t (.str sd))):UO f1 f2 f3 f4 f5 f6 f7 f8 [z0,z1,some (.t td),z3,some (.t a),z5,z6,some (.t d)]=some (.rt (.t (.bl true)) [z0,z1,some (.t td),z3,some (.t a),z5,z6,some (.t d)]):=by
 have q:=tu (.str sd)
 have d0:iS (.str sd)<=40:=Nat.zero_le _
 simp[UO,h,r,q,d0]
end
noncomputable abbrev UQ (g:FM->FM->FM->FM->FM->FM->FM->FM->GS):GS:=g So.mq So.rY Sq.lg So.iY So.mj jD oG So.turnF
theorem Df : ∀ us r, C9 63 us = some r -> bG 8 (UQ zl) us = some r := by
  intro us r hr
  unfold C9 at hr
  split at hr
  . rename_i xs
    obtain⟨⟨_,hx⟩,rfl⟩:=dX hr
    have q0:∃o0,So.mq [.t (.lst xs),.t (.int 0)]=some (.m o0,[])/\Fq o0:=⟨Pc xs 0 0 0,rfl,xs,0,0,0,Iu hx,rfl⟩
    obtain⟨o0,e0,F0⟩:=q0
    obtain⟨T,o1,e1,F1,hT,hp⟩:=Pe wY F0
    have e1:rY [.b o0]=some (.t (kY T),[o1]):=e1
    have e2:=Sq.HH hT hp
    have hw:=tM hp
    have wl:((pA T).map Ay).length=(pA T).length:=List.length_map _
    generalize (pA T).map Ay=hs at *
    have XN:(pA T).length<=44:=by omega
    generalize (pA T).length=W at *
    have hW:W < 900:=by omega
    obtain⟨n1,x1,w1,o2,e3,F2,A1,m1⟩:=Cd wY F1 hW (sz:=lZ) rfl J6
    obtain⟨n2,x2,w2,o3,e4,F3,A2,m2⟩:=Cd wY F2 hW (sz:=lZ) rfl J6
    have e3:So.iY [.b o1,.t (.int W),.t (.lst lZ)]=some (.t (mT n1 W x1 w1),[o2]):=e3
    have e4:So.iY [.b o2,.t (.int W),.t (.lst lZ)]=some (.t (mT n2 W x2 w2),[o3]):=e4
    obtain⟨k,hk,t1,t2⟩:∃k:List Nat->Nat,(∀cs,Vd W cs->k cs < 81)/\kM W k x1/\kM W k x2:=by
      have r1:∀cs,Vd W cs->led x1 cs 0 < 9:=fun cs v=>Nat.lt_of_lt_of_le (fy A1.lt cs 0 v A1.pos) m1
      have r2:∀cs,Vd W cs->led x2 cs 0 < 9:=fun cs v=>Nat.lt_of_lt_of_le (fy A2.lt cs 0 v A2.pos) m2
      refine⟨fun cs=>led x1 cs 0 * 9+led x2 cs 0,fun cs v=>?_,fun cs ds v v' e=>?_,fun cs ds v v' e=>?_⟩
      . have:=r1 cs v;have:=r2 cs v
        show led x1 cs 0 * 9+led x2 cs 0 < 81
        omega
      all_goals
        have e:led x1 cs 0 * 9+led x2 cs 0=led x1 ds 0 * 9+led x2 ds 0:=e
        have:=r1 cs v;have:=r2 cs v
        have:=r1 ds v';have:=r2 ds v'
        omega
    have hb:∀{n:Nat}{x:Nat->Nat->Nat}{w:Nat->D},Mc W n x w->kM W k x->Jd W k (fun cs=>bo (w (led x cs 0))) (mT n W x w):=fun {n x w} A t=>⟨n,x,w,rfl,A,fun cs v=>A.bo (fy A.lt cs 0 v A.pos),t⟩
    have J1:=hb A1 t1
    have J2:=hb A2 t2
    have B1:Mc W n1 x1 (fun s=>rX (w1 s)):=⟨A1.pos,A1.few,A1.lt,fun s hs=>by obtain⟨b,e⟩:=A1.bl s hs;exact⟨!b,by rw[e];rfl⟩⟩
    obtain⟨n',nx',jL,el,C,b',A'⟩:=FJ (b:=false) B1 hW
    have el:oG [.t (.tup (aF n1 W x1)),.t (.lst (((List.range n1).map w1).map rX))]=some (.t (mT n' W nx' jL),[]):=by
      rw[List.map_map]
      exact el
    have b2:∀cs,Vd W cs->jL (led nx' cs 0)= .bl (!bo (w1 (led x1 cs 0))):=fun cs v=>by
      rw[b' cs v]
      show rX (w1 (led x1 cs 0))=_
      rw[A1.bo (fy A1.lt cs 0 v A1.pos)]
      rfl
    have CL:Cn W k (fun cs=>!bo (w1 (led x1 cs 0))) (mT n' W nx' jL):=⟨n',nx',jL,rfl,A',b2,wW C b2 fun cs ds es v1 v2 v3 e=>by
      have q:=J1.tb cs ds es v1 v2 v3 e
      exact congrArg (fun b=>!b) q,C⟩
    obtain⟨tn,Zu,XO⟩:=Il (td:=kY T) hW J1
    have qt:tn=mT n' W nx' jL:=XO.one CL fun cs _=>rfl
    have jn:∀o:Op,∃d',So.mj [.t (kY T),.t (.str o.s),.t (mT n1 W x1 w1),.t (mT n2 W x2 w2)]=some (.t d',[])/\jD [.t (.str o.s),.t (mT n1 W x1 w1),.t (mT n2 W x2 w2)]=some (.t d',[])/\jE [d']=some (.t (.str (toPy d').shown)):=fun o=>by
      obtain⟨d1,u1,c1⟩:=Im (td:=kY T) o hW hk (by decide) J1 J2
      obtain⟨d2,u2,c2⟩:=FO o hW hk (by decide) J1 J2
      have q:d2=d1:=c2.one c1 fun cs _=>rfl
      subst q
      exact⟨d2,u1,u2,J8 c1 XN⟩
    obtain⟨d1,p1,q1,r1⟩:=jn .both
    obtain⟨d2,p2,q2,r2⟩:=jn .either
    obtain⟨d3,p3,q3,r3⟩:=jn .but
    obtain⟨d4,p4,q4,r4⟩:=jn .unlike
    have rt:=J8 XO XN
    rw[<-qt] at el
    have hws:∀w∈(List.range n1).map w1,∃b,w=D.bl b:=fun w hw=>by
      obtain⟨s,hs,rfl⟩:=List.mem_map.mp hw
      exact A1.bl s (List.mem_range.mp hs)
    have few:=A1.few
    have s0:=v0 (f1:=So.mq) (f2:=rY) (f3:=Sq.lg) (f4:=So.iY) (f5:=So.mj) (f6:=jD) (f7:=oG) (f8:=So.turnF) e0
    have s1:=v1 (f1:=So.mq) (f2:=rY) (f3:=Sq.lg) (f4:=So.iY) (f5:=So.mj) (f6:=jD) (f7:=oG) (f8:=So.turnF) (z0:=some (.t (.lst xs))) e1
    have s2:=v2 (f1:=So.mq) (f2:=rY) (f3:=Sq.lg) (f4:=So.iY) (f5:=So.mj) (f6:=jD) (f7:=oG) (f8:=So.turnF) (z0:=some (.t (.lst xs))) (z1:=some (.m o1)) e2 wl
    have s3:=v3 (f1:=So.mq) (f2:=rY) (f3:=Sq.lg) (f4:=So.iY) (f5:=So.mj) (f6:=jD) (f7:=oG) (f8:=So.turnF) (td:=kY T) (z0:=some (.t (.lst xs))) e3
    have s4:=v4 (f1:=So.mq) (f2:=rY) (f3:=Sq.lg) (f4:=So.iY) (f5:=So.mj) (f6:=jD) (f7:=oG) (f8:=So.turnF) (td:=kY T) (z0:=some (.t (.lst xs))) (z4:=some (.t (mT n1 W x1 w1))) e4
    have s5:=UP (f1:=So.mq) (f2:=rY) (f3:=Sq.lg) (f4:=So.iY) (f7:=oG) (f8:=So.turnF) (z0:=some (.t (.lst xs))) (z1:=some (.m o3)) (z3:=some (.t (.int W))) (z7:=none) p1 q1 r1 p2 q2 r2 p3 q3 r3 p4 q4 r4
    have s6:=v6 (f1:=So.mq) (f2:=rY) (f3:=Sq.lg) (f4:=So.iY) (f5:=So.mj) (f6:=jD) (f8:=So.turnF) (td:=kY T) (z0:=some (.t (.lst xs))) (z1:=some (.m o3)) (z3:=some (.t (.int W))) (z5:=some (.t (mT n2 W x2 w2))) (z6:=some (.t (.str "unlike"))) hws (by rw[List.length_map,List.length_range];omega) el
    have s7:=v7 (f1:=So.mq) (f2:=rY) (f3:=Sq.lg) (f4:=So.iY) (f5:=So.mj) (f6:=jD) (f7:=oG) (z0:=some (.t (.lst xs))) (z1:=some (.m o3)) (z3:=some (.t (.int W))) (z5:=some (.t (mT n2 W x2 w2))) (z6:=some (.t (.str "unlike"))) Zu rt
    have all:UQ zl [some (.t (.lst xs)),none,none,none,none,none,none,none]=some (.rt (.t (.bl true)) [some (.t (.lst xs)),some (.m o3),some (.t (kY T)),some (.t (.int W)),some (.t (mT n1 W x1 w1)),some (.t (mT n2 W x2 w2)),some (.t (.str "unlike")),some (.t tn)]):=by
      unfold UQ
      rw[lv_eq,Sq.bw s0,Sq.bw s1,Sq.bw s2,Sq.bw s3,Sq.bw s4,Sq.bw s5]
      show aR _ _ [some (.t (.lst xs)),some (.m o3),some (.t (kY T)),some (.t (.int W)),some (.t (.tup [.tup (aF n1 W x1),.tup ((List.range n1).map w1)])),some (.t (mT n2 W x2 w2)),some (.t (.str "unlike")),none]=_
      rw[Sq.bw s6]
      exact s7
    exact nh all rfl
  . cases hr
end Sv
end
section
namespace K55
open PySem PySem.Spec PyProof.Rows L2
def top (i:Nat):Stmt:=PySem.Challenge.pw_surewatch_k55_put_together.main.body.getD i (.Pass ⟨0,0,0,0⟩)
open L2 Sw Sq Sl Sk So Sv
noncomputable abbrev jQ:Stmt:=top 4
theorem iu:cj ["nexts","begin","found","seen","at","leads","later"] ["nexts","begin"] (aJ jQ):=⟨rfl,rfl,rfl,by decide +kernel,rfl,by decide +kernel,by decide +kernel⟩
theorem AN {P:Program}{w:World}{K:PySem.W.Frag}{mg:Str->Option Value}{base:Heap}{f:Addr}{fd:FuncData}{n:Nat}{fm:FM}(F:qW K "reached" "reached" jQ f fd) (FT:mg "list" =none) (FU:mg "dict" =none) (fB:mg "len" =none)
  (hf:∀us r,fm us=some r->bG 7 (iW) us=some r):cF P w K mg base jB (n+1) f fd ["nexts","begin"] (spT K 2 fm):=
 vg (g:=iW) F iu (fun cdv A outer s H E hr=>(az (br (i:=2) iu.nd rfl (by first | exact Or.inl rfl | exact Or.inr rfl) (cG Ai rfl FT PyProof.Rows.Boot.list (ak (JE.d (aj 1)) aC)))
  (az (br (i:=3) iu.nd rfl (by first | exact Or.inl rfl | exact Or.inr rfl) (CU rfl rfl FU (JE.d (dZ (jU (by decide) (by decide) rfl (by decide) rfl) rfl (dw (JE.d (aj 1))) (fun _ _ _ _=>cB) (fun _ _ _ _=>(JE.d (cz (ak (JE.d (aj 0)) (ak D8 aC)))))))))
  (az (br (i:=4) iu.nd rfl (by first | exact Or.inl rfl | exact Or.inr rfl) (JD.e aB))
  (az (kT PassesOwn.never (fL v8 (JE.d (aj 4)) (fZ (i:=2) rfl fB)) (az (br (i:=5) iu.nd rfl (by first | exact Or.inl rfl | exact Or.inr rfl) (JD.e (aH (i:=0) (aQ hr) (aH (i:=2) (aQ hr) (JE.d (aj 4)) (fun _ _=>rfl)) (fun _ _=>rfl))))
  (az (mV PassesOwn.never rfl (dw (JE.d (aj 5))) (cT (i:=6) iu.nd rfl (by first | exact Or.inl rfl | exact Or.inr rfl)) (aZ (iN (jO (i:=3) (aQ hr) (JE.d (aj 6))) (az (jC (i:=3) (aQ hr) (JE.d (aj 6)) D8)
  (aZ (gC (JD.e (gD (i:=2) PySem.F.slot_list_append PySem.F.type_list_append dj dP dR (ak (JE.d (aj 6)) aC)))))) fY)))
  (aZ (Lg (i:=4) Kw iu.nd rfl (by first | exact Or.inl rfl | exact Or.inr rfl) aB)))))
  (aZ (bW (aj 2)))))))) hf
noncomputable abbrev lE:Stmt:=top 5
theorem iZ:cj ["one","other","pairs","numbers","nexts","pair","leads","later"] ["one","other"] (aJ lE):=⟨rfl,rfl,rfl,by decide +kernel,rfl,by decide +kernel,by decide +kernel⟩
theorem Dg {P:Program}{w:World}{K:PySem.W.Frag}{mg:Str->Option Value}{base:Heap}{f:Addr}{fd:FuncData}{n:Nat}{fm:FM}(F:qW K "paired" "paired" lE f fd) (fB:mg "len" =none) (Dh:mg "zip" =none) (cQ:mg "tuple" =none)
  (hf:∀us r,fm us=some r->bG 8 (lB) us=some r):cF P w K mg base jB (n+1) f fd ["one","other"] (spT K 2 fm):=
 vg (g:=lB) F iZ (fun cdv A outer s H E hr=>(az (br (i:=2) iZ.nd rfl (by first | exact Or.inl rfl | exact Or.inr rfl) (fX (ak (JE.d (cz (ak aB (ak aB aC)))) aC)))
  (az (br (i:=3) iZ.nd rfl (by first | exact Or.inl rfl | exact Or.inr rfl) (yD (aQ hr) (JE.d (cz (ak aB (ak aB aC)))) aB))
  (az (br (i:=4) iZ.nd rfl (by first | exact Or.inl rfl | exact Or.inr rfl) (fX aC))
  (az (kT PassesOwn.never (fL v8 (fZ (i:=4) rfl fB) (fZ (i:=2) rfl fB)) (az (br (i:=5) iZ.nd rfl (by first | exact Or.inl rfl | exact Or.inr rfl) (JD.e (aH (i:=2) (aQ hr) (fZ (i:=4) rfl fB) (fun _ _=>rfl))))
  (az (br (i:=6) iZ.nd rfl (by first | exact Or.inl rfl | exact Or.inr rfl) (fX aC))
  (az (wz PassesOwn.never rfl (yJ rfl Dh (ak (aH (i:=0) (aQ hr) (aH (i:=5) (aQ hr) aB (fun _ _=>rfl)) (fun _ _=>rfl)) (ak (aH (i:=1) (aQ hr) (aH (i:=5) (aQ hr) aB (fun _ _=>rfl)) (fun _ _=>rfl)) aC))) (cT (i:=7) iZ.nd rfl (by first | exact Or.inl rfl | exact Or.inr rfl)) (az (iN (jO (i:=3) (aQ hr) (JE.d (aj 7))) (az (jC (i:=3) (aQ hr) (JE.d (aj 7)) (fZ (i:=2) rfl fB))
  (aZ (gC (JD.e (gD (i:=2) PySem.F.slot_list_append PySem.F.type_list_append dj dP dR (ak (JE.d (aj 7)) aC)))))) fY)
  (aZ (gC (JD.e (gD (i:=6) PySem.F.slot_list_append PySem.F.type_list_append dj dP dR (ak (aH (i:=3) (aQ hr) (JE.d (aj 7)) (fun _ _=>rfl)) aC)))))))
  (aZ (gC (JD.e (gD (i:=4) PySem.F.slot_list_append PySem.F.type_list_append dj dP dR (ak (JE.d (cG bY rfl cQ PyProof.Rows.Boot.tuple (ak (JE.d (aj 6)) aC))) aC)))))))))
  (aZ (bW (cz (ak (JE.d (aj 2)) (ak (JE.d (aj 4)) aC)))))))))) hf
noncomputable abbrev i6:Stmt:=top 6
theorem jx:cj ["signs","numbers","sign"] ["signs"] (aJ i6):=⟨rfl,rfl,rfl,by decide +kernel,rfl,by decide +kernel,by decide +kernel⟩
theorem zm {P:Program}{w:World}{K:PySem.W.Frag}{mg:Str->Option Value}{base:Heap}{f:Addr}{fd:FuncData}{n:Nat}{fm:FM}(F:qW K "numbered" "numbered" i6 f fd) (fB:mg "len" =none)
  (hf:∀us r,fm us=some r->bG 3 (eO) us=some r):cF P w K mg base jB (n+1) f fd ["signs"] (spT K 1 fm):=
 vg (g:=eO) F jx (fun cdv A outer s H E hr=>(Ox (az (br (i:=1) jx.nd rfl (by first | exact Or.inl rfl | exact Or.inr rfl) Bx)
  (az (mV PassesOwn.never rfl (dw (JE.d (aj 0))) (cT (i:=2) jx.nd rfl (by first | exact Or.inl rfl | exact Or.inr rfl)) (aZ (iN (jO (i:=1) (aQ hr) (JE.d (aj 2))) (aZ (jC (i:=1) (aQ hr) (JE.d (aj 2)) (fZ (i:=1) rfl fB))) fY)))
  (aZ (bW (dZ (fj (i:=1) rfl (by decide) rfl (by decide) rfl rfl (by decide) (by decide) rfl rfl rfl) rfl (dw (JE.d (aj 0))) (fun _ _ _ _=>cB) (fun _ _ _ _=>(aH (i:=1) (aQ hr) (JE.d (aj 0)) (fun _ _=>rfl))))))))
  (az (br (i:=1) jx.nd rfl (by first | exact Or.inl rfl | exact Or.inr rfl) Bw)
  (az (mV PassesOwn.never rfl (dw (JE.d (aj 0))) (cT (i:=2) jx.nd rfl (by first | exact Or.inl rfl | exact Or.inr rfl)) (aZ (iN (jO (i:=1) (aQ hr) (JE.d (aj 2))) (aZ (jC (i:=1) (aQ hr) (JE.d (aj 2)) (fZ (i:=1) rfl fB))) fY)))
  (aZ (bW (dZ (fj (i:=1) rfl (by decide) rfl (by decide) rfl rfl (by decide) (by decide) rfl rfl rfl) rfl (dw (JE.d (aj 0))) (fun _ _ _ _=>cB) (fun _ _ _ _=>(aH (i:=1) (aQ hr) (JE.d (aj 0)) (fun _ _=>rfl)))))))))) hf
noncomputable abbrev gJ:Stmt:=top 7
theorem g9:cj ["nexts","words","most","numbers","count"] ["nexts","words","most"] (aJ gJ):=⟨rfl,rfl,rfl,by decide +kernel,rfl,by decide +kernel,by decide +kernel⟩
theorem uD {P:Program}{w:World}{K:PySem.W.Frag}{mg:Str->Option Value}{base:Heap}{f:Addr}{fd:FuncData}{n:Nat}{fm:FM}(F:qW K "told_apart" "told_apart" gJ f fd) (AO:mg "max" =none) (iw:mg "enumerate" =none) (cQ:mg "tuple" =none)
  {qM:Addr}{vF:FuncData}{cg:FM}(vG:cF P w K mg base jB n qM vF ["signs"] (spT K 1 cg)) (vH:Binds K vF ["signs"] []) (vI:PySem.W.keepIn K (.ref qM)=true) (vJ:mg "numbered" =some (.ref qM))
  (hf:∀us r,fm us=some r->bG 5 (gF cg) us=some r):cF P w K mg base jB (n+1) f fd ["nexts","words","most"] (spT K 3 fm):=
 vg (g:=gF cg) F g9 (fun cdv A outer s H E hr=>(az (br (i:=3) g9.nd rfl (by first | exact Or.inl rfl | exact Or.inr rfl) (bH vG hr rfl vJ vI vH (aY (JE.d (aj 1)) bT)))
  (az (br (i:=4) g9.nd rfl (by first | exact Or.inl rfl | exact Or.inr rfl) (JD.e aB))
  (az (kT PassesOwn.never (fL Af (JE.d (gU (pq rfl) rfl AO PyProof.Rows.Boot.max (ak (JE.d (aj 3)) aC))) (JE.d (aj 4))) (az (br (i:=4) g9.nd rfl (by first | exact Or.inl rfl | exact Or.inr rfl) (eY iG (JE.d (gU (pq rfl) rfl AO PyProof.Rows.Boot.max (ak (JE.d (aj 3)) aC))) aB))
  (az (iN (JW.t (Ld (fL Ao (JE.d (aj 2)) Lc) (Aa (fL Ae (JE.d (aj 4)) (JE.d (aj 2)))))) (aZ Ov) fY)
  (aZ (br (i:=3) g9.nd rfl (by first | exact Or.inl rfl | exact Or.inr rfl) (bH vG hr rfl vJ vI vH (aY (JE.d (CT ⟨(fj (i:=3) rfl (by decide) rfl (by decide) rfl rfl (by decide) (by decide) rfl rfl rfl),rfl,by decide⟩ rfl (wu rfl iw (ak (JE.d (aj 0)) aC)) (fun _ _ _ _=>cB) (fun _ _ _ _=>(JE.d (eY iG (JE.d (cz (ak (aH (i:=2) (aQ hr) (JE.d (aj 0)) (fun _ _=>rfl)) aC))) (JE.d (cG bY rfl cQ PyProof.Rows.Boot.tuple (ak (JE.d (dZ (fj (i:=2) rfl (by decide) rfl (by decide) rfl rfl (by decide) (by decide) rfl rfl rfl) rfl (dw (JE.d (aj 1))) (fun _ _ _ _=>cB) (fun _ _ _ _=>(aH (i:=1) (aQ hr) (JE.d (aj 0)) (fun _ _=>rfl))))) aC)))))))) bT)))))))
  (aZ (bW (aj 3))))))) hf
noncomputable abbrev dW:Stmt:=top 8
theorem bF:cj ["nexts","words","most","spots","places","place","spot","inner","numbers","groups","number","least"] ["nexts","words","most"] (aJ dW):=⟨rfl,rfl,rfl,by decide +kernel,rfl,by decide +kernel,by decide +kernel⟩
theorem qN {P:Program}{w:World}{K:PySem.W.Frag}{mg:Str->Option Value}{base:Heap}{f:Addr}{fd:FuncData}{n:Nat}{fm:FM}(F:qW K "least_machine" "least_machine" dW f fd) (iw:mg "enumerate" =none) (AO:mg "max" =none) (iL:mg "range" =none) (cQ:mg "tuple" =none)
  {ue:Addr}{zo:FuncData}{cM:FM}(FW:cF P w K mg base jB n ue zo ["nexts","begin"] (spT K 2 cM)) (FY:Binds K zo ["nexts","begin"] []) (FZ:PySem.W.keepIn K (.ref ue)=true) (Ga:mg "reached" =some (.ref ue))
  {nB:Addr}{rE:FuncData}{bK:FM}(zp:cF P w K mg base jB n nB rE ["nexts","words","most"] (spT K 3 bK)) (zq:Binds K rE ["nexts","words","most"] []) (zu:PySem.W.keepIn K (.ref nB)=true) (zw:mg "told_apart" =some (.ref nB))
  (hf:∀us r,fm us=some r->bG 12 (dU cM bK) us=some r):cF P w K mg base jB (n+1) f fd ["nexts","words","most"] (spT K 3 fm):=
 vg (g:=dU cM bK) F bF (fun cdv A outer s H E hr=>(az (br (i:=3) bF.nd rfl (by first | exact Or.inl rfl | exact Or.inr rfl) (bH FW hr rfl Ga FZ FY (aY (JE.d (aj 0)) (aY (JE.d (fX (ak aB aC))) bT))))
  (az (br (i:=4) bF.nd rfl (by first | exact Or.inl rfl | exact Or.inr rfl) Bx)
  (az (wz PassesOwn.never rfl (wu rfl iw (ak (JE.d (aj 3)) aC)) (sZ rfl (gX (cT (i:=5) bF.nd rfl (by first | exact Or.inl rfl | exact Or.inr rfl)) (gX (cT (i:=6) bF.nd rfl (by first | exact Or.inl rfl | exact Or.inr rfl)) pQ))) (aZ (jC (i:=4) (aQ hr) (JE.d (aj 6)) (JE.d (aj 5)))))
  (az (pT (i:=7) bF.nd rfl (by first | exact Or.inl rfl | exact Or.inr rfl) (iU (bJ:=["nexts","places"]) (cap:=[0,4]) rfl (by decide) rfl (by decide) rfl rfl (by decide) (by first | exact Or.inl rfl | exact Or.inr rfl) (by decide) rfl rfl rfl) rfl (dw (JE.d (aj 3))) (fun _ _ _ _=>cB) (fun _ _ _ _=>(JE.d (cG bY rfl cQ PyProof.Rows.Boot.tuple (ak (JE.d (dZ (fj (i:=2) rfl (by decide) rfl (by decide) rfl rfl (by decide) (by decide) rfl rfl rfl) rfl (dw (aH (i:=1) (aQ hr) (JE.d (aj 0)) (fun _ _=>rfl))) (fun _ _ _ _=>cB) (fun _ _ _ _=>(aH (i:=1) (aQ hr) (JE.d (aj 0)) (fun _ _=>rfl))))) aC)))))
  (az (br (i:=8) bF.nd rfl (by first | exact Or.inl rfl | exact Or.inr rfl) (bH zp hr rfl zw zu zq (aY (JE.d (aj 7)) (aY (JE.d (dZ (fj (i:=1) rfl (by decide) rfl (by decide) rfl rfl (by decide) (by decide) rfl rfl rfl) rfl (dw (JE.d (aj 3))) (fun _ _ _ _=>cB) (fun _ _ _ _=>(aH (i:=1) (aQ hr) (JE.d (aj 0)) (fun _ _=>rfl))))) (aY (JE.d (aj 2)) bT)))))
  (HA (i:=9) bF.nd rfl (by first | exact Or.inl rfl | exact Or.inr rfl) (jU (by decide) (by decide) rfl (by decide) rfl) rfl (jN rfl iL (ak (JE.d (eY iG (JE.d (gU (pq rfl) rfl AO PyProof.Rows.Boot.max (ak (JE.d (aj 8)) aC))) aB)) aC)) (Lq PassesOwn.never rfl (wu rfl iw (ak (JE.d (aj 8)) aC)) (sZ rfl (gX (cT (i:=5) bF.nd rfl (by first | exact Or.inl rfl | exact Or.inr rfl)) (gX (cT (i:=10) bF.nd rfl (by first | exact Or.inl rfl | exact Or.inr rfl)) pQ))) (Lp (i:=9) (JE.d (aj 10)) (aH (i:=3) (aQ hr) (JE.d (aj 5)) (fun _ _=>rfl)) (by intro _ _;rfl))) (az (pT (i:=11) bF.nd rfl (by first | exact Or.inl rfl | exact Or.inr rfl) (iU (bJ:=["nexts","numbers","places"]) (cap:=[0,8,4]) rfl (by decide) rfl (by decide) rfl rfl (by decide) (by first | exact Or.inl rfl | exact Or.inr rfl) (by decide) rfl rfl rfl) rfl (dw (JE.d (aj 9))) (fun _ _ _ _=>cB) (fun _ _ _ _=>(JE.d (cG bY rfl cQ PyProof.Rows.Boot.tuple (ak (JE.d (dZ (iU (bJ:=["numbers","places"]) (cap:=[2,3]) rfl (by decide) rfl (by decide) rfl rfl (by decide) (by first | exact Or.inl rfl | exact Or.inr rfl) (by decide) rfl rfl rfl) rfl (dw (aH (i:=1) (aQ hr) (aH (i:=0) (aQ hr) aB (fun _ _=>rfl)) (fun _ _=>rfl))) (fun _ _ _ _=>cB) (fun _ _ _ _=>(aH (i:=1) (aQ hr) (aH (i:=2) (aQ hr) (JE.d (aj 0)) (fun _ _=>rfl)) (fun _ _=>rfl))))) aC)))))
  (aZ (bW (cz (ak (JE.d (cG bY rfl cQ PyProof.Rows.Boot.tuple (ak (JE.d (aj 11)) aC))) (ak (JE.d (cG bY rfl cQ PyProof.Rows.Boot.tuple (ak (JE.d (dZ (fj (i:=1) rfl (by decide) rfl (by decide) rfl rfl (by decide) (by decide) rfl rfl rfl) rfl (dw (JE.d (aj 9))) (fun _ _ _ _=>cB) (fun _ _ _ _=>(aH (i:=1) (aQ hr) (aH (i:=0) (aQ hr) aB (fun _ _=>rfl)) (fun _ _=>rfl))))) aC))) (ak (JE.d (aj 9)) aC)))))))))))))) hf
noncomputable abbrev ow:Stmt:=top 10
theorem Gb:cj ["op","one","other"] ["op","one","other"] (aJ ow):=⟨rfl,rfl,rfl,by decide +kernel,rfl,by decide +kernel,by decide +kernel⟩
theorem Gd {P:Program}{w:World}{K:PySem.W.Frag}{mg:Str->Option Value}{base:Heap}{f:Addr}{fd:FuncData}{n:Nat}{fm:FM}(F:qW K "by_op" "by_op" ow f fd)
  (hf:∀us r,fm us=some r->bG 3 (sF) us=some r):cF P w K mg base jB (n+1) f fd ["op","one","other"] (spT K 3 fm):=
 vg (g:=sF) F Gb (fun cdv A outer s H E hr=>(az (iN (fL (j3 hr.units) (JE.d (aj 0)) dN) (aZ (bW (JD.e (Ab (JE.d (aj 1)) (sW (JE.d (aj 2))))))) fY)
  (az (iN (fL (j3 hr.units) (JE.d (aj 0)) dN) (aZ (bW (JD.e (Jx (JE.d (aj 1)) (sW (JE.d (aj 2))))))) fY)
  (az (iN (fL (j3 hr.units) (JE.d (aj 0)) dN) (aZ (bW (JD.e (Ab (JE.d (aj 1)) (sW (Ac (JE.d (aj 2)))))))) fY)
  (aZ (bW (qu (Ah hr.units) (JE.d (aj 1)) (JE.d (aj 2))))))))) hf
noncomputable abbrev fC:Stmt:=top 13
theorem fR:cj ["op","one","other","found","truths","least","groups"] ["op","one","other"] (aJ fC):=⟨rfl,rfl,rfl,by decide +kernel,rfl,by decide +kernel,by decide +kernel⟩
theorem rZ {P:Program}{w:World}{K:PySem.W.Frag}{mg:Str->Option Value}{base:Heap}{f:Addr}{fd:FuncData}{n:Nat}{fm:FM}(F:qW K "least_joined" "least_joined" fC f fd){jy:Tok}(iz:mg "MOST_SPOTS" =some (.int 300 jy))
  {w4:Addr}{Ce:FuncData}{dM:FM}(IP:cF P w K mg base jB n w4 Ce ["one","other"] (spT K 2 dM)) (IQ:Binds K Ce ["one","other"] []) (IS:PySem.W.keepIn K (.ref w4)=true) (IT:mg "paired" =some (.ref w4))
  {AQ:Addr}{Ge:FuncData}{gf:FM}(Mm:cF P w K mg base jB n AQ Ge ["op","one","other"] (spT K 3 gf)) (Mn:Binds K Ge ["op","one","other"] []) (Mp:PySem.W.keepIn K (.ref AQ)=true) (Mq:mg "by_op" =some (.ref AQ))
  {dF:Addr}{gz:FuncData}{aG:FM}(j8:cF P w K mg base jB n dF gz ["nexts","words","most"] (spT K 3 aG)) (j9:Binds K gz ["nexts","words","most"] []) (kg:PySem.W.keepIn K (.ref dF)=true) (kh:mg "least_machine" =some (.ref dF))
  (hf:∀us r,fm us=some r->bG 7 (dD dM gf aG) us=some r):cF P w K mg base jB (n+1) f fd ["op","one","other"] (spT K 3 fm):=
 vg (g:=dD dM gf aG) F fR (fun cdv A outer s H E hr=>(az (br (i:=3) fR.nd rfl (by first | exact Or.inl rfl | exact Or.inr rfl) (bH IP hr rfl IT IS IQ (aY (aH (i:=1) (aQ hr) aB (fun _ _=>rfl)) (aY (aH (i:=2) (aQ hr) aB (fun _ _=>rfl)) bT))))
  (az (pT (i:=4) fR.nd rfl (by first | exact Or.inl rfl | exact Or.inr rfl) (iU (bJ:=["one","op","other"]) (cap:=[1,0,2]) rfl (by decide) rfl (by decide) rfl rfl (by decide) (by first | exact Or.inl rfl | exact Or.inr rfl) (by decide) rfl rfl rfl) rfl (dw (aH (i:=3) (aQ hr) aB (fun _ _=>rfl))) (fun _ _ _ _=>cB) (fun _ _ _ _=>(JE.d (bH Mm hr rfl Mq Mp Mn (aY (JE.d (aj 2)) (aY (JE.d (pO v9 (aH (i:=1) (aQ hr) aB (fun _ _=>rfl)) (aH (i:=0) (aQ hr) aB (fun _ _=>rfl)) (fun _ _=>rfl))) (aY (JE.d (pO v9 (aH (i:=3) (aQ hr) aB (fun _ _=>rfl)) (aH (i:=0) (aQ hr) aB (fun _ _=>rfl)) (fun _ _=>rfl))) bT)))))))
  (az (br (i:=5) fR.nd rfl (by first | exact Or.inl rfl | exact Or.inr rfl) (bH j8 hr rfl kh kg j9 (aY (aH (i:=3) (aQ hr) aB (fun _ _=>rfl)) (aY (JE.d (aj 4)) (aY (Bs rfl iz) bT)))))
  (az (pT (i:=6) fR.nd rfl (by first | exact Or.inl rfl | exact Or.inr rfl) (fj (i:=3) rfl (by decide) rfl (by decide) rfl rfl (by decide) (by decide) rfl rfl rfl) rfl (dw (aH (i:=5) (aQ hr) aB (fun _ _=>rfl))) (fun _ _ _ _=>cB) (fun _ _ _ _=>(JE.d (dZ (fj (i:=1) rfl (by decide) rfl (by decide) rfl rfl (by decide) (by decide) rfl rfl rfl) rfl (dw (JE.d (aj 0))) (fun _ _ _ _=>cB) (fun _ _ _ _=>(JE.d (pO v9 (aH (i:=1) (aQ hr) aB (fun _ _=>rfl)) (JE.d (aj 0)) (fun _ _=>rfl))))))))
  (aZ (bW (cz (ak (aH (i:=5) (aQ hr) aB (fun _ _=>rfl)) (ak (aH (i:=5) (aQ hr) aB (fun _ _=>rfl)) (ak (JE.d (aj 6)) aC))))))))))) hf
noncomputable abbrev lF:Stmt:=top 14
theorem vK:cj ["table","op","one","other","least"] ["table","op","one","other"] (aJ lF):=⟨rfl,rfl,rfl,by decide +kernel,rfl,by decide +kernel,by decide +kernel⟩
theorem Di {P:Program}{w:World}{K:PySem.W.Frag}{mg:Str->Option Value}{base:Heap}{f:Addr}{fd:FuncData}{n:Nat}{fm:FM}(F:qW K "joined" "joined" lF f fd)
  {kN:Addr}{oR:FuncData}{g8:FM}(uE:cF P w K mg base jB n kN oR ["op","one","other"] (spT K 3 g8)) (uF:Binds K oR ["op","one","other"] []) (uG:PySem.W.keepIn K (.ref kN)=true) (uH:mg "least_joined" =some (.ref kN))
  (hf:∀us r,fm us=some r->bG 5 (lD g8) us=some r):cF P w K mg base jB (n+1) f fd ["table","op","one","other"] (spT K 4 fm):=
 vg (g:=lD g8) F vK (fun cdv A outer s H E hr=>(az (br (i:=4) vK.nd rfl (by first | exact Or.inl rfl | exact Or.inr rfl) (bH uE hr rfl uH uG uF (aY (JE.d (aj 1)) (aY (JE.d (aj 2)) (aY (JE.d (aj 3)) bT)))))
  (aZ (bW (cz (ak (aH (i:=4) (aQ hr) aB (fun _ _=>rfl)) (ak (aH (i:=4) (aQ hr) aB (fun _ _=>rfl)) aC))))))) hf
noncomputable abbrev lG:Stmt:=top 15
theorem vL:cj ["table","judge","least"] ["table","judge"] (aJ lG):=⟨rfl,rfl,rfl,by decide +kernel,rfl,by decide +kernel,by decide +kernel⟩
theorem Dj {P:Program}{w:World}{K:PySem.W.Frag}{mg:Str->Option Value}{base:Heap}{f:Addr}{fd:FuncData}{n:Nat}{fm:FM}(F:qW K "turned" "turned" lG f fd){jy:Tok}(iz:mg "MOST_SPOTS" =some (.int 300 jy))
  {dF:Addr}{gz:FuncData}{aG:FM}(j8:cF P w K mg base jB n dF gz ["nexts","words","most"] (spT K 3 aG)) (j9:Binds K gz ["nexts","words","most"] []) (kg:PySem.W.keepIn K (.ref dF)=true) (kh:mg "least_machine" =some (.ref dF))
  (hf:∀us r,fm us=some r->bG 3 (lC aG) us=some r):cF P w K mg base jB (n+1) f fd ["table","judge"] (spT K 2 fm):=
 vg (g:=lC aG) F vL (fun cdv A outer s H E hr=>(az (br (i:=2) vL.nd rfl (by first | exact Or.inl rfl | exact Or.inr rfl) (bH j8 hr rfl kh kg j9 (aY (aH (i:=1) (aQ hr) aB (fun _ _=>rfl)) (aY (JE.d (dZ (jU (by decide) (by decide) rfl (by decide) rfl) rfl (dw (aH (i:=1) (aQ hr) aB (fun _ _=>rfl))) (fun _ _ _ _=>cB) (fun _ _ _ _=>(Ac (JE.d (aj 0)))))) (aY (Bs rfl iz) bT)))))
  (aZ (bW (cz (ak (aH (i:=2) (aQ hr) aB (fun _ _=>rfl)) (ak (aH (i:=2) (aQ hr) aB (fun _ _=>rfl)) aC))))))) hf
noncomputable abbrev iA:Stmt:=top 17
theorem w5:cj ["_law_script","_law_at"] ["_law_script","_law_at"] (aJ iA):=⟨rfl,rfl,rfl,by decide +kernel,rfl,by decide +kernel,by decide +kernel⟩
theorem xg {P:Program}{w:World}{K:PySem.W.Frag}{mg:Str->Option Value}{base:Heap}{f:Addr}{fd:FuncData}{n:Nat}{fm:FM}(F:qW K "_law_feed" "_law_feed" iA f fd)
  (hf:∀us r,fm us=some r->bG 2 (So.kG) us=some r):cF P w K mg base jB (n+1) f fd ["_law_script","_law_at"] (spT K 2 fm):=
 vg (g:=So.kG) F w5 (fun cdv A outer s H E hr=>(aZ (bW (fX (ak (JE.d (aj 0)) (ak (JE.d (aj 1)) (ak aB (ak aB aC)))))))) hf
noncomputable abbrev iB:Stmt:=top 18
theorem gK:cj ["_law_feed_here","_law_many","_law_found","_law_cell","_law_mixed"] ["_law_feed_here","_law_many"] (aJ iB):=⟨rfl,rfl,rfl,by decide +kernel,rfl,by decide +kernel,by decide +kernel⟩
theorem xh {P:Program}{w:World}{K:PySem.W.Frag}{mg:Str->Option Value}{base:Heap}{f:Addr}{fd:FuncData}{n:Nat}{fm:FM}(F:qW K "_law_take" "_law_take" iB f fd) (fB:mg "len" =none)
  (hf:∀us r,fm us=some r->bG 5 (So.fJ) us=some r):cF P w K mg base jB (n+1) f fd ["_law_feed_here","_law_many"] (spT K 2 fm):=
 vg (g:=So.fJ) F gK (fun cdv A outer s H E hr=>(az (jC (i:=0) (aQ hr) aB (JE.d (eY iG (aH (i:=0) (aQ hr) aB (fun _ _=>rfl)) aB)))
  (az (iN (fL Af (aH (i:=0) (aQ hr) aB (fun _ _=>rfl)) (JE.d (aj 1))) (az (br (i:=2) gK.nd rfl (by first | exact Or.inl rfl | exact Or.inr rfl) (eY lO (aH (i:=0) (aQ hr) aB (fun _ _=>rfl)) (JE.d (aj 1))))
  (az (jC (i:=0) (aQ hr) aB (JE.d (eY sy (aH (i:=0) (aQ hr) aB (fun _ _=>rfl)) (JE.d (aj 1)))))
  (aZ (bW (aj 2))))) fY)
  (az (br (i:=3) gK.nd rfl (by first | exact Or.inl rfl | exact Or.inr rfl) (JD.e aB))
  (az (iN (fL Ae (JE.d (gU qw rfl fB PySem.boot_len (ak (aH (i:=0) (aQ hr) aB (fun _ _=>rfl)) aC))) aB) (aZ (br (i:=3) gK.nd rfl (by first | exact Or.inl rfl | exact Or.inr rfl) (pO v9 (aH (i:=0) (aQ hr) aB (fun _ _=>rfl)) (JE.d (eY lO (aH (i:=0) (aQ hr) aB (fun _ _=>rfl)) (JE.d (gU qw rfl fB PySem.boot_len (ak (aH (i:=0) (aQ hr) aB (fun _ _=>rfl)) aC))))) (fun _ _=>rfl)))) fY)
  (az (jC (i:=0) (aQ hr) aB (JE.d (eY iG (aH (i:=0) (aQ hr) aB (fun _ _=>rfl)) aB)))
  (az (iN (fL Af (JE.d (aj 3)) (JE.d (eY G8 aB aB))) (az (jC (i:=0) (aQ hr) aB (JE.d (eY sy (JE.d (aj 3)) (JE.d (aj 1)))))
  (aZ (bW (eY lO (JE.d (aj 3)) (JE.d (aj 1)))))) fY)
  (az (br (i:=4) gK.nd rfl (by first | exact Or.inl rfl | exact Or.inr rfl) (eY lO (JE.d (eY pP (JE.d (eY iG (JE.d (eY iG (JE.d (eY lO (JE.d (aj 3)) aB)) (JE.d (eY pP aB (aH (i:=0) (aQ hr) aB (fun _ _=>rfl)))))) (JE.d (eY pP aB (aH (i:=0) (aQ hr) aB (fun _ _=>rfl)))))) aB)) aB))
  (az (br (i:=4) gK.nd rfl (by first | exact Or.inl rfl | exact Or.inr rfl) (eY lO (JE.d (eY pP (JE.d (eY iG (JE.d (eY sy (JE.d (aj 4)) aB)) (JE.d (eY pP aB (aH (i:=0) (aQ hr) aB (fun _ _=>rfl)))))) aB)) aB))
  (aZ (bW (eY lO (JE.d (eY sy (JE.d (aj 4)) aB)) (JE.d (aj 1)))))))))))))) hf
noncomputable abbrev gM:Stmt:=top 19
theorem kO:cj ["_law_feed_here","_law_some","_law_many"] ["_law_feed_here"] (aJ gM):=⟨rfl,rfl,rfl,by decide +kernel,rfl,by decide +kernel,by decide +kernel⟩
theorem uI {P:Program}{w:World}{K:PySem.W.Frag}{mg:Str->Option Value}{base:Heap}{f:Addr}{fd:FuncData}{n:Nat}{fm:FM}(F:qW K "_law_table" "_law_table" gM f fd)
  {iy:Addr}{ki:FuncData}{aT:FM}(dG:cF P w K mg base jB n iy ki ["_law_feed_here","_law_many"] (spT K 2 aT)) (dH:Binds K ki ["_law_feed_here","_law_many"] []) (dI:PySem.W.keepIn K (.ref iy)=true) (dJ:mg "_law_take" =some (.ref iy))
  (hf:∀us r,fm us=some r->bG 3 (So.eu aT) us=some r):cF P w K mg base jB (n+1) f fd ["_law_feed_here"] (spT K 1 fm):=
 vg (g:=So.eu aT) F kO (fun cdv A outer s H E hr=>(az (br (i:=1) kO.nd rfl (by first | exact Or.inl rfl | exact Or.inr rfl) (pO v9 (JE.d (fX (ak (JE.d (cz (ak dN (ak dN (ak dN aC))))) (ak (JE.d (cz (ak dN (ak dN (ak dN aC))))) (ak (JE.d (cz (ak dN (ak dN (ak dN aC))))) (ak (JE.d (cz (ak dN (ak dN (ak dN aC))))) aC)))))) (JE.d (bH dG hr rfl dJ dI dH (iI (aj 0) (aY aB bT)))) (fun _ _=>rfl)))
  (az (br (i:=2) kO.nd rfl (by first | exact Or.inl rfl | exact Or.inr rfl) (eY iG aB (JE.d (bH dG hr rfl dJ dI dH (iI (aj 0) (aY aB bT))))))
  (az (iN (fL (j3 hr.units) (JE.d (aj 2)) aB) (aZ (bW (cz (ak (JE.d (cz (ak (aH (i:=1) (aQ hr) aB (fun _ _=>rfl)) (ak (JE.d (eY iG aB (JE.d (bH dG hr rfl dJ dI dH (iI (aj 0) (aY aB bT)))))) aC)))) aC)))) fY)
  (az (iN (fL (j3 hr.units) (JE.d (aj 2)) aB) (aZ (bW (cz (ak (JE.d (cz (ak (aH (i:=1) (aQ hr) aB (fun _ _=>rfl)) (ak (JE.d (bH dG hr rfl dJ dI dH (iI (aj 0) (aY aB bT)))) aC)))) (ak (JE.d (cz (ak (aH (i:=1) (aQ hr) aB (fun _ _=>rfl)) (ak (JE.d (bH dG hr rfl dJ dI dH (iI (aj 0) (aY aB bT)))) aC)))) aC))))) fY)
  (aZ (bW (cz (ak (JE.d (cz (ak (aH (i:=1) (aQ hr) aB (fun _ _=>rfl)) (ak (JE.d (bH dG hr rfl dJ dI dH (iI (aj 0) (aY aB bT)))) aC)))) (ak (JE.d (cz (ak (aH (i:=1) (aQ hr) aB (fun _ _=>rfl)) (ak aB aC)))) (ak (JE.d (cz (ak (aH (i:=1) (aQ hr) aB (fun _ _=>rfl)) (ak (JE.d (bH dG hr rfl dJ dI dH (iI (aj 0) (aY aB bT)))) aC)))) aC))))))))))) hf
noncomputable abbrev cO:Stmt:=top 20
theorem fQ:cj ["_law_table_here","_law_found","_law_name","_law_most"] ["_law_table_here"] (aJ cO):=⟨rfl,rfl,rfl,by decide +kernel,rfl,by decide +kernel,by decide +kernel⟩
theorem pG {P:Program}{w:World}{K:PySem.W.Frag}{mg:Str->Option Value}{base:Heap}{f:Addr}{fd:FuncData}{n:Nat}{fm:FM}(F:qW K "_law_happenings" "_law_happenings" cO f fd) (iL:mg "range" =none)
  (hf:∀us r,fm us=some r->bG 4 (d8) us=some r):cF P w K mg base jB (n+1) f fd ["_law_table_here"] (spT K 1 fm):=
 vg (g:=d8) F fQ (fun cdv A outer s H E hr=>(az (br (i:=1) fQ.nd rfl (by first | exact Or.inl rfl | exact Or.inr rfl) (fX aC))
  (az (mV PassesOwn.never rfl (Ef (JE.d (aj 0))) (sZ rfl (gX (cT (i:=2) fQ.nd rfl (by first | exact Or.inl rfl | exact Or.inr rfl)) (gX (cT (i:=3) fQ.nd rfl (by first | exact Or.inl rfl | exact Or.inr rfl)) pQ))) (aZ (gC (JD.e (gD (i:=1) PySem.F.slot_list_extend PySem.F.type_list_extend Al CJ CK (ak (JE.d (dZ (fj (i:=2) rfl (by decide) rfl (by decide) rfl rfl (by decide) (by decide) rfl rfl rfl) rfl (jN rfl iL (ak (JE.d (eY iG (JE.d (aj 3)) aB)) aC)) (fun _ _ _ _=>cB) (fun _ _ _ _=>(JE.d (cz (ak (JE.d (aj 1)) (ak (JE.d (aj 0)) aC))))))) aC))))))
  (aZ (bW (aj 1)))))) hf
noncomputable abbrev gO:Stmt:=top 21
theorem cH:cj ["_law_nexts","_law_lasts","_law_kinds_here","_law_many","_law_marks","_law_fresh","_law_k","_law_mark"] ["_law_nexts","_law_lasts"] (aJ gO):=⟨rfl,rfl,rfl,by decide +kernel,rfl,by decide +kernel,by decide +kernel⟩
theorem uJ {P:Program}{w:World}{K:PySem.W.Frag}{mg:Str->Option Value}{base:Heap}{f:Addr}{fd:FuncData}{n:Nat}{fm:FM}(F:qW K "_law_kinds" "_law_kinds" gO f fd) (Mr:mg "int" =none) (fB:mg "len" =none) (IU:mg "set" =none) (iL:mg "range" =none) (cQ:mg "tuple" =none)
  (hf:∀us r,fm us=some r->bG 8 (gG) us=some r):cF P w K mg base jB (n+1) f fd ["_law_nexts","_law_lasts"] (spT K 2 fm):=
 vg (g:=gG) F cH (fun cdv A outer s H E hr=>(az (br (i:=2) cH.nd rfl (by first | exact Or.inl rfl | exact Or.inr rfl) (dZ (jU (by decide) (by decide) rfl (by decide) rfl) rfl (dw (JE.d (aj 1))) (fun _ _ _ _=>cB) (fun _ _ _ _=>(JE.d (cG CI rfl Mr PyProof.Rows.Boot.int (ak (JE.d (aj 0)) aC))))))
  (az (br (i:=3) cH.nd rfl (by first | exact Or.inl rfl | exact Or.inr rfl) (JD.e aB))
  (az (kT PassesOwn.never (fL Ae (JE.d (tL rfl rfl fB rfl IU (JE.d (aj 2)))) (JE.d (aj 3))) (az (br (i:=3) cH.nd rfl (by first | exact Or.inl rfl | exact Or.inr rfl) (tL rfl rfl fB rfl IU (JE.d (aj 2))))
  (az (br (i:=4) cH.nd rfl (by first | exact Or.inl rfl | exact Or.inr rfl) Bw)
  (az (br (i:=5) cH.nd rfl (by first | exact Or.inl rfl | exact Or.inr rfl) (fX aC))
  (az (mV PassesOwn.never rfl (jN rfl iL (ak (fZ (i:=0) rfl fB) aC)) (cT (i:=6) cH.nd rfl (by first | exact Or.inl rfl | exact Or.inr rfl)) (az (br (i:=7) cH.nd rfl (by first | exact Or.inl rfl | exact Or.inr rfl) (cz (ak (aH (i:=2) (aQ hr) (JE.d (aj 6)) (fun _ _=>rfl)) (ak (JE.d (cG bY rfl cQ PyProof.Rows.Boot.tuple (ak (JE.d (dZ (fj (i:=2) rfl (by decide) rfl (by decide) rfl rfl (by decide) (by decide) rfl rfl rfl) rfl (dw (aH (i:=0) (aQ hr) (JE.d (aj 6)) (fun _ _=>rfl))) (fun _ _ _ _=>cB) (fun _ _ _ _=>(aH (i:=1) (aQ hr) (JE.d (aj 0)) (fun _ _=>rfl))))) aC))) aC))))
  (az (jC (i:=4) (aQ hr) (JE.d (aj 7)) (Hu (i:=4) (aQ hr) (JE.d (aj 7)) (fZ (i:=4) rfl fB)))
  (aZ (gC (JD.e (gD (i:=5) PySem.F.slot_list_append PySem.F.type_list_append dj dP dR (ak (aH (i:=4) (aQ hr) (JE.d (aj 7)) (fun _ _=>rfl)) aC))))))))
  (aZ (br (i:=2) cH.nd rfl (by first | exact Or.inl rfl | exact Or.inr rfl) (aj 5))))))))
  (aZ (bW (aj 2))))))) hf
noncomputable abbrev gP:Stmt:=top 22
theorem eV:cj ["_law_nexts","_law_lasts","_law_kinds_here","_law_order","_law_numbers","_law_rows","_law_row","_law_after"] ["_law_nexts","_law_lasts"] (aJ gP):=⟨rfl,rfl,rfl,by decide +kernel,rfl,by decide +kernel,by decide +kernel⟩
theorem uK {P:Program}{w:World}{K:PySem.W.Frag}{mg:Str->Option Value}{base:Heap}{f:Addr}{fd:FuncData}{n:Nat}{fm:FM}(F:qW K "_law_least" "_law_least" gP f fd) (fB:mg "len" =none) (cQ:mg "tuple" =none)
  {nC:Addr}{rF:FuncData}{cC:FM}(zx:cF P w K mg base jB n nC rF ["_law_nexts","_law_lasts"] (spT K 2 cC)) (zy:Binds K rF ["_law_nexts","_law_lasts"] []) (zz:PySem.W.keepIn K (.ref nC)=true) (zA:mg "_law_kinds" =some (.ref nC))
  (hf:∀us r,fm us=some r->bG 8 (gH cC) us=some r):cF P w K mg base jB (n+1) f fd ["_law_nexts","_law_lasts"] (spT K 2 fm):=
 vg (g:=gH cC) F eV (fun cdv A outer s H E hr=>(az (br (i:=2) eV.nd rfl (by first | exact Or.inl rfl | exact Or.inr rfl) (bH zx hr rfl zA zz zy (aY (JE.d (aj 0)) (aY (JE.d (aj 1)) bT))))
  (az (br (i:=3) eV.nd rfl (by first | exact Or.inl rfl | exact Or.inr rfl) (fX (ak aB aC)))
  (az (br (i:=4) eV.nd rfl (by first | exact Or.inl rfl | exact Or.inr rfl) (EA (aH (i:=2) (aQ hr) aB (fun _ _=>rfl)) aB))
  (az (br (i:=5) eV.nd rfl (by first | exact Or.inl rfl | exact Or.inr rfl) (fX aC))
  (az (kT PassesOwn.never (fL v8 (fZ (i:=5) rfl fB) (fZ (i:=3) rfl fB)) (az (br (i:=6) eV.nd rfl (by first | exact Or.inl rfl | exact Or.inr rfl) (fX aC))
  (az (mV PassesOwn.never rfl (dw (aH (i:=0) (aQ hr) (aH (i:=3) (aQ hr) (fZ (i:=5) rfl fB) (fun _ _=>rfl)) (fun _ _=>rfl))) (cT (i:=7) eV.nd rfl (by first | exact Or.inl rfl | exact Or.inr rfl)) (az (iN (jO (i:=4) (aQ hr) (aH (i:=2) (aQ hr) (JE.d (aj 7)) (fun _ _=>rfl))) (az (jC (i:=4) (aQ hr) (aH (i:=2) (aQ hr) (JE.d (aj 7)) (fun _ _=>rfl)) (fZ (i:=3) rfl fB))
  (aZ (gC (JD.e (gD (i:=3) PySem.F.slot_list_append PySem.F.type_list_append dj dP dR (ak (JE.d (aj 7)) aC)))))) fY)
  (aZ (gC (JD.e (gD (i:=6) PySem.F.slot_list_append PySem.F.type_list_append dj dP dR (ak (aH (i:=4) (aQ hr) (aH (i:=2) (aQ hr) (JE.d (aj 7)) (fun _ _=>rfl)) (fun _ _=>rfl)) aC)))))))
  (aZ (gC (JD.e (gD (i:=5) PySem.F.slot_list_append PySem.F.type_list_append dj dP dR (ak (JE.d (cG bY rfl cQ PyProof.Rows.Boot.tuple (ak (JE.d (aj 6)) aC))) aC))))))))
  (aZ (bW (cz (ak (JE.d (cG bY rfl cQ PyProof.Rows.Boot.tuple (ak (JE.d (aj 5)) aC))) (ak (JE.d (cG bY rfl cQ PyProof.Rows.Boot.tuple (ak (JE.d (dZ (fj (i:=1) rfl (by decide) rfl (by decide) rfl rfl (by decide) (by decide) rfl rfl rfl) rfl (dw (JE.d (aj 3))) (fun _ _ _ _=>cB) (fun _ _ _ _=>(aH (i:=1) (aQ hr) (JE.d (aj 0)) (fun _ _=>rfl))))) aC))) aC))))))))))) hf
noncomputable abbrev jR:Stmt:=top 23
theorem AR:cj ["_law_op_here","_law_one","_law_other"] ["_law_op_here","_law_one","_law_other"] (aJ jR):=⟨rfl,rfl,rfl,by decide +kernel,rfl,by decide +kernel,by decide +kernel⟩
theorem AS {P:Program}{w:World}{K:PySem.W.Frag}{mg:Str->Option Value}{base:Heap}{f:Addr}{fd:FuncData}{n:Nat}{fm:FM}(F:qW K "_law_op" "_law_op" jR f fd)
  (hf:∀us r,fm us=some r->bG 3 (oq) us=some r):cF P w K mg base jB (n+1) f fd ["_law_op_here","_law_one","_law_other"] (spT K 3 fm):=
 vg (g:=oq) F AR (fun cdv A outer s H E hr=>(az (iN (fL (j3 hr.units) (JE.d (aj 0)) dN) (aZ (bW (qu (Ah hr.units) (JE.d (aj 1)) (JE.d (aj 2))))) fY)
  (az (iN (fL (j3 hr.units) (JE.d (aj 0)) dN) (aZ (bW (JD.e (Jx (JE.d (aj 1)) (sW (JE.d (aj 2))))))) fY)
  (aZ (bW (JD.e (Ab (JE.d (aj 1)) (sW (JE.d (qu (j3 hr.units) (JE.d (aj 2)) (JE.d (qu (j3 hr.units) (JE.d (aj 0)) dN)))))))))))) hf
noncomputable abbrev gQ:Stmt:=top 24
theorem dg:cj ["_law_one","_law_other","_law_pairs_here","_law_numbers","_law_nexts","_law_row","_law_first","_law_second","_law_pair"] ["_law_one","_law_other"] (aJ gQ):=⟨rfl,rfl,rfl,by decide +kernel,rfl,by decide +kernel,by decide +kernel⟩
theorem uL {P:Program}{w:World}{K:PySem.W.Frag}{mg:Str->Option Value}{base:Heap}{f:Addr}{fd:FuncData}{n:Nat}{fm:FM}(F:qW K "_law_pairs" "_law_pairs" gQ f fd) (fB:mg "len" =none) (Dh:mg "zip" =none)
  (hf:∀us r,fm us=some r->bG 9 (gI) us=some r):cF P w K mg base jB (n+1) f fd ["_law_one","_law_other"] (spT K 2 fm):=
 vg (g:=gI) F dg (fun cdv A outer s H E hr=>(az (br (i:=2) dg.nd rfl (by first | exact Or.inl rfl | exact Or.inr rfl) (fX (ak (JE.d (cz (ak aB (ak aB aC)))) aC)))
  (az (br (i:=3) dg.nd rfl (by first | exact Or.inl rfl | exact Or.inr rfl) (yD (aQ hr) (JE.d (cz (ak aB (ak aB aC)))) aB))
  (az (br (i:=4) dg.nd rfl (by first | exact Or.inl rfl | exact Or.inr rfl) (fX aC))
  (az (kT PassesOwn.never (fL v8 (fZ (i:=4) rfl fB) (fZ (i:=2) rfl fB)) (az (br (i:=5) dg.nd rfl (by first | exact Or.inl rfl | exact Or.inr rfl) (fX aC))
  (az (Ec (aH (i:=2) (aQ hr) (fZ (i:=4) rfl fB) (fun _ _=>rfl)) (sZ rfl (gX (cT (i:=6) dg.nd rfl (by first | exact Or.inl rfl | exact Or.inr rfl)) (gX (cT (i:=7) dg.nd rfl (by first | exact Or.inl rfl | exact Or.inr rfl)) pQ))))
  (az (wz PassesOwn.never rfl (yJ rfl Dh (ak (JE.d (pO v9 (aH (i:=0) (aQ hr) aB (fun _ _=>rfl)) (JE.d (aj 6)) (fun _ _=>rfl))) (ak (JE.d (pO v9 (aH (i:=1) (aQ hr) aB (fun _ _=>rfl)) (JE.d (aj 7)) (fun _ _=>rfl))) aC))) (cT (i:=8) dg.nd rfl (by first | exact Or.inl rfl | exact Or.inr rfl)) (az (iN (jO (i:=3) (aQ hr) (JE.d (aj 8))) (az (jC (i:=3) (aQ hr) (JE.d (aj 8)) (fZ (i:=2) rfl fB))
  (aZ (gC (JD.e (gD (i:=2) PySem.F.slot_list_append PySem.F.type_list_append dj dP dR (ak (JE.d (aj 8)) aC)))))) fY)
  (aZ (gC (JD.e (gD (i:=5) PySem.F.slot_list_append PySem.F.type_list_append dj dP dR (ak (aH (i:=3) (aQ hr) (JE.d (aj 8)) (fun _ _=>rfl)) aC)))))))
  (aZ (gC (JD.e (gD (i:=4) PySem.F.slot_list_append PySem.F.type_list_append dj dP dR (ak (JE.d (aj 5)) aC)))))))))
  (aZ (bW (cz (ak (JE.d (aj 2)) (ak (JE.d (aj 4)) aC)))))))))) hf
noncomputable abbrev fU:Stmt:=top 25
theorem kj:cj ["_law_op_here","_law_one","_law_other","_law_pairs_here","_law_nexts"] ["_law_op_here","_law_one","_law_other"] (aJ fU):=⟨rfl,rfl,rfl,by decide +kernel,rfl,by decide +kernel,by decide +kernel⟩
theorem uf {P:Program}{w:World}{K:PySem.W.Frag}{mg:Str->Option Value}{base:Heap}{f:Addr}{fd:FuncData}{n:Nat}{fm:FM}(F:qW K "_law_joined" "_law_joined" fU f fd)
  {nD:Addr}{rG:FuncData}{jw:FM}(zB:cF P w K mg base jB n nD rG ["_law_one","_law_other"] (spT K 2 jw)) (zC:Binds K rG ["_law_one","_law_other"] []) (zD:PySem.W.keepIn K (.ref nD)=true) (zE:mg "_law_pairs" =some (.ref nD))
  {gB:Addr}{jz:FuncData}{aP:FM}(nF:cF P w K mg base jB n gB jz ["_law_nexts","_law_lasts"] (spT K 2 aP)) (nG:Binds K jz ["_law_nexts","_law_lasts"] []) (nH:PySem.W.keepIn K (.ref gB)=true) (nI:mg "_law_least" =some (.ref gB))
  {ug:Addr}{zF:FuncData}{nA:FM}(Gf:cF P w K mg base jB n ug zF ["_law_op_here","_law_one","_law_other"] (spT K 3 nA)) (Gg:Binds K zF ["_law_op_here","_law_one","_law_other"] []) (Gh:PySem.W.keepIn K (.ref ug)=true) (Gi:mg "_law_op" =some (.ref ug))
  (hf:∀us r,fm us=some r->bG 5 (fT jw aP nA) us=some r):cF P w K mg base jB (n+1) f fd ["_law_op_here","_law_one","_law_other"] (spT K 3 fm):=
 vg (g:=fT jw aP nA) F kj (fun cdv A outer s H E hr=>(az (Ec (JE.d (bH zB hr rfl zE zD zC (aY (JE.d (aj 1)) (aY (JE.d (aj 2)) bT)))) (sZ rfl (gX (cT (i:=3) kj.nd rfl (by first | exact Or.inl rfl | exact Or.inr rfl)) (gX (cT (i:=4) kj.nd rfl (by first | exact Or.inl rfl | exact Or.inr rfl)) pQ))))
  (aZ (bW (bH nF hr rfl nI nH nG (aY (JE.d (aj 4)) (aY (JE.d (Eu ⟨(iU (bJ:=["_law_one","_law_op_here","_law_other"]) (cap:=[1,0,2]) rfl (by decide) rfl (by decide) rfl rfl (by decide) (by first | exact Or.inl rfl | exact Or.inr rfl) (by decide) rfl rfl rfl),rfl,by decide⟩ rfl (Ef (JE.d (aj 3))) (fun _ _ _ _=>cB) (fun _ _ _ _=>(JE.d (bH Gf hr rfl Gi Gh Gg (aY (JE.d (aj 3)) (aY (JE.d (pO v9 (aH (i:=2) (aQ hr) aB (fun _ _=>rfl)) (JE.d (aj 0)) (fun _ _=>rfl))) (aY (JE.d (pO v9 (aH (i:=4) (aQ hr) aB (fun _ _=>rfl)) (JE.d (aj 1)) (fun _ _=>rfl))) bT)))))))) bT))))))) hf
noncomputable abbrev gR:Stmt:=top 26
theorem ji:cj ["_law_feed_here","_law_many","_law_sizes","_law_spots","_law_nexts","_law_k"] ["_law_feed_here","_law_many","_law_sizes"] (aJ gR):=⟨rfl,rfl,rfl,by decide +kernel,rfl,by decide +kernel,by decide +kernel⟩
theorem uM {P:Program}{w:World}{K:PySem.W.Frag}{mg:Str->Option Value}{base:Heap}{f:Addr}{fd:FuncData}{n:Nat}{fm:FM}(F:qW K "_law_judge" "_law_judge" gR f fd) (fB:mg "len" =none) (iL:mg "range" =none) (cQ:mg "tuple" =none)
  {iy:Addr}{ki:FuncData}{aT:FM}(dG:cF P w K mg base jB n iy ki ["_law_feed_here","_law_many"] (spT K 2 aT)) (dH:Binds K ki ["_law_feed_here","_law_many"] []) (dI:PySem.W.keepIn K (.ref iy)=true) (dJ:mg "_law_take" =some (.ref iy))
  (hf:∀us r,fm us=some r->bG 6 (So.cW aT) us=some r):cF P w K mg base jB (n+1) f fd ["_law_feed_here","_law_many","_law_sizes"] (spT K 3 fm):=
 vg (g:=So.cW aT) F ji (fun cdv A outer s H E hr=>(az (br (i:=3) ji.nd rfl (by first | exact Or.inl rfl | exact Or.inr rfl) (JD.e (aH (i:=2) (aQ hr) (JE.d (bH dG hr rfl dJ dI dH (iI (aj 0) (aY (fZ (i:=2) rfl fB) bT)))) (fun _ _=>rfl))))
  (az (br (i:=4) ji.nd rfl (by first | exact Or.inl rfl | exact Or.inr rfl) (fX aC))
  (az (mV PassesOwn.never rfl (jN rfl iL (ak (JE.d (aj 3)) aC)) (cT (i:=5) ji.nd rfl (by first | exact Or.inl rfl | exact Or.inr rfl)) (aZ (gC (JD.e (gD (i:=4) PySem.F.slot_list_append PySem.F.type_list_append dj dP dR (ak (JE.d (cG bY rfl cQ PyProof.Rows.Boot.tuple (ak (JE.d (dZ (iU (bJ:=["_law_feed_here","_law_spots"]) (cap:=[0,3]) rfl (by decide) rfl (by decide) rfl rfl (by decide) (by first | exact Or.inl rfl | exact Or.inr rfl) (by decide) rfl rfl rfl) rfl (jN rfl iL (ak (JE.d (aj 1)) aC)) (fun _ _ _ _=>cB) (fun _ _ _ _=>(JE.d (bH dG hr rfl dJ dI dH (iI (aj 1) (aY (JE.d (aj 2)) bT))))))) aC))) aC))))))
  (aZ (bW (cz (ak (JE.d (cG bY rfl cQ PyProof.Rows.Boot.tuple (ak (JE.d (aj 4)) aC))) (ak (JE.d (cG bY rfl cQ PyProof.Rows.Boot.tuple (ak (JE.d (dZ (fj (i:=0) rfl (by decide) rfl (by decide) rfl rfl (by decide) (by decide) rfl rfl rfl) rfl (jN rfl iL (ak (JE.d (aj 3)) aC)) (fun _ _ _ _=>cB) (fun _ _ _ _=>(JE.d (qu (j3 hr.units) (JE.d (bH dG hr rfl dJ dI dH (iI (aj 1) (aY aB bT)))) aB))))) aC))) aC))))))))) hf
noncomputable abbrev qh:Stmt:=top 27
theorem nJ:cj ["_law_script","_law_feed_here","_law_table_here","_law_many","_law_one","_law_other","_law_op_here","_law_due"] ["_law_script"] (aJ qh):=⟨rfl,rfl,rfl,by decide +kernel,rfl,by decide +kernel,by decide +kernel⟩
theorem Ms {P:Program}{w:World}{K:PySem.W.Frag}{mg:Str->Option Value}{base:Heap}{f:Addr}{fd:FuncData}{n:Nat}{fm:FM}(F:qW K "law" "law" qh f fd) (fB:mg "len" =none) (vM:mg "repr" =none)
  {pH:Addr}{uh:FuncData}{aU:FM}(AU:cF P w K mg base jB n pH uh ["_law_script","_law_at"] (spT K 2 aU)) (AV:Binds K uh ["_law_script","_law_at"] []) (AW:PySem.W.keepIn K (.ref pH)=true) (AX:mg "_law_feed" =some (.ref pH))
  {nK:Addr}{rH:FuncData}{aI:FM}(zG:cF P w K mg base jB n nK rH ["_law_feed_here"] (spT K 1 aI)) (zH:Binds K rH ["_law_feed_here"] []) (zI:PySem.W.keepIn K (.ref nK)=true) (zJ:mg "_law_table" =some (.ref nK))
  {i7:Addr}{lH:FuncData}{aA:FM}(qO:cF P w K mg base jB n i7 lH ["_law_table_here"] (spT K 1 aA)) (qP:Binds K lH ["_law_table_here"] []) (qQ:PySem.W.keepIn K (.ref i7)=true) (qR:mg "_law_happenings" =some (.ref i7))
  {nL:Addr}{rJ:FuncData}{aD:FM}(rK:cF P w K mg base jB n nL rJ ["_law_feed_here","_law_many","_law_sizes"] (spT K 3 aD)) (rL:Binds K rJ ["_law_feed_here","_law_many","_law_sizes"] []) (rM:PySem.W.keepIn K (.ref nL)=true) (rN:mg "_law_judge" =some (.ref nL))
  {xj:Addr}{Cf:FuncData}{bC:FM}(IV:cF P w K mg base jB n xj Cf ["table","op","one","other"] (spT K 4 bC)) (IW:Binds K Cf ["table","op","one","other"] []) (IX:PySem.W.keepIn K (.ref xj)=true) (IY:mg "joined" =some (.ref xj))
  {mh:Addr}{qi:FuncData}{aX:FM}(xm:cF P w K mg base jB n mh qi ["_law_op_here","_law_one","_law_other"] (spT K 3 aX)) (xq:Binds K qi ["_law_op_here","_law_one","_law_other"] []) (xr:PySem.W.keepIn K (.ref mh)=true) (xw:mg "_law_joined" =some (.ref mh))
  {gB:Addr}{jz:FuncData}{aP:FM}(nF:cF P w K mg base jB n gB jz ["_law_nexts","_law_lasts"] (spT K 2 aP)) (nG:Binds K jz ["_law_nexts","_law_lasts"] []) (nH:PySem.W.keepIn K (.ref gB)=true) (nI:mg "_law_least" =some (.ref gB))
  {xx:Addr}{Cg:FuncData}{bD:FM}(IZ:cF P w K mg base jB n xx Cg ["table","judge"] (spT K 2 bD)) (I0:Binds K Cg ["table","judge"] []) (Ja:PySem.W.keepIn K (.ref xx)=true) (Jb:mg "turned" =some (.ref xx))
  (hf:∀us r,fm us=some r->bG 8 (Sv.zl aU aI aA aD bC aX aP bD) us=some r):cF P w K mg base jB (n+1) f fd ["_law_script"] (spT K 1 fm):=
 vg (g:=Sv.zl aU aI aA aD bC aX aP bD) F nJ (fun cdv A outer s H E hr=>(az (br (i:=1) nJ.nd rfl (by first | exact Or.inl rfl | exact Or.inr rfl) (bH AU hr rfl AX AW AV (iI (aj 0) (aY aB bT))))
  (az (br (i:=2) nJ.nd rfl (by first | exact Or.inl rfl | exact Or.inr rfl) (bH zG hr rfl zJ zI zH (iI (aj 1) bT)))
  (az (br (i:=3) nJ.nd rfl (by first | exact Or.inl rfl | exact Or.inr rfl) (gU qw rfl fB PySem.boot_len (ak (JE.d (bH qO hr rfl qR qQ qP (aY (JE.d (aj 2)) bT))) aC)))
  (az (br (i:=4) nJ.nd rfl (by first | exact Or.inl rfl | exact Or.inr rfl) (bH rK hr rfl rN rM rL (iI (aj 1) (aY (JE.d (aj 3)) (aY (JE.d (fX (ak aB (ak aB (ak aB (ak aB (ak aB (ak aB aC)))))))) bT)))))
  (az (br (i:=5) nJ.nd rfl (by first | exact Or.inl rfl | exact Or.inr rfl) (bH rK hr rfl rN rM rL (iI (aj 1) (aY (JE.d (aj 3)) (aY (JE.d (fX (ak aB (ak aB (ak aB (ak aB (ak aB (ak aB aC)))))))) bT)))))
  (az (mV PassesOwn.never rfl (dw (JE.d (fX (ak dN (ak dN (ak dN (ak dN aC))))))) (cT (i:=6) nJ.nd rfl (by first | exact Or.inl rfl | exact Or.inr rfl)) (aZ (iN (fL (Ah hr.units) (JE.d (gU (lQ hr.gd hr.units) rfl vM PyProof.Rows.Boot.repr (ak (JE.d (bH IV hr rfl IY IX IW (aY (JE.d (aj 2)) (aY (JE.d (aj 6)) (aY (JE.d (aj 4)) (aY (JE.d (aj 5)) bT)))))) aC))) (JE.d (gU (lQ hr.gd hr.units) rfl vM PyProof.Rows.Boot.repr (ak (JE.d (bH xm hr rfl xw xr xq (aY (JE.d (aj 6)) (aY (JE.d (aj 4)) (aY (JE.d (aj 5)) bT))))) aC)))) (aZ (bW (JD.e D8))) fY)))
  (az (br (i:=7) nJ.nd rfl (by first | exact Or.inl rfl | exact Or.inr rfl) (bH nF hr rfl nI nH nG (aY (aH (i:=4) (aQ hr) aB (fun _ _=>rfl)) (aY (JE.d (dZ (jU (by decide) (by decide) rfl (by decide) rfl) rfl (dw (aH (i:=4) (aQ hr) aB (fun _ _=>rfl))) (fun _ _ _ _=>cB) (fun _ _ _ _=>(Ac (JE.d (aj 0)))))) bT))))
  (aZ (bW (qu (j3 hr.units) (JE.d (gU (lQ hr.gd hr.units) rfl vM PyProof.Rows.Boot.repr (ak (JE.d (bH IZ hr rfl Jb Ja I0 (aY (JE.d (aj 2)) (aY (JE.d (aj 4)) bT)))) aC))) (JE.d (gU (lQ hr.gd hr.units) rfl vM PyProof.Rows.Boot.repr (ak (JE.d (aj 7)) aC)))))))))))))) hf
end K55
end
namespace K55
open PySem L2 Sw Sq Sl Sk So Sv
set_option maxHeartbeats 0 in
theorem all_mk {l:PySem.W.OpenLaw}{w:World}{K:PySem.W.Frag}{h:Heap}{mg:Str->Option Value}{fa f1 f2 f3 f4 f5 f6 f7 f8 f9 UR f11 US UT UU UW UX UY UZ U0 U1:Addr}(X:K.In h) (G:h.Ns mainGlobals mg) (NZ:mg "law" =some (.ref fa))
  {Zv Zw Zx Zy Zz ZA ZC ZD ZE ZF ZG ZI ZJ ZK ZL ZM ZN ZO U3 U4 U5 U6 U7 U8 U9 Va Vb Vc Ve Vf Vg Vh Vi Vj Vk Vl Vm Vn Vo Pp:Option Addr}{ZP sl2 ZQ ZR ZS ZT ZU ZV ZW Vp Vq Vr Vs Vt Vu Vv Vw Vx Vy Vz:Array (Option Value)} {ZX ZY ZZ Z0 XQ Z1 Z2 Z3 Z4 Z5 XR Z6 Z7 Z8 Z9 pm3 XS ct3 oc4 kV4 dc4 pm4 XT ct4 oc5 kV5 dc5 pm5 XU ct5 oc6 kV6 dc6 pm6 XW ct6 oc7 kV7 dc7 pm7 XX ct7 oc8 kV8 dc8 pm8 XY ct8 oc9 kV9 dc9 pm9 XZ ct9 VA VB VC VE Pq VF VG VH VI VJ Pr VL VM VN VO VP Pu VQ VR VS VT VU Pw VW VX VY VZ V0 Px V1 V2 V3 V4 V5 Py V6 V7 V8 V9 Wa Pz Wb Wc We Wf Wg PB Wh Wi Wj Wk Wl PD Wm Wn Wo Wq Wr PF Ws Wt PJ PK PL Mt PM:Value}{jy:Tok}
  (a1:PySem.W.nsIn K mainGlobals "reached" =some (some (.ref f1))) (l1:K.lookup f1=some ⟨ZX,Zv,.func (PySem.W.fnOf "reached" "reached" (bV jQ) (bQ jQ) (aJ jQ) .none ZY ZZ Z0 Zw XQ Z1),ZP⟩) (c1:PySem.W.codeIn K XQ "reached" =true) (k1:PySem.W.keepIn K (.ref f1)=true)
  (a2:PySem.W.nsIn K mainGlobals "paired" =some (some (.ref f2))) (l2:K.lookup f2=some ⟨Z2,Zx,.func (PySem.W.fnOf "paired" "paired" (bV lE) (bQ lE) (aJ lE) .none Z3 Z4 Z5 Zy XR Z6),sl2⟩) (c2:PySem.W.codeIn K XR "paired" =true) (k2:PySem.W.keepIn K (.ref f2)=true)
  (a3:PySem.W.nsIn K mainGlobals "numbered" =some (some (.ref f3))) (l3:K.lookup f3=some ⟨Z7,Zz,.func (PySem.W.fnOf "numbered" "numbered" (bV i6) (bQ i6) (aJ i6) .none Z8 Z9 pm3 ZA XS ct3),ZQ⟩) (c3:PySem.W.codeIn K XS "numbered" =true) (k3:PySem.W.keepIn K (.ref f3)=true)
  (a4:PySem.W.nsIn K mainGlobals "told_apart" =some (some (.ref f4))) (l4:K.lookup f4=some ⟨oc4,ZC,.func (PySem.W.fnOf "told_apart" "told_apart" (bV gJ) (bQ gJ) (aJ gJ) .none kV4 dc4 pm4 ZD XT ct4),ZR⟩) (c4:PySem.W.codeIn K XT "told_apart" =true) (k4:PySem.W.keepIn K (.ref f4)=true)
  (a5:PySem.W.nsIn K mainGlobals "least_machine" =some (some (.ref f5))) (l5:K.lookup f5=some ⟨oc5,ZE,.func (PySem.W.fnOf "least_machine" "least_machine" (bV dW) (bQ dW) (aJ dW) .none kV5 dc5 pm5 ZF XU ct5),ZS⟩) (c5:PySem.W.codeIn K XU "least_machine" =true) (k5:PySem.W.keepIn K (.ref f5)=true)
  (a6:PySem.W.nsIn K mainGlobals "by_op" =some (some (.ref f6))) (l6:K.lookup f6=some ⟨oc6,ZG,.func (PySem.W.fnOf "by_op" "by_op" (bV ow) (bQ ow) (aJ ow) .none kV6 dc6 pm6 ZI XW ct6),ZT⟩) (c6:PySem.W.codeIn K XW "by_op" =true) (k6:PySem.W.keepIn K (.ref f6)=true)
  (a7:PySem.W.nsIn K mainGlobals "least_joined" =some (some (.ref f7))) (l7:K.lookup f7=some ⟨oc7,ZJ,.func (PySem.W.fnOf "least_joined" "least_joined" (bV fC) (bQ fC) (aJ fC) .none kV7 dc7 pm7 ZK XX ct7),ZU⟩) (c7:PySem.W.codeIn K XX "least_joined" =true) (k7:PySem.W.keepIn K (.ref f7)=true)
  (a8:PySem.W.nsIn K mainGlobals "joined" =some (some (.ref f8))) (l8:K.lookup f8=some ⟨oc8,ZL,.func (PySem.W.fnOf "joined" "joined" (bV lF) (bQ lF) (aJ lF) .none kV8 dc8 pm8 ZM XY ct8),ZV⟩) (c8:PySem.W.codeIn K XY "joined" =true) (k8:PySem.W.keepIn K (.ref f8)=true)
  (a9:PySem.W.nsIn K mainGlobals "turned" =some (some (.ref f9))) (l9:K.lookup f9=some ⟨oc9,ZN,.func (PySem.W.fnOf "turned" "turned" (bV lG) (bQ lG) (aJ lG) .none kV9 dc9 pm9 ZO XZ ct9),ZW⟩) (c9:PySem.W.codeIn K XZ "turned" =true) (k9:PySem.W.keepIn K (.ref f9)=true)
  (a10:PySem.W.nsIn K mainGlobals "_law_feed" =some (some (.ref UR))) (Wu:K.lookup UR=some ⟨VA,U3,.func (PySem.W.fnOf "_law_feed" "_law_feed" (bV iA) (bQ iA) (aJ iA) .none VB VC VE U4 Pq VF),Vp⟩) (Wv:PySem.W.codeIn K Pq "_law_feed" =true) (QW:PySem.W.keepIn K (.ref UR)=true)
  (a11:PySem.W.nsIn K mainGlobals "_law_take" =some (some (.ref f11))) (Ww:K.lookup f11=some ⟨VG,U5,.func (PySem.W.fnOf "_law_take" "_law_take" (bV iB) (bQ iB) (aJ iB) .none VH VI VJ U6 Pr VL),Vq⟩) (Wx:PySem.W.codeIn K Pr "_law_take" =true) (PN:PySem.W.keepIn K (.ref f11)=true)
  (a12:PySem.W.nsIn K mainGlobals "_law_table" =some (some (.ref US))) (Wy:K.lookup US=some ⟨VM,U7,.func (PySem.W.fnOf "_law_table" "_law_table" (bV gM) (bQ gM) (aJ gM) .none VN VO VP U8 Pu VQ),Vr⟩) (c12:PySem.W.codeIn K Pu "_law_table" =true) (Gq:PySem.W.keepIn K (.ref US)=true)
  (a13:PySem.W.nsIn K mainGlobals "_law_happenings" =some (some (.ref UT))) (Wz:K.lookup UT=some ⟨VR,U9,.func (PySem.W.fnOf "_law_happenings" "_law_happenings" (bV cO) (bQ cO) (aJ cO) .none VS VT VU Va Pw VW),Vs⟩) (WA:PySem.W.codeIn K Pw "_law_happenings" =true) (QX:PySem.W.keepIn K (.ref UT)=true)
  (a14:PySem.W.nsIn K mainGlobals "_law_kinds" =some (some (.ref UU))) (WB:K.lookup UU=some ⟨VX,Vb,.func (PySem.W.fnOf "_law_kinds" "_law_kinds" (bV gO) (bQ gO) (aJ gO) .none VY VZ V0 Vc Px V1),Vt⟩) (WC:PySem.W.codeIn K Px "_law_kinds" =true) (QY:PySem.W.keepIn K (.ref UU)=true)
  (a15:PySem.W.nsIn K mainGlobals "_law_least" =some (some (.ref UW))) (WD:K.lookup UW=some ⟨V2,Ve,.func (PySem.W.fnOf "_law_least" "_law_least" (bV gP) (bQ gP) (aJ gP) .none V3 V4 V5 Vf Py V6),Vu⟩) (WE:PySem.W.codeIn K Py "_law_least" =true) (PO:PySem.W.keepIn K (.ref UW)=true)
  (a16:PySem.W.nsIn K mainGlobals "_law_op" =some (some (.ref UX))) (WG:K.lookup UX=some ⟨V7,Vg,.func (PySem.W.fnOf "_law_op" "_law_op" (bV jR) (bQ jR) (aJ jR) .none V8 V9 Wa Vh Pz Wb),Vv⟩) (WH:PySem.W.codeIn K Pz "_law_op" =true) (QZ:PySem.W.keepIn K (.ref UX)=true)
  (a17:PySem.W.nsIn K mainGlobals "_law_pairs" =some (some (.ref UY))) (WI:K.lookup UY=some ⟨Wc,Vi,.func (PySem.W.fnOf "_law_pairs" "_law_pairs" (bV gQ) (bQ gQ) (aJ gQ) .none We Wf Wg Vj PB Wh),Vw⟩) (WJ:PySem.W.codeIn K PB "_law_pairs" =true) (Q0:PySem.W.keepIn K (.ref UY)=true)
  (a18:PySem.W.nsIn K mainGlobals "_law_joined" =some (some (.ref UZ))) (WK:K.lookup UZ=some ⟨Wi,Vk,.func (PySem.W.fnOf "_law_joined" "_law_joined" (bV fU) (bQ fU) (aJ fU) .none Wj Wk Wl Vl PD Wm),Vx⟩) (WL:PySem.W.codeIn K PD "_law_joined" =true) (Q2:PySem.W.keepIn K (.ref UZ)=true)
  (a19:PySem.W.nsIn K mainGlobals "_law_judge" =some (some (.ref U0))) (WM:K.lookup U0=some ⟨Wn,Vm,.func (PySem.W.fnOf "_law_judge" "_law_judge" (bV gR) (bQ gR) (aJ gR) .none Wo Wq Wr Vn PF Ws),Vy⟩) (WN:PySem.W.codeIn K PF "_law_judge" =true) (Q3:PySem.W.keepIn K (.ref U0)=true)
  (a20:PySem.W.nsIn K mainGlobals "law" =some (some (.ref U1))) (WO:K.lookup U1=some ⟨Wt,Vo,.func (PySem.W.fnOf "law" "law" (bV qh) (bQ qh) (aJ qh) .none PJ PK PL Pp Mt PM),Vz⟩) (WQ:PySem.W.codeIn K Mt "law" =true) (WR:PySem.W.keepIn K (.ref U1)=true)
  (nM:PySem.W.nsIn K mainGlobals "MOST_SPOTS" =some (some (.int 300 jy)))
  (Gj:PySem.W.nsIn K mainGlobals "list" =some none) (zdict:PySem.W.nsIn K mainGlobals "dict" =some none) (Mu:PySem.W.nsIn K mainGlobals "len" =some none) (Mv:PySem.W.nsIn K mainGlobals "zip" =some none) (AY:PySem.W.nsIn K mainGlobals "tuple" =some none) (Mw:PySem.W.nsIn K mainGlobals "max" =some none) (pI:PySem.W.nsIn K mainGlobals "enumerate" =some none) (AZ:PySem.W.nsIn K mainGlobals "range" =some none) (Mx:PySem.W.nsIn K mainGlobals "int" =some none) (My:PySem.W.nsIn K mainGlobals "set" =some none) (Gk:PySem.W.nsIn K mainGlobals "repr" =some none):
  ∃fd:FuncData,(∀(s:Shared) (v:Value),BindsTo s fd ⟨[v],[]⟩ [("_law_script",v)])/\∀base:Heap,K.In base->base.Ns mainGlobals mg->cF l.prog w K mg base jB 6 fa fd ["_law_script"] (spT K 1 (C9 63)):=by
 have e:=NZ.symm.trans (PySem.W.mg_of X G a20)
 cases e
 have F1:=fh (st:=jQ) l1 c1 k1
 have b1:=F1.binds (ps:=["nexts","begin"]) fun _ _ _ _ _ _ us hl=>match us,hl with | [_,_],_=>rfl
 have n1:=PySem.W.mg_of X G a1
 have F2:=fh (st:=lE) l2 c2 k2
 have b2:=F2.binds (ps:=["one","other"]) fun _ _ _ _ _ _ us hl=>match us,hl with | [_,_],_=>rfl
 have n2:=PySem.W.mg_of X G a2
 have F3:=fh (st:=i6) l3 c3 k3
 have b3:=F3.binds (ps:=["signs"]) fun _ _ _ _ _ _ us hl=>match us,hl with | [_],_=>rfl
 have n3:=PySem.W.mg_of X G a3
 have F4:=fh (st:=gJ) l4 c4 k4
 have b4:=F4.binds (ps:=["nexts","words","most"]) fun _ _ _ _ _ _ us hl=>match us,hl with | [_,_,_],_=>rfl
 have n4:=PySem.W.mg_of X G a4
 have F5:=fh (st:=dW) l5 c5 k5
 have b5:=F5.binds (ps:=["nexts","words","most"]) fun _ _ _ _ _ _ us hl=>match us,hl with | [_,_,_],_=>rfl
 have n5:=PySem.W.mg_of X G a5
 have F6:=fh (st:=ow) l6 c6 k6
 have b6:=F6.binds (ps:=["op","one","other"]) fun _ _ _ _ _ _ us hl=>match us,hl with | [_,_,_],_=>rfl
 have n6:=PySem.W.mg_of X G a6
 have F7:=fh (st:=fC) l7 c7 k7
 have b7:=F7.binds (ps:=["op","one","other"]) fun _ _ _ _ _ _ us hl=>match us,hl with | [_,_,_],_=>rfl
 have n7:=PySem.W.mg_of X G a7
 have F8:=fh (st:=lF) l8 c8 k8
 have b8:=F8.binds (ps:=["table","op","one","other"]) fun _ _ _ _ _ _ us hl=>match us,hl with | [_,_,_,_],_=>rfl
 have n8:=PySem.W.mg_of X G a8
 have F9:=fh (st:=lG) l9 c9 k9
 have b9:=F9.binds (ps:=["table","judge"]) fun _ _ _ _ _ _ us hl=>match us,hl with | [_,_],_=>rfl
 have n9:=PySem.W.mg_of X G a9
 have X0:=fh (st:=iA) Wu Wv QW
 have Ug:=X0.binds (ps:=["_law_script","_law_at"]) fun _ _ _ _ _ _ us hl=>match us,hl with | [_,_],_=>rfl
 have n10:=PySem.W.mg_of X G a10
 have X3:=fh (st:=iB) Ww Wx PN
 have X4:=X3.binds (ps:=["_law_feed_here","_law_many"]) fun _ _ _ _ _ _ us hl=>match us,hl with | [_,_],_=>rfl
 have X5:=PySem.W.mg_of X G a11
 have X6:=fh (st:=gM) Wy c12 Gq
 have b12:=X6.binds (ps:=["_law_feed_here"]) fun _ _ _ _ _ _ us hl=>match us,hl with | [_],_=>rfl
 have n12:=PySem.W.mg_of X G a12
 have X7:=fh (st:=cO) Wz WA QX
 have b13:=X7.binds (ps:=["_law_table_here"]) fun _ _ _ _ _ _ us hl=>match us,hl with | [_],_=>rfl
 have n13:=PySem.W.mg_of X G a13
 have X8:=fh (st:=gO) WB WC QY
 have b14:=X8.binds (ps:=["_law_nexts","_law_lasts"]) fun _ _ _ _ _ _ us hl=>match us,hl with | [_,_],_=>rfl
 have n14:=PySem.W.mg_of X G a14
 have Yb:=fh (st:=gP) WD WE PO
 have Yc:=Yb.binds (ps:=["_law_nexts","_law_lasts"]) fun _ _ _ _ _ _ us hl=>match us,hl with | [_,_],_=>rfl
 have Yd:=PySem.W.mg_of X G a15
 have Ye:=fh (st:=jR) WG WH QZ
 have b16:=Ye.binds (ps:=["_law_op_here","_law_one","_law_other"]) fun _ _ _ _ _ _ us hl=>match us,hl with | [_,_,_],_=>rfl
 have n16:=PySem.W.mg_of X G a16
 have Yg:=fh (st:=gQ) WI WJ Q0
 have b17:=Yg.binds (ps:=["_law_one","_law_other"]) fun _ _ _ _ _ _ us hl=>match us,hl with | [_,_],_=>rfl
 have n17:=PySem.W.mg_of X G a17
 have Yh:=fh (st:=fU) WK WL Q2
 have b18:=Yh.binds (ps:=["_law_op_here","_law_one","_law_other"]) fun _ _ _ _ _ _ us hl=>match us,hl with | [_,_,_],_=>rfl
 have n18:=PySem.W.mg_of X G a18
 have Yi:=fh (st:=gR) WM WN Q3
 have b19:=Yi.binds (ps:=["_law_feed_here","_law_many","_law_sizes"]) fun _ _ _ _ _ _ us hl=>match us,hl with | [_,_,_],_=>rfl
 have n19:=PySem.W.mg_of X G a19
 have F20:=fh (st:=qh) WO WQ WR
 have FT:=PySem.W.mg_none_of X G Gj
 have FU:=PySem.W.mg_none_of X G zdict
 have fB:=PySem.W.mg_none_of X G Mu
 have Dh:=PySem.W.mg_none_of X G Mv
 have cQ:=PySem.W.mg_none_of X G AY
 have AO:=PySem.W.mg_none_of X G Mw
 have iw:=PySem.W.mg_none_of X G pI
 have iL:=PySem.W.mg_none_of X G AZ
 have Mr:=PySem.W.mg_none_of X G Mx
 have IU:=PySem.W.mg_none_of X G My
 have vM:=PySem.W.mg_none_of X G Gk
 have iz:=PySem.W.mg_of X G nM
 refine⟨PySem.W.fnOf "law" "law" (bV qh) (bQ qh) (aJ qh) .none PJ PK PL Pp Mt PM,fun s v=>.of_eq rfl,fun base _ _=>?_⟩
 have Gm:=AN (P:=l.prog) (w:=w) (K:=K) (mg:=mg) (base:=base) (n:=0) F1 FT FU fB (fm:=reachF) C2
 have Jc:=Dg (P:=l.prog) (w:=w) (K:=K) (mg:=mg) (base:=base) (n:=0) F2 fB Dh cQ (fm:=pairF) Fi
 have Dk:=zm (P:=l.prog) (w:=w) (K:=K) (mg:=mg) (base:=base) (n:=0) F3 fB (fm:=tR) HJ
 have Mz:=Gd (P:=l.prog) (w:=w) (K:=K) (mg:=mg) (base:=base) (n:=0) F6 (fm:=L3) L4
 have A0:=xg (P:=l.prog) (w:=w) (K:=K) (mg:=mg) (base:=base) (n:=0) X0 (fm:=So.mq) So.Fy
 have um:=xh (P:=l.prog) (w:=w) (K:=K) (mg:=mg) (base:=base) (n:=0) X3 fB (fm:=So.nu) So.Fz
 have qT:=pG (P:=l.prog) (w:=w) (K:=K) (mg:=mg) (base:=base) (n:=0) X7 iL (fm:=lg) EJ
 have zK:=uJ (P:=l.prog) (w:=w) (K:=K) (mg:=mg) (base:=base) (n:=0) X8 Mr fB IU iL cQ (fm:=nv) Dc
 have Gn:=AS (P:=l.prog) (w:=w) (K:=K) (mg:=mg) (base:=base) (n:=0) Ye (fm:=AK) IG
 have zL:=uL (P:=l.prog) (w:=w) (K:=K) (mg:=mg) (base:=base) (n:=0) Yg fB Dh (fm:=qL) Dd
 have zM:=uD (P:=l.prog) (w:=w) (K:=K) (mg:=mg) (base:=base) (n:=1) F4 AO iw cQ (Dk.mono (by omega)) b3 k3 n3 (fm:=jF) EZ
 have zN:=uI (P:=l.prog) (w:=w) (K:=K) (mg:=mg) (base:=base) (n:=1) X6 (um.mono (by omega)) X4 PN X5 (fm:=rY) tab_run
 have rO:=uK (P:=l.prog) (w:=w) (K:=K) (mg:=mg) (base:=base) (n:=1) Yb fB cQ (zK.mono (by omega)) b14 QY n14 (fm:=oG) IC
 have zO:=uM (P:=l.prog) (w:=w) (K:=K) (mg:=mg) (base:=base) (n:=1) Yi fB iL cQ (um.mono (by omega)) X4 PN X5 (fm:=So.iY) So.C8
 have nN:=qN (P:=l.prog) (w:=w) (K:=K) (mg:=mg) (base:=base) (n:=2) F5 iw AO iL cQ (Gm.mono (by omega)) b1 k1 n1 (zM.mono (by omega)) b4 k4 n4 (fm:=lW) C6
 have xy:=uf (P:=l.prog) (w:=w) (K:=K) (mg:=mg) (base:=base) (n:=2) Yh (zL.mono (by omega)) b17 Q0 n17 (rO.mono (by omega)) Yc PO Yd (Gn.mono (by omega)) b16 QZ n16 (fm:=jD) De
 have uN:=rZ (P:=l.prog) (w:=w) (K:=K) (mg:=mg) (base:=base) (n:=3) F7 iz (Jc.mono (by omega)) b2 k2 n2 (Mz.mono (by omega)) b6 k6 n6 (nN.mono (by omega)) b5 k5 n5 (fm:=wX) AG
 have Je:=Dj (P:=l.prog) (w:=w) (K:=K) (mg:=mg) (base:=base) (n:=3) F9 iz (nN.mono (by omega)) b5 k5 n5 (fm:=turnF) Ft
 have Jf:=Di (P:=l.prog) (w:=w) (K:=K) (mg:=mg) (base:=base) (n:=4) F8 (uN.mono (by omega)) b7 k7 n7 (fm:=mj) Fx
 exact Ms (P:=l.prog) (w:=w) (K:=K) (mg:=mg) (base:=base) (n:=5) F20 fB vM (A0.mono (by omega)) Ug QW n10 (zN.mono (by omega)) b12 Gq n12 (qT.mono (by omega)) b13 QX n13 (zO.mono (by omega)) b19 Q3 n19 (Jf.mono (by omega)) b8 k8 n8 (xy.mono (by omega)) b18 Q2 n18 (rO.mono (by omega)) Yc PO Yd (Je.mono (by omega)) b9 k9 n9 Df
theorem walk {l:PySem.W.OpenLaw}{q:Program}{loose:List Str}{XP:(Str->Option Value)->Heap->Prop}{YP:World->Heap->Prop}{d:DefRec}{K:Params->PySem.W.Frag}(hn:l.most=some 63) (hdf:d.params.defaults=[])
  (hY:∀(w:World) (h:Heap),YP w h->(K w.params).In h)
  (hNL:∀w:World,(K w.params).all So.Ip=true)
  (F:∀(w:World) (mg:Str->Option Value) (fa:Addr) (h:Heap),(K w.params).In h->h.Ns mainGlobals mg->mg d.name=some (.ref fa)->
   ∃fd:FuncData,(∀(s:Shared) (u:Value),BindsTo s fd ⟨[u],[]⟩ [("_law_script",u)])/\∀base:Heap,(K w.params).In base->base.Ns mainGlobals mg->cF l.prog w (K w.params) mg base jB 6 fa fd ["_law_script"] (spT (K w.params) 1 (C9 63))):
  PySem.W.WalkO q loose XP YP l.row.toRowW d [] (fun f vs=>PySem.call f vs):=
 L2.G5 (n:=63) (k:=6) (x:="_law_script") (CX:=fun _=>jB) (sp:=fun w=>spT (K w.params) 1 (C9 63)) hn (by decide) hdf ⟨rfl,by decide,by decide,rfl⟩ hY F (fun w H a ns hl hO hS=>So.Ir (hNL w) hl hO hS) fun _ _ _ _ _ z=>z
end K55
open PySem PySem.W PyProof.Rows
noncomputable def PySem.W.Fast.tw17907175296290172925:Nat->Stmt:=K55.top
theorem PySem.W.Fast.te17907175296290172925:K55.top=PySem.W.Fast.tw17907175296290172925:=rfl
def K55.sc:Scope:=PySem.Challenge.pw_surewatch_k55_put_together.main.scope
noncomputable def PySem.W.Fast.tw120848960473361265:Scope:=K55.sc
theorem PySem.W.Fast.te120848960473361265:K55.sc=PySem.W.Fast.tw120848960473361265:=rfl
def K55.pw:Program:={main:={body:=[K55.top 0,K55.top 1,K55.top 2,K55.top 3,K55.top 4,K55.top 5,K55.top 6,K55.top 7,K55.top 8,K55.top 9,K55.top 10,K55.top 11,K55.top 12,K55.top 13,K55.top 14,K55.top 15,K55.top 16,K55.top 17,K55.top 18,K55.top 19,K55.top 20,K55.top 21,K55.top 22,K55.top 23,K55.top 24,K55.top 25,K55.top 26,K55.top 27],scope:=K55.sc,futureAnnotations:=false,file:="/claim/cut.py",more:=[]},modules:=[],parses:=[],absent:=[],harvested:=[],given:={argv:=[],stdin:=[],environ:=some [([76,67,95,65,76,76],[67,46,85,84,70,45,56])]}}
def K55.rw:OpenLaw:={prog:=K55.pw,name:=(PySem.Str.ofString "law"),about:=[(PySem.Str.ofString "joined")],foot:=11,most:=some 63,bound:=none,writes:=false}
noncomputable def PySem.W.Fast.tw16207774089740209900:=0
noncomputable def PySem.W.Fast.tw17481292320263033964:=0
noncomputable def PySem.W.Fast.tw4827511363196206098:=0
noncomputable def PySem.W.Fast.tw9560500805196784094:=0
noncomputable def PySem.W.Fast.tw15127439928045353900:=0
noncomputable def PySem.W.Fast.tw3131205219829079642:=0
noncomputable def PySem.W.Fast.tw369228645531120752:=0
noncomputable def PySem.W.Fast.tw9480844351962510098:=0
noncomputable def PySem.W.Fast.tw16210569931430776221:=0
noncomputable def PySem.W.Fast.tw17641471309260787636:=0
noncomputable def PySem.W.Fast.tw6290252687379553594:=0
noncomputable def PySem.W.Fast.tw14936123154112163884:=0
noncomputable def PySem.W.Fast.tw5668600176995056647:=0
noncomputable def PySem.W.Fast.tw4231952510501442280:=0
noncomputable def PySem.W.Fast.tw11639917206508046802:=0
noncomputable def PySem.W.Fast.tw16763928752596068890:=0
noncomputable def PySem.W.Fast.tw149593524513549035:=0
noncomputable def PySem.W.Fast.tw6695112775065753411:=0
noncomputable def PySem.W.Fast.tw14562400986647389560:=0
noncomputable def PySem.W.Fast.tw2780927009309539636:=0
noncomputable def PySem.W.Fast.tw6191820469152752741:=0
noncomputable def PySem.W.Fast.tw17445725925932446921:=0
noncomputable def PySem.W.Fast.tw2809480525084093843:=0
noncomputable def PySem.W.Fast.tw10626551897285866285:=0
noncomputable def PySem.W.Fast.tw14377582779144035380:=0
noncomputable def PySem.W.Fast.tw2362422172639404774:=0
noncomputable def PySem.W.Fast.tw15631179771846493874:=0
noncomputable def PySem.W.Fast.tw7684361796895273121:=0
noncomputable def PySem.W.Fast.tw7536689950253121075:=0
noncomputable def PySem.W.Fast.tw4538901555005054532:=0
noncomputable def PySem.W.Fast.tw17042284912319280009:=0
noncomputable def PySem.W.Fast.tw5487322854127601755:=0
noncomputable def PySem.W.Fast.tw16153324186913659224:=0
noncomputable def PySem.W.Fast.tw9530631588423704785:=0
noncomputable def PySem.W.Fast.tw11136524887231195411:=0
noncomputable def PySem.W.Fast.tw18396776641299183902:=0
noncomputable def PySem.W.Fast.tw10990091110562693347:=0
noncomputable def PySem.W.Fast.tw17404773847516857553:=0
noncomputable def PySem.W.Fast.tw12953742932322192239:=0
noncomputable def PySem.W.Fast.tw17436741463071501820:=0
noncomputable def PySem.W.Fast.tw11436165830024817020:=0
set_option maxRecDepth 100000 in
set_option maxHeartbeats 0 in
theorem K55.holds:K55.rw.Holds:=by
 w_on;o_law;k_head;(case hw=>w_witness2)
 k_fill
 refine K55.walk (l:=K55.rw) rfl rfl (fun w h Y=>PySem.W.kIn_of Y) ?NL ?F
 case NL=>exact fun w=>Eq.refl true
 case F=>
  intro w mg fa h KX G hmg
  refine' K55.all_mk KX G hmg ?a1 ?l1 ?c1 ?k1 ?a2 ?l2 ?c2 ?k2 ?a3 ?l3 ?c3 ?k3 ?a4 ?l4 ?c4 ?k4 ?a5 ?l5 ?c5 ?k5 ?a6 ?l6 ?c6 ?k6 ?a7 ?l7 ?c7 ?k7 ?a8 ?l8 ?c8 ?k8 ?a9 ?l9 ?c9 ?k9 ?a10 ?Wu ?Wv ?QW ?a11 ?Ww ?Wx ?PN ?a12 ?Wy ?c12 ?Gq ?a13 ?Wz ?WA ?QX ?a14 ?WB ?WC ?QY ?a15 ?WD ?WE ?PO ?a16 ?WG ?WH ?QZ ?a17 ?WI ?WJ ?Q0 ?a18 ?WK ?WL ?Q2 ?a19 ?WM ?WN ?Q3 ?a20 ?WO ?WQ ?WR ?nM ?Gj ?zdict ?Mu ?Mv ?AY ?Mw ?pI ?AZ ?Mx ?My ?Gk
  (case a1=>k_is);(case l1=>k_is);(case c1=>k_is);(case k1=>k_is)
  (case a2=>k_is);(case l2=>k_is);(case c2=>k_is);(case k2=>k_is)
  (case a3=>k_is);(case l3=>k_is);(case c3=>k_is);(case k3=>k_is)
  (case a4=>k_is);(case l4=>k_is);(case c4=>k_is);(case k4=>k_is)
  (case a5=>k_is);(case l5=>k_is);(case c5=>k_is);(case k5=>k_is)
  (case a6=>k_is);(case l6=>k_is);(case c6=>k_is);(case k6=>k_is)
  (case a7=>k_is);(case l7=>k_is);(case c7=>k_is);(case k7=>k_is)
  (case a8=>k_is);(case l8=>k_is);(case c8=>k_is);(case k8=>k_is)
  (case a9=>k_is);(case l9=>k_is);(case c9=>k_is);(case k9=>k_is)
  (case a10=>k_is);(case Wu=>k_is);(case Wv=>k_is);(case QW=>k_is)
  (case a11=>k_is);(case Ww=>k_is);(case Wx=>k_is);(case PN=>k_is)
  (case a12=>k_is);(case Wy=>k_is);(case c12=>k_is);(case Gq=>k_is)
  (case a13=>k_is);(case Wz=>k_is);(case WA=>k_is);(case QX=>k_is)
  (case a14=>k_is);(case WB=>k_is);(case WC=>k_is);(case QY=>k_is)
  (case a15=>k_is);(case WD=>k_is);(case WE=>k_is);(case PO=>k_is)
  (case a16=>k_is);(case WG=>k_is);(case WH=>k_is);(case QZ=>k_is)
  (case a17=>k_is);(case WI=>k_is);(case WJ=>k_is);(case Q0=>k_is)
  (case a18=>k_is);(case WK=>k_is);(case WL=>k_is);(case Q2=>k_is)
  (case a19=>k_is);(case WM=>k_is);(case WN=>k_is);(case Q3=>k_is)
  (case a20=>k_is);(case WO=>k_is);(case WQ=>k_is);(case WR=>k_is)
  (case nM=>k_is)
  (case Gj=>k_is);(case zdict=>k_is);(case Mu=>k_is);(case Mv=>k_is);(case AY=>k_is);(case Mw=>k_is);(case pI=>k_is);(case AZ=>k_is);(case Mx=>k_is);(case My=>k_is);(case Gk=>k_is)
theorem PySem.Challenge.cw_surewatch_k55_put_together_holds : PySem.Challenge.rw_surewatch_k55_put_together.Holds :=
 K55.holds
