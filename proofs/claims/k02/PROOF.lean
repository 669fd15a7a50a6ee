import PyProof.Rows.All
import Wide.All
import OpenK.AllK
import Wide.FinOn
import KE.KStateDown
import Lean
import HandS.Head0
import HandS.Head1
import HandS.Head2
import HandS.HeadEnd
import HandS.HeadHook1
import HandS.HeadHook2
import HandS.HeadHook3
import HandS.HeadHook4
import PyProof.StrWalks
import PyProof.Rows.SetFrom
import HandS.ForMost
import HandS.Set
import HandS.Strs
import HandS.Codes
import HandS.StrMore
import HandS.Rev
import PyProof.StrOps2
import PyProof.Rows.StrCut
import HandS.Walk
import HandS.DictComp
import HandS.IsInst
import HandS.Defaults
import HandS.TupLe
import HandS.Words
import PySem.Challenge.RW_crosswalls_k02_plans_refused
import PyProof.Rows.StrRev
import KE.KRevSl
import HandS.SlotsOwn
import HandS.OwnEq
import HandS.ExcIs
import HandS.ExcInit
import PyProof.NeKinds
import PyProof.EqKinds
import HandS.ExcCtx
import HandS.TupAny
import HandS.Comp
import KE.GoesMore
import HandS.Zip
import OpenK.KMeth
import HandS.MakeKwOnly
import HandS.ClsMeth
import HandS.Lambda
import HandS.TryMany
import HandS.ExcField
import KE.KExcIs
import KE.KOpsOwn
import HandS.HeadWalk
set_option Elab.async false
set_option linter.all false
section
set_option maxRecDepth 100000
set_option maxHeartbeats 2000000
/-! Sets of texts: made of a text or of a list of texts; their number; sorted. -/
namespace TX
open PySem PySem.Spec PyProof.Rows L2

def txt (e : Int × Value) : Str := match e.2 with | .str x _ => x | _ => Str.empty
def Good (w : World) (e : Int × Value) : Prop := ∃ x tk, e.2 = Value.str x tk ∧ e.1 = hashStr w x
/-- one text more -/
def addT (l : List Str) (k : Str) : List Str := if k ∈ l then l else k :: l
theorem addT_nodup {l : List Str} {k : Str} (h : l.Nodup) : (addT l k).Nodup := by
  unfold addT
  split
  · exact h
  · rename_i c
    exact List.nodup_cons.mpr ⟨c, h⟩
theorem mem_addT {l : List Str} {k x : Str} : x ∈ addT l k ↔ x = k ∨ x ∈ l := by
  unfold addT
  split
  · rename_i c
    exact ⟨.inr, fun h => h.elim (fun e => e ▸ c) id⟩
  · exact List.mem_cons
theorem addT_len (l : List Str) (k : Str) : (addT l k).length ≤ l.length + 1 := by
  unfold addT
  split
  · omega
  · exact Nat.le_refl _
def allT (xs : List Str) : List Str := xs.foldl addT []
theorem fold_nodup : ∀ (xs l : List Str), l.Nodup → (xs.foldl addT l).Nodup
  | [], _, h => h
  | x :: xs, l, h => fold_nodup xs (addT l x) (addT_nodup h)
theorem fold_mem : ∀ (xs l : List Str) (y : Str), y ∈ xs.foldl addT l ↔ y ∈ xs ∨ y ∈ l
  | [], l, y => by simp
  | x :: xs, l, y => by
    show y ∈ xs.foldl addT (addT l x) ↔ _
    rw [fold_mem xs (addT l x) y, mem_addT, List.mem_cons]
    constructor
    · rintro (h | h | h)
      · exact .inl (.inr h)
      · exact .inl (.inl h)
      · exact .inr h
    · rintro ((h | h) | h)
      · exact .inr (.inl h)
      · exact .inl h
      · exact .inr (.inr h)
theorem fold_len : ∀ (xs l : List Str), (xs.foldl addT l).length ≤ l.length + xs.length
  | [], _ => Nat.le_refl _
  | x :: xs, l => by
    have h1 := fold_len xs (addT l x)
    have h2 := addT_len l x
    show (xs.foldl addT (addT l x)).length ≤ _
    rw [List.length_cons]
    omega
theorem allT_nodup (xs : List Str) : (allT xs).Nodup := fold_nodup xs [] List.nodup_nil
theorem allT_mem {xs : List Str} {y : Str} : y ∈ allT xs ↔ y ∈ xs := by
  have h := fold_mem xs [] y
  unfold allT
  simpa using h
theorem allT_len (xs : List Str) : (allT xs).length ≤ xs.length := by
  have h := fold_len xs []
  unfold allT
  simpa using h
/-- the texts l stand in a set at a -/
def SetT (w : World) (h : Heap) (a : Addr) (l : List Str) : Prop :=
  ∃ o es ep t, h.get? a = some o ∧ o.ExactSet ∧ o.data = .set es ep t ∧ (∀ e ∈ es.toList, Good w e) ∧ (es.toList.map txt).Perm l ∧ l.Nodup ∧ l.length < scanBound ∧
    t.fits es.size = true ∧ Ris t.place.toList ∧ (w.params.followText "set-order" = true ∨ t.led = true)

section
variable {P : Program} {w : World} {h h' : Heap} {a : Addr} {l : List Str}
theorem SetT.at (R : SetT w h a l) (k : ∀ o, h.get? a = some o → h'.get? a = some o) : SetT w h' a l := by
  obtain ⟨o, es, ep, t, ho, r⟩ := R
  exact ⟨o, es, ep, t, k o ho, r⟩
theorem good_key {e : Int × Value} (g : Good w e) (k : Str) : (PySem.strKind P w).is k e.2 = true ↔ txt e = k := by
  obtain ⟨x, tk, h1, _⟩ := g
  unfold txt
  rw [h1]
  show (Value.isStrOf k (.str x tk) = true) ↔ x = k
  simp [Value.isStrOf]
  try exact eq_comm
theorem good_el {l : List (Int × Value)} (g : ∀ e ∈ l, Good w e) : ElemsOf (PySem.strKind P w) l := by
  intro e he
  obtain ⟨x, tk, h1, h2⟩ := g e he
  refine ⟨⟨x, ?_, h2⟩, ?_⟩
  · rw [h1]
    exact strKind_is _ _ _ _
  · rw [h1] <;> rfl
theorem good_in {es : List (Int × Value)} (g : ∀ e ∈ es, Good w e) (k : Str) : k ∈ es.map txt ↔ ∃ e ∈ es, (PySem.strKind P w).is k e.2 = true := by
  rw [List.mem_map]
  constructor
  · rintro ⟨e, he, q⟩
    exact ⟨e, he, (good_key (g e he) k).2 q⟩
  · rintro ⟨e, he, q⟩
    exact ⟨e, he, (good_key (g e he) k).1 q⟩
theorem fresh_set (w : World) (h : Heap) : SetT w (h.push { cls := .type "set", dict := none, data := .set #[] 0 (.fresh 0 0 (!w.params.followText "set-order")) }) h.objs.size [] := by
  refine ⟨_, #[], 0, _, Heap.get?_push_size _ rfl, ⟨rfl, rfl, rfl⟩, rfl, fun e he => by simp at he, by simp, List.nodup_nil, by decide, by rfl, List.Pairwise.nil, ?_⟩
  show _ ∨ (!w.params.followText "set-order") = true
  cases w.params.followText "set-order" <;> simp
end

section
variable {P : Program} {w : World} {A : Around} {E : Value → Shared → Prop} {s : Shared} {a : Addr} {l : List Str}

theorem put_get {h : Heap} {o : Obj} {es es' : Array (Int × Value)} {ep : Nat} {t t' : SetTable} (ho : h.get? a = some o) (hd : o.data = .set es ep t) :
    (h.update a (Obj.putSet es' t')).get? a = some { o with data := .set es' (ep + 1) t' } := by
  rw [← putSet_of es' t' hd]
  exact Heap.get?_update_self (Obj.putSet es' t') ho (by rw [putSet_of es' t' hd] <;> rfl)

/-- the end of an add: the table is stored, and laid anew where it is too full -/
theorem add_end {g : Bool → Sem Unit} (hg : ∀ (b : Bool) (s₁ : Shared) (Q' : Unit → Shared → Prop), Q' () s₁ → wpAny (model P w) A (g b) Q' E s₁)
    {o : Obj} {es : Array (Int × Value)} {ep : Nat} {t : SetTable} (ho : s.heap.get? a = some o) (hex : o.ExactSet) (hd : o.data = .set es ep t)
    {e1 : Array (Int × Value)} {t2 : SetTable} {l' : List Str} (g1 : ∀ e ∈ e1.toList, Good w e) (p1 : (e1.toList.map txt).Perm l') (nd : l'.Nodup) (hb : l'.length < scanBound)
    (hf : t2.fits e1.size = true) (hr : Ris t2.place.toList) (hl : w.params.followText "set-order" = true ∨ t2.led = true) {wasDummy : Bool} {R : Option Bool → Shared → Prop}
    (hR : ∀ h', Heap.SameBut a s.heap h' → SetT w h' a l' → R (some true) { s with heap := h' }) :
    wpAny (model P w) A (do
        storeSet a e1 t2
        if (!wasDummy && t2.tooFull) = true then do
            g (relayAll t2 e1 (SetTable.grown e1.size)).2.2
            storeSet a (relayAll t2 e1 (SetTable.grown e1.size)).1 (relayAll t2 e1 (SetTable.grown e1.size)).2.1
            pure (some true)
          else pure (some true)) R E s := by
  have z1 : e1.size < scanBound := by
    have q := p1.length_eq
    rw [List.length_map, Array.length_toList] at q
    omega
  have o1 := put_get (es' := e1) (t' := t2) ho hd
  have b1 := Heap.SameBut.update s.heap a (Obj.putSet e1 t2)
  refine wpAny_bind (wpAny_storeSet_of ho hd ?_ (fits_of_scanBound z1))
  split
  · have pm := relayAll_perm t2 e1 (SetTable.grown e1.size)
    have q1 := relayAll_fits t2 e1 (SetTable.grown e1.size)
    have q2 := relayAll_ris t2 e1 (SetTable.grown e1.size)
    have q3 := relayAll_led t2 e1 (SetTable.grown e1.size)
    generalize relayAll t2 e1 (SetTable.grown e1.size) = Z at pm q1 q2 q3 ⊢
    obtain ⟨e2, t3, gave⟩ := Z
    dsimp only at pm q1 q2 q3 ⊢
    have z2 : e2.size = e1.size := by rw [← Array.length_toList, pm.length_eq, Array.length_toList]
    have o2 := put_get (es' := e2) (t' := t3) o1 rfl
    refine wpAny_bind (hg _ _ _ (wpAny_bind (wpAny_storeSet_of o1 rfl (wpAny_pure (hR _ (b1.trans (Heap.SameBut.update _ a _)) ?_)) (fits_of_scanBound (by rw [z2]; exact z1)))))
    exact ⟨_, e2, _, t3, o2, hex, rfl, fun e he => g1 e (pm.mem_iff.mp he), (pm.map txt).trans p1, nd, hb, q1, q2, hl.imp id fun z => by rw [q3]; exact z⟩
  · exact wpAny_pure (hR _ b1 ⟨_, e1, _, t2, o1, hex, rfl, g1, p1, nd, hb, hf, hr, hl⟩)

theorem add_one {k : Str} {tk : Tok} {Q : Bool → Shared → Prop} (R : SetT w s.heap a l) (room : l.length + 1 < scanBound)
    (hQ : ∀ h' b, Heap.SameBut a s.heap h' → SetT w h' a (addT l k) → Q b { s with heap := h' }) : wpAny (model P w) A (setAddHashed a (.str k tk) ((PySem.strKind P w).hash k)) Q E s := by
  obtain ⟨o, es, ep, t, ho, hex, hd, g, pm, nd, hb, hf, hr, hl⟩ := R
  have hz : es.size = l.length := by rw [← pm.length_eq, List.length_map, Array.length_toList]
  have hkey : (PySem.strKind P w).is k (.str k tk) = true := strKind_is _ _ _ _
  have hel : ElemsOf (PySem.strKind P w) es.toList := good_el g
  have pass : ∀ (b : Bool) {s₁ : Shared} {Q' : Unit → Shared → Prop}, Q' () s₁ → wpAny (model P w) A (match b with | true => rule "set.scan.the-table-gave-way" | false => pure ()) Q' E s₁ := by
    intro b s₁ Q' q
    cases b
    · exact wpAny_pure q
    · exact wpAny_rule q
  unfold setAddHashed setAddHashedIn
  refine wpAny_holding (wpAny_bind (wpAny_setState_of ho hd hf ?_))
  dsimp only
  rw [byScan_of (show (Value.str k tk).scannable = true from rfl) (by rw [hz]; exact hb) hel]
  simp only [↓reduceIte]
  unfold setAddByScan
  refine wpAny_bind (wpAny_bind (wpAny_rule (wpAny_bind (wpAny_setScan_of hkey ho hd hf hel ?_))))
  cases hfi : List.findIdx? (fun e => (PySem.strKind P w).is k e.2) es.toList with
  | some j =>
    dsimp only
    obtain ⟨hj, pj, _⟩ := List.findIdx?_eq_some_iff_getElem.mp hfi
    have hin : k ∈ l := pm.mem_iff.mp ((good_in (P := P) g k).2 ⟨es.toList[j], List.getElem_mem hj, pj⟩)
    have el : addT l k = l := if_pos hin
    refine wpAny_pure (wpAny_pure (hQ s.heap _ (Heap.SameBut.refl a s.heap) ?_))
    rw [el]
    exact ⟨o, es, ep, t, ho, hex, hd, g, pm, nd, hb, hf, hr, hl⟩
  | none =>
    dsimp only
    have hout : k ∉ l := fun z => by
      obtain ⟨e, he, q⟩ := (good_in (P := P) g k).1 (pm.mem_iff.mpr z)
      have c := List.findIdx?_eq_none_iff.mp hfi e he
      rw [q] at c
      exact Bool.noConfusion c
    have el : addT l k = k :: l := if_neg hout
    have r1 := layNew_perm t es ((PySem.strKind P w).hash k) (.str k tk)
    have r2 := layNew_fits t es ((PySem.strKind P w).hash k) (.str k tk)
    have r3 := layNew_ris t es ((PySem.strKind P w).hash k) (.str k tk) hr
    have r4 := layNew_led t es ((PySem.strKind P w).hash k) (.str k tk)
    generalize layNew t es ((PySem.strKind P w).hash k) (.str k tk) = Z at r1 r2 r3 r4 ⊢
    obtain ⟨e1, t1, wasDummy, gave⟩ := Z
    dsimp only at r1 r2 r3 r4 ⊢
    rw [Array.toList_push] at r1
    have rc : e1.toList.Perm (((PySem.strKind P w).hash k, Value.str k tk) :: es.toList) := r1.trans (List.perm_append_singleton _ _)
    have g1 : ∀ e ∈ e1.toList, Good w e := by
      intro e he
      rcases List.mem_cons.mp (rc.mem_iff.mp he) with z | z
      · rw [z]
        exact ⟨k, tk, rfl, rfl⟩
      · exact g e z
    have p1 : (e1.toList.map txt).Perm (addT l k) := by
      rw [el]
      exact (rc.map txt).trans (pm.cons k)
    have hled : w.params.followText "set-order" = true ∨ t1.led = true := hl.imp id fun z => by rw [r4]; exact z
    have hb1 : (addT l k).length < scanBound := Nat.lt_of_le_of_lt (addT_len l k) room
    refine wpAny_bind (pass _ ?_)
    split
    · refine wpAny_bind ?_
      rw [hashByValue_scannable 8 (show (Value.str k tk).scannable = true from rfl)]
      refine wpAny_pure ?_
      refine add_end ?_ ho hex hd g1 p1 (addT_nodup nd) hb1 ?_ ?_ ?_ ?_
      · intro b s₁ Q' q
        cases b <;> first | exact wpAny_pure q | exact wpAny_rule q
      · first | (split <;> first | exact r2 | exact SetTable.fits_plain_off r2) | exact r2
      · first | (split <;> exact r3) | exact r3
      · first | (split <;> exact hled) | exact hled
      · intro h' sb r
        dsimp only
        exact wpAny_pure (hQ h' _ sb r)
    · refine wpAny_bind (wpAny_pure ?_)
      simp only [↓reduceIte]
      refine add_end ?_ ho hex hd g1 p1 (addT_nodup nd) hb1 r2 r3 hled ?_
      · intro b s₁ Q' q
        cases b <;> first | exact wpAny_pure q | exact wpAny_rule q
      · intro h' sb r
        dsimp only
        exact wpAny_pure (hQ h' _ sb r)
end
end TX
end
section
set_option maxRecDepth 100000
set_option maxHeartbeats 3200000
namespace TX
open PySem PySem.Spec PyProof.Rows L2
section
variable {P : Program} {w : World} {A : Around} {R : Result → Shared → Prop} {I : Addr} {fp wr : List Addr} {G : Array GenState → Array GenState → Prop} {n : Nat} {Pv : Nat → Value → Prop} {St : Nat → Shared → Prop}
theorem take_one {α : Type} {xs : List α} {i : Nat} {x : α} (h : xs[i]? = some x) : xs.take (i + 1) = xs.take i ++ [x] := by
  rw [List.take_succ, h]
  rfl
/-- the texts that an iterator gives go into the set, one by one -/
theorem fill_loop (W : WalksS P w A.in1 I fp wr G n Pv St) (S : Addr) (hS : S ∉ fp) (xs : List Str) (hn : xs.length = n) (room : n + 1 < scanBound)
    (hv : ∀ i v, Pv i v → ∃ x t, xs[i]? = some x ∧ v = .str x t) :
    ∀ (k i : Nat) (s : Shared), n - i = k → i ≤ n → St i s → SetT w s.heap S (allT (xs.take i)) →
      (∀ s', Moved (S :: wr) G s s' → SetT w s'.heap S (allT xs) → R (.ok (.ret .none)) s') →
      codeAny (model P w) A (.builtin "set.update.loop" ⟨[.ref S, .ref I], []⟩) R s := by
  have out : S ∉ wr := fun h => hS (W.sub _ h)
  have more : ∀ b ∈ wr, b ∈ S :: wr := fun b hb => List.mem_cons_of_mem _ hb
  intro k
  induction k with
  | zero =>
    intro i s hk hi st hs hR
    have e : i = n := by omega
    subst e
    rw [List.take_of_length_le (Nat.le_of_eq hn)] at hs
    refine codeAny_builtin PyProof.Rows.F.entry_set_update_loop ?_
    rw [Around.under_plainId PyProof.Rows.F.plain_set_update_loop _]
    show wpAny _ A.in1 (pyNext (.ref I) >>= _) _ _ s
    refine wpAny_bind (W.done s _ _ st fun s' hm => ?_)
    show wpAny _ A.in1 (ret Value.none) _ _ s'
    exact wpAny_pure (hR s' (hm.mono more) (hs.at fun o q => hm.heap S _ out q))
  | succ k ih =>
    intro i s hk hi st hs hR
    have lt : i < n := by omega
    refine codeAny_builtin PyProof.Rows.F.entry_set_update_loop ?_
    rw [Around.under_plainId PyProof.Rows.F.plain_set_update_loop _]
    show wpAny _ A.in1 (pyNext (.ref I) >>= _) _ _ s
    refine wpAny_bind (W.item i s _ _ lt st fun v s' hP st' hm => ?_)
    obtain ⟨x, t, hx, rfl⟩ := hv i v hP
    have hs' : SetT w s'.heap S (allT (xs.take i)) := hs.at fun o q => hm.heap S _ out q
    show wpAny _ A.in1 (holding [Value.str x t] (setAdd S (.str x t)) >>= _) _ _ s'
    refine wpAny_bind (wpAny_holding ?_)
    unfold setAdd
    refine wpAny_holding (wpAny_bind ((PySem.strKind P w).pyHash (k := x) (strKind_is _ _ _ _) ?_))
    have small : (allT (xs.take i)).length + 1 < scanBound := by
      have q := allT_len (xs.take i)
      rw [List.length_take] at q
      omega
    refine add_one (s := { s' with toks := s'.toks + 1 }) hs' small fun h' b sb hs2 => ?_
    have e : addT (allT (xs.take i)) x = allT (xs.take (i + 1)) := by
      rw [take_one hx]
      unfold allT
      rw [List.foldl_append]
      rfl
    rw [e] at hs2
    refine wpAny_pure ⟨plainId_quiet PyProof.Rows.F.plain_set_update_loop _, ih (i + 1) _ (by omega) lt (W.frame _ s' _ _ st' (Nat.le_succ _) fun b hb o q => ?_) hs2 fun s'' hm2 hs3 => ?_⟩
    · rw [sb.2 b (fun z : b = S => hS (by rw [← z]; exact hb))]
      exact q
    · refine hR s'' (Moved.trans W.gtrans ((hm.mono more).then_heap (Nat.le_succ _) fun b o hb q => ?_) hm2) hs3
      rw [sb.2 b (fun z : b = S => hb (by rw [z]; exact List.mem_cons_self))]
      exact q
end

section
variable {P : Program} {w : World} {A : Around} {E : Value → Shared → Prop} {s : Shared}
/-- the empty set of set(x), with what it knows of the order -/
theorem bare_set (a : Value) {Q₁ : Value → Shared → Prop}
    (h : Q₁ (.ref s.heap.objs.size) { s with heap := s.heap.push { cls := .type "set", dict := none, data := .set #[] 0 (.fresh 0 0 (!w.params.followText "set-order")) } }) :
    codeAny (model P w) A (.call (.builtin "set.__new__") ⟨[.type "set", a], []⟩) (wants Q₁ E) s := by
  refine codeAny_of_tree ?_
  show wpAny _ A.in1 (do checkBuiltinCall "set.__new__" ⟨[.type "set", a], []⟩; again (.builtin "set.__new__" ⟨[.type "set", a], []⟩)) _ _ s
  refine wpAny_bind (wpAny_of_eq (PySem.F.newCall_set_1 a) (wpAny_pure ⟨plainId_quiet PySem.F.plain_set_new _, codeAny_builtin PySem.F.entry_set_new ?_⟩))
  rw [Around.under_plainId PySem.F.plain_set_new _]
  unfold Builtin.«set.__new__» Builtin.Frozenset.newClass
  have hsub := sub_set_self
  obtain ⟨hp, g, d, tk, os⟩ := s
  dsimp only
  wp_walk
  refine wpAny_askSetting (wpAny_pure ?_)
  dsimp only
  simp only [newObj]
  refine wpAny_bind (wpAny_alloc (wpAny_pure ?_))
  exact wpAny_pure h

/-- set(x), whatever x is: what stands behind the making of the empty set is given -/
theorem set_of (x : Value) {Q : Value → Shared → Prop}
    (h : ∀ (A' : Around) (s₁ : Shared) (K' : Fin → Shared → Prop) (E' : Value → Shared → Prop), A'.handled = A.handled → s₁ = { s with heap := s.heap.push { cls := .type "set", dict := none, data := .set #[] 0 (.fresh 0 0 (!w.params.followText "set-order")) } } →
      (∀ s₂, (Q (.ref s.heap.objs.size) s₂) → K' (.done (.ret .none)) s₂) → wpAny (model P w) A' (Builtin.«set.__init__» ⟨[.ref s.heap.objs.size, x], []⟩) K' E' s₁) :
    wpAny (model P w) A (call (.type "set") [x]) Q E s := by
  obtain ⟨c, tl, hmro⟩ := PySem.F.called_set.mro
  have hmade := PySem.F.called_set.made
  have hsub := PySem.F.called_set.sub
  refine wpAny_call (codeAny_of_tree ?_)
  show wpAny _ _ (callAny (.type "set") _) _ _ _
  refine wpAny_pure ⟨Code.quiet_builtin _ (by decide +kernel), codeAny_builtin PySem.F.entry_type_call ?_⟩
  rw [Around.under_plain (weight_type_call_type "set" [x] []) rfl]
  have h1 := PySem.F.called_set.notType
  have h2 := PySem.F.called_set.canCreate
  have hct := PySem.F.typeCall_set_1 x
  repeat (any_goals (first | assumption | wp_step))
  refine codeAny_mono (bare_set x (E := E) (Q₁ := fun obj s₁ => obj = .ref s.heap.objs.size ∧ s₁ = { s with heap := s.heap.push { cls := .type "set", dict := none, data := .set #[] 0 (.fresh 0 0 (!w.params.followText "set-order")) } }) ⟨rfl, rfl⟩) fun r s₁ hr => ?_
  cases r with
  | error e => exact hr
  | ok fl =>
    cases fl with
    | ret obj =>
      obtain ⟨rfl, rfl⟩ := hr
      have hS : (s.heap.push { cls := .type "set", dict := none, data := .set #[] 0 (.fresh 0 0 (!w.params.followText "set-order")) }).get? s.heap.objs.size = some { cls := .type "set", dict := none, data := .set #[] 0 (.fresh 0 0 (!w.params.followText "set-order")) } := Heap.get?_push_size _ rfl
      have hT : Shared.TypeIs { s with heap := s.heap.push { cls := .type "set", dict := none, data := .set #[] 0 (.fresh 0 0 (!w.params.followText "set-order")) } } (.ref s.heap.objs.size) "set" := ⟨_, hS, rfl⟩
      have hli := PySem.F.called_set.init.lookup
      have hbi := PySem.F.called_set.init.bind (.ref s.heap.objs.size)
      repeat (any_goals (first | assumption | wp_step))
      refine codeAny_mono (codeAny_call_builtin (R := wants (fun r s₂ => r = .none ∧ Q (.ref s.heap.objs.size) s₂) E) PySem.F.called_set.init.plain PySem.F.entry_set_init (check_set_init_1 hT ?_)) fun r₂ s₂ hr₂ => ?_
      · exact h _ _ _ _ (by simp) rfl fun s₂ q => ⟨rfl, q⟩
      · cases r₂ with
        | error e => exact hr₂
        | ok fl₂ =>
          cases fl₂ with
          | ret r =>
            obtain ⟨rfl, hq⟩ := hr₂
            repeat (any_goals (first | assumption | wp_step))
          | _ => exact hr₂.elim
    | _ => exact hr.elim
end
end TX
end
section
set_option maxRecDepth 100000
set_option maxHeartbeats 3200000
namespace TX
open PySem PySem.Spec PyProof.Rows L2
def sing (c : Nat) : Str := ⟨#[c]⟩
def signs (x : Str) : List Str := x.cps.toList.map sing
section
variable {P : Program} {w : World} {A : Around} {E : Value → Shared → Prop} {s : Shared}
theorem set_text {x : Str} {u : Tok} {Q : Value → Shared → Prop} (hh : A.handled = none) (hb : x.length + 1 < scanBound)
    (h : ∀ (h' : Heap) (tk : Nat), SetT w h' s.heap.objs.size (allT (signs x)) → (∀ b o, s.heap.get? b = some o → h'.get? b = some o) → Q (.ref s.heap.objs.size) { s with heap := h', toks := tk }) :
    wpAny (model P w) A (call (.type "set") [.str x u]) Q E s := by
  refine set_of (.str x u) fun A' s₁ K' E' hA e hK => ?_
  subst e
  have f0 := fresh_set w s.heap
  have hS : (s.heap.push { cls := .type "set", dict := none, data := .set #[] 0 (.fresh 0 0 (!w.params.followText "set-order")) }).get? s.heap.objs.size = some { cls := .type "set", dict := none, data := .set #[] 0 (.fresh 0 0 (!w.params.followText "set-order")) } := Heap.get?_push_size _ rfl
  generalize hH : s.heap.push { cls := .type "set", dict := none, data := .set #[] 0 (.fresh 0 0 (!w.params.followText "set-order")) } = H0 at f0 hS ⊢
  have hz : H0.objs.size = s.heap.objs.size + 1 := by rw [← hH, Heap.size_push]
  have hold : ∀ b o, s.heap.get? b = some o → H0.get? b = some o := fun b o q => by rw [← hH]; exact Heap.get?_push_of_some _ q
  have k1 := PySem.F.sub_str_set
  have k2 := PySem.F.sub_str_frozenset
  have k3 : (Value.type "str" == Value.type "dict") = false := by decide
  unfold Builtin.«set.__init__» noKeywords Builtin.Frozenset.updateFrom
  generalize hPI : pyIter = PI
  wp_walk
  subst hPI
  refine wpAny_pyIter_str fun o St hW hst => ?_
  refine wpAny_bind (wpAny_runValue ?_)
  have apart : s.heap.objs.size ∉ [H0.objs.size] := by
    rw [hz]
    simp
  refine fill_loop ((hW _ (by simp [hA, hh])).toS) s.heap.objs.size apart (signs x) (by unfold signs; rw [List.length_map, Array.length_toList]) hb (fun i v q => ?_) (x.cps.size - 0) 0 _ rfl (Nat.zero_le _) hst ?_ ?_
  · obtain ⟨c, t, q1, q2⟩ := q
    refine ⟨sing c, t, ?_, q2⟩
    unfold signs
    rw [List.getElem?_map, Array.getElem?_toList, q1]
    rfl
  · exact f0.at fun o q => Heap.get?_push_of_some _ q
  · intro s' hm hs
    obtain ⟨h', g', d', tk', os'⟩ := s'
    have eg : g' = s.gens := hm.gens
    have ed : d' = s.drawn := hm.drawn
    have eo : os' = s.os := hm.os
    subst eg
    subst ed
    subst eo
    refine wpAny_pure ?_
    refine wpAny_pure (hK _ (h h' tk' hs fun b o q => ?_))
    have lt := Heap.lt_size q
    refine hm.heap b o ?_ (Heap.get?_push_of_some _ (hold b o q))
    simp only [List.mem_cons, List.not_mem_nil, or_false, not_or]
    exact ⟨Nat.ne_of_lt lt, by show b ≠ H0.objs.size; rw [hz]; exact Nat.ne_of_lt (Nat.lt_succ_of_lt lt)⟩
theorem set_list {l : Addr} {items : Array Value} {xs : List Str} {Q : Value → Shared → Prop} (hh : A.handled = none) (hl : s.heap.IsList l items) (hi : PyProof.Rows.StrsAre items.toList xs) (hb : xs.length + 1 < scanBound)
    (h : ∀ (h' : Heap) (tk : Nat), SetT w h' s.heap.objs.size (allT xs) → (∀ b o, s.heap.get? b = some o → h'.get? b = some o) → Q (.ref s.heap.objs.size) { s with heap := h', toks := tk }) :
    wpAny (model P w) A (call (.type "set") [.ref l]) Q E s := by
  refine set_of (.ref l) fun A' s₁ K' E' hA e hK => ?_
  subst e
  have f0 := fresh_set w s.heap
  have hS : (s.heap.push { cls := .type "set", dict := none, data := .set #[] 0 (.fresh 0 0 (!w.params.followText "set-order")) }).get? s.heap.objs.size = some { cls := .type "set", dict := none, data := .set #[] 0 (.fresh 0 0 (!w.params.followText "set-order")) } := Heap.get?_push_size _ rfl
  generalize hH : s.heap.push { cls := .type "set", dict := none, data := .set #[] 0 (.fresh 0 0 (!w.params.followText "set-order")) } = H0 at f0 hS ⊢
  have hz : H0.objs.size = s.heap.objs.size + 1 := by rw [← hH, Heap.size_push]
  have hold : ∀ b o, s.heap.get? b = some o → H0.get? b = some o := fun b o q => by rw [← hH]; exact Heap.get?_push_of_some _ q
  have ht : ∃ ol, s.heap.get? l = some ol ∧ ol.cls = .type "list" := by
    obtain ⟨ol, h1, h2, _⟩ := id hl
    exact ⟨ol, h1, h2⟩
  obtain ⟨ol, hol, hcl⟩ := ht
  have hT : Shared.TypeIs { s with heap := H0 } (.ref l) "list" := ⟨ol, hold l ol hol, hcl⟩
  have hl1 : H0.IsList l items := by
    obtain ⟨o1, h1, h2, h3⟩ := hl
    exact ⟨o1, hold l o1 h1, h2, h3⟩
  have k1 := PySem.F.sub_list_set
  have k2 := PySem.F.sub_list_frozenset
  have k3 : (Value.type "list" == Value.type "dict") = false := by decide
  have hH0l := hold l ol hol
  obtain ⟨ocls, odict, odata, oslots⟩ := ol
  simp only at hcl
  subst hcl
  unfold Builtin.«set.__init__» noKeywords Builtin.Frozenset.updateFrom
  generalize hPI : pyIter = PI
  wp_walk
  subst hPI
  refine wpAny_pyIter_list hl1 ?_
  refine wpAny_bind (wpAny_runValue ?_)
  have llt : l < s.heap.objs.size := Heap.lt_size hol
  have hne : l ≠ H0.objs.size := by rw [hz]; exact Nat.ne_of_lt (Nat.lt_succ_of_lt llt)
  have apart : s.heap.objs.size ∉ [H0.objs.size, l] := by
    rw [hz]
    simp
    exact Nat.ne_of_gt llt
  have hn : xs.length = items.size := by rw [← StrsAre.len_eq hi, Array.length_toList]
  refine fill_loop ((Walks.list (A := _) (by simp [hA, hh]) _ l hne items).toS) s.heap.objs.size apart xs hn (by rw [← hn]; exact hb) (fun i v q => ?_) (items.size - 0) 0 _ rfl (Nat.zero_le _) ⟨⟨_, Heap.get?_push_size _ rfl, rfl, rfl⟩, hl1.push _⟩ ?_ ?_
  · have q1 : items.toList[i]? = some v := by rw [Array.getElem?_toList]; exact q
    have lt : i < xs.length := by
      rw [hn]
      rcases Nat.lt_or_ge i items.size with z | z
      · exact z
      · rw [Array.getElem?_eq_none (by omega)] at q
        exact nomatch q
    obtain ⟨t, q2⟩ := SS.strs_at hi i v q1
    refine ⟨xs[i], t, List.getElem?_eq_getElem lt, ?_⟩
    rw [q2, List.getD_eq_getElem?_getD, List.getElem?_eq_getElem lt]
    rfl
  · exact f0.at fun o q => Heap.get?_push_of_some _ q
  · intro s' hm hs
    obtain ⟨h', g', d', tk', os'⟩ := s'
    have eg : g' = s.gens := hm.gens
    have ed : d' = s.drawn := hm.drawn
    have eo : os' = s.os := hm.os
    subst eg
    subst ed
    subst eo
    refine wpAny_pure ?_
    refine wpAny_pure (hK _ (h h' tk' hs fun b o q => ?_))
    have lt := Heap.lt_size q
    refine hm.heap b o ?_ (Heap.get?_push_of_some _ (hold b o q))
    simp only [List.mem_cons, List.not_mem_nil, or_false, not_or]
    exact ⟨Nat.ne_of_lt lt, by show b ≠ H0.objs.size; rw [hz]; exact Nat.ne_of_lt (Nat.lt_succ_of_lt lt)⟩
end
end TX
end
section
set_option maxRecDepth 100000
set_option maxHeartbeats 2000000
namespace TX
open PySem PySem.Spec PyProof.Rows L2
/-- a set of texts, as a tracked thing -/
def STO (w : World) (a : Addr) (l : List Str) : HO := .ext fun h => SetT w h a l
section
variable {X : Cx}
theorem sto_new {P : Program} {w : World} {H : Hp} {h : Heap} {a : Addr} {l : List Str} (R : SetT w h a l) : ObjOk P w H h a (STO w a l) := by
  have ⟨o, _, _, _, ho, _⟩ := R
  exact ⟨R, ⟨o, ho⟩, fun h1 h2 p k => SetT.at p k⟩
theorem sto_get {pins : List (Addr × Obj)} {σ : L2.St} {H : Hp} {s : Shared} {a : Addr} {l : List Str} (I : Inv X pins σ H s) (ha : H a = some (STO X.w a l)) : SetT X.w s.heap a l := (I.hok a _ ha).1
/-- set(x), x a text -/
def rSetTxt (w : World) : List V → Hp → VK → Prop := fun xs H Q => ∃ x : Str, xs = [.str x] ∧ x.length + 1 < scanBound ∧ ∀ p, H p = none → Q (.ref p) (upd H p (STO w p (allT (signs x))))
theorem cr_setTxt (hc : X.calm = true) : CallR X (.type "set") (rSetTxt X.w) := by
  intro pins s σ H xs us Q I r h
  obtain ⟨x, rfl, hb, q⟩ := h
  obtain ⟨u, rfl⟩ : ∃ u, us = [.str x u] := by
    cases r with
    | cons r t =>
      cases t
      obtain ⟨u, rfl⟩ := r
      exact ⟨u, rfl⟩
  refine set_text (I.ok.hd hc) hb fun h' tk hs k => ?_
  exact ⟨.ref _, upd H s.heap.objs.size (STO X.w s.heap.objs.size (allT (signs x))), I.laid (t' := tk) k (Nat.le_refl _) (sto_new hs), rfl, q _ (I.hok.fresh (Nat.le_refl _))⟩
/-- set(xs), xs a list of texts -/
def rSetLst (K : PySem.W.Frag) (w : World) : List V → Hp → VK → Prop := fun xs H Q => ∃ (a : Addr) (ys : List Str), xs = [.ref a] ∧ SqL K H a (ys.map V.str) ∧ ys.length + 1 < scanBound ∧ ∀ p, H p = none → Q (.ref p) (upd H p (STO w p (allT ys)))
theorem cr_setLst (hc : X.calm = true) : CallR X (.type "set") (rSetLst X.K X.w) := by
  intro pins s σ H xs us Q I r h
  obtain ⟨a, ys, rfl, hs, hb, q⟩ := h
  rw [Vals.ref1 r]
  obtain ⟨its, rv, hl, _⟩ := I.list hs
  refine set_list (I.ok.hd hc) hl.isList (by simpa using rv.strs) hb fun h' tk hs k => ?_
  exact ⟨.ref _, upd H s.heap.objs.size (STO X.w s.heap.objs.size (allT ys)), I.laid (t' := tk) k (Nat.le_refl _) (sto_new hs), rfl, q _ (I.hok.fresh (Nat.le_refl _))⟩
/-- len(s) -/
def rLenST (w : World) : List V → Hp → VK → Prop := fun xs H Q => ∃ (a : Addr) (l : List Str), xs = [.ref a] ∧ H a = some (STO w a l) ∧ Q (.int (l.length : Int)) H
theorem cr_lenST : CallR X (.builtin "len") (rLenST X.w) := by
  intro pins s σ H xs us Q I r h
  obtain ⟨a, l, rfl, ha, q⟩ := h
  rw [Vals.ref1 r]
  obtain ⟨o, es, ep, t, ho, hex, hd, g, pm, nd, hb, hf, hr, hl⟩ := sto_get I ha
  have hz : es.size = l.length := by rw [← pm.length_eq, List.length_map, Array.length_toList]
  have h4 : l.length < 4096 := by simpa [scanBound] using hb
  refine call_len_set ho hex hd hf (by rw [hz] <;> omega) ⟨.int (l.length : Int), H, I.tok _, ⟨_, by rw [hz]⟩, q⟩
/-- sorted(s) -/
def rSortST (w : World) : List V → Hp → VK → Prop := fun xs H Q => ∃ (a : Addr) (l : List Str), xs = [.ref a] ∧ H a = some (STO w a l) ∧ l.length < 64 ∧
  ∀ (ys : List Str) (p : Addr), ys.Perm l → sortedS ys = true → H p = none → Q (.ref p) (upd H p (.lst (ys.map V.str)))
theorem strs_of_good {w : World} {l : List (Int × Value)} (g : ∀ e ∈ l, Good w e) {vs : List Value} (pm : vs.Perm (l.map (·.2))) : StrsAre vs (vs.map strOf) :=
  strsAre_map vs fun v hv => by
    obtain ⟨e, he, q⟩ := List.mem_map.mp (pm.mem_iff.mp hv)
    obtain ⟨x, tk, h1, _⟩ := g e he
    exact ⟨x, tk, by rw [← q, h1]⟩
theorem cr_sortST (hc : X.calm = true) : CallR X (.builtin "sorted") (rSortST X.w) := by
  intro pins s σ H xs us Q I r h
  obtain ⟨a, l, rfl, ha, h64, q⟩ := h
  rw [Vals.ref1 r]
  obtain ⟨o, es, ep, t, ho, hex, hd, g, pm, nd, hb, hf, hr, hl⟩ := sto_get I ha
  have hz : es.size = l.length := by rw [← pm.length_eq, List.length_map, Array.length_toList]
  refine Calls.call_function_entry kind_sorted plain_sorted entry_sorted (args_sorted1 _) ?_
  unfold Builtin.«sorted»
  refine wpAny_bind (m := checkCount "sorted" 1 1 _) (wpAny_pure ?_)
  refine wpAny_bind (collect_set (A := X.A.in1) (I.ok.hd hc) ⟨o, ho, hex.1, hd⟩ hf (by rw [hz]; exact hb) hr hl fun s1 vs k1 z1 g1 o1 p1 => ?_)
  have hvl : vs.length = l.length := by rw [p1.length_eq, List.length_map, Array.length_toList]; exact hz
  have hS := strs_of_good g p1
  have pk : (vs.map strOf).Perm l := by
    refine (p1.map strOf).trans (List.Perm.trans (List.Perm.of_eq ?_) pm)
    rw [List.map_map]
    refine List.map_congr_left fun e he => ?_
    obtain ⟨x, tk, h1, _⟩ := g e he
    show strOf e.2 = txt e
    unfold txt
    rw [h1]
    rfl
  refine wpAny_bind (wpAny_newList ?_ (by rw [hvl]; exact small64 h64))
  have hoL : (s1.heap.push (seqObj "list" vs.toArray 0)).get? s1.heap.objs.size = some (seqObj "list" vs.toArray 0) := Heap.get?_push_size _ rfl
  refine wpAny_bind (wpAny_holding (wpAny_call_entry slot_list_sort ⟨_, hoL, rfl⟩ entry_list_sort
    (list_sort_treeK strKind_oneLt hoL hS.keysOf (fun v₁ v₂ rest e => keyKind_strs (by rw [← e]; exact hS)) (by rw [hvl]; exact h64) fun st' hp hs => ⟨_, rfl, ?_⟩) (args_list_sort _)))
  obtain ⟨ys, e1, e2, e3⟩ := sorted_out_str hS hp hs
  obtain ⟨c, hcl⟩ := sortedHeap_at (vs := vs) (out := (arrOf st').map (·.2)) hoL
  have kept : ∀ b u, s.heap.get? b = some u → (sortedHeap (s1.heap.push (seqObj "list" vs.toArray 0)) s1.heap.objs.size vs ((arrOf st').map (·.2))).get? b = some u := fun b u e => by
    have e' := k1 b u e
    have lt := Heap.lt_size e'
    rw [sortedHeap_old (Nat.ne_of_lt lt) (by rw [size_push']; exact Nat.lt_succ_of_lt lt)]
    exact Heap.get?_push_of_some _ e'
  have hlen : (ys.map V.str).length ≤ sizeLine := by rw [List.length_map, e2.length_eq, List.length_map, hvl]; exact small64 h64
  have hn : H s1.heap.objs.size = none := I.hok.fresh z1
  obtain ⟨hp1, gg1, dr1, tk1, os1⟩ := s1
  dsimp only at g1 o1
  subst g1
  subst o1
  have J : Inv X pins σ (upd H hp1.objs.size (.lst (ys.map V.str))) { s with heap := (sortedHeap (hp1.push (seqObj "list" vs.toArray 0)) hp1.objs.size vs ((arrOf st').map (·.2))), drawn := dr1, toks := tk1 } :=
    I.call (ch := []) (Un.laid kept z1 hn) (I.hok.laid kept z1 ⟨hlen, ((arrOf st').map (·.2)).toList, c, vals_of_strs e1, by rw [Array.toArray_toList]; exact hcl⟩) I.bare (fun _ z => nomatch z)
  exact wpAny_pure ⟨_, rfl, .ref hp1.objs.size, _, J, rfl, q ys _ (e2.trans pk) e3 hn⟩
end
end TX
end
section
/-! Names of rooms, in plain lists of letters (numbers). -/
namespace CW

/-- may the letter o not come behind these letters (the last one first)? -/
def bar (X : Nat → Nat → Bool) : List Nat → Nat → Bool
  | [], _ => false
  | k :: r, o => (o == k) || (X k o && (decide (o < k) || bar X r o))
/-- a name, told backwards -/
def nf (X : Nat → Nat → Bool) : List Nat → Bool
  | [] => true
  | k :: r => !bar X r k && nf X r
def isName (X : Nat → Nat → Bool) (l : List Nat) : Bool := nf X l.reverse

structure Crossing (X : Nat → Nat → Bool) : Prop where
  sym : ∀ a b, X a b = X b a
  irr : ∀ a, X a a = false
theorem Crossing.ne {X : Nat → Nat → Bool} (h : Crossing X) {a b : Nat} (e : X a b = true) : a ≠ b := by
  intro z
  rw [z, h.irr] at e
  exact Bool.noConfusion e

def rstripL (p : Nat → Bool) (l : List Nat) : List Nat := (l.reverse.dropWhile p).reverse
/-- the name behind a door, as it is reckoned: ac the letters that cross the kind, le the lesser ones of them -/
def behindL (ac le : List Nat) (name : List Nat) (k : Nat) : List Nat :=
  let stem := rstripL (fun c => ac.contains c) name
  let tail := name.drop stem.length
  if stem.getLast? = some k then stem.dropLast ++ tail
  else
    let late := tail.dropWhile (fun c => le.contains c)
    let early := tail.take (tail.length - late.length)
    stem ++ early ++ [k] ++ late
def acr (ks : List Nat) (X : Nat → Nat → Bool) (k : Nat) : List Nat := ks.filter (X k)
def les (ks : List Nat) (X : Nat → Nat → Bool) (k : Nat) : List Nat := (acr ks X k).filter (fun c => decide (c < k))
def beh (ks : List Nat) (X : Nat → Nat → Bool) (name : List Nat) (k : Nat) : List Nat := behindL (acr ks X k) (les ks X k) name k
def fol (ks : List Nat) (X : Nat → Nat → Bool) (name way : List Nat) : List Nat := way.foldl (beh ks X) name

theorem mem_acr {ks : List Nat} {X : Nat → Nat → Bool} {k c : Nat} : (acr ks X k).contains c = true ↔ c ∈ ks ∧ X k c = true := by
  unfold acr
  rw [List.contains_iff_mem, List.mem_filter]
theorem mem_les {ks : List Nat} {X : Nat → Nat → Bool} {k c : Nat} : (les ks X k).contains c = true ↔ c ∈ ks ∧ X k c = true ∧ c < k := by
  unfold les acr
  rw [List.contains_iff_mem, List.mem_filter, List.mem_filter, decide_eq_true_iff]
  exact and_assoc

theorem take_drop_while (p : Nat → Bool) (l : List Nat) : l.takeWhile p ++ l.dropWhile p = l := List.takeWhile_append_dropWhile
theorem take_all (p : Nat → Bool) : ∀ (l : List Nat) (x : Nat), x ∈ l.takeWhile p → p x = true
  | a :: l, x, h => by
    rw [List.takeWhile_cons] at h
    split at h
    · rename_i c
      rcases List.mem_cons.mp h with e | e
      · rw [e]; exact c
      · exact take_all p l x e
    · simp at h
theorem drop_head (p : Nat → Bool) : ∀ (l : List Nat) (a : Nat) (r : List Nat), l.dropWhile p = a :: r → p a = false
  | b :: l, a, r, h => by
    rw [List.dropWhile_cons] at h
    split at h
    · exact drop_head p l a r h
    · rename_i c
      have e := (List.cons.inj h).1
      rw [← e]
      simpa using c

/-- the name behind a door, in parts: the last letters, those ahead, both backwards -/
theorem beh_cases (ks : List Nat) (X : Nat → Nat → Bool) (name : List Nat) (k : Nat) :
    ∃ tl rest : List Nat, name.reverse = tl ++ rest ∧ (∀ c ∈ tl, c ∈ ks ∧ X k c = true) ∧ (∀ c r, rest = c :: r → ¬ (c ∈ ks ∧ X k c = true)) ∧
      ((∃ r, rest = k :: r ∧ beh ks X name k = (tl ++ r).reverse) ∨
       ((∀ r, rest ≠ k :: r) ∧ ∃ er lr : List Nat, tl = lr ++ er ∧ (∀ c ∈ er, c < k) ∧ (∀ f l, lr = l ++ [f] → ¬ f < k) ∧ beh ks X name k = (lr ++ k :: (er ++ rest)).reverse)) := by
  have e0 := take_drop_while (fun c => (acr ks X k).contains c) name.reverse
  have e1 : ∀ c ∈ name.reverse.takeWhile (fun c => (acr ks X k).contains c), (acr ks X k).contains c = true := fun c hc => take_all _ _ c hc
  have e2 : ∀ c r, name.reverse.dropWhile (fun c => (acr ks X k).contains c) = c :: r → (acr ks X k).contains c = false := fun c r q => drop_head _ _ c r q
  unfold beh behindL rstripL
  generalize name.reverse.takeWhile (fun c => (acr ks X k).contains c) = tl at e0 e1
  generalize name.reverse.dropWhile (fun c => (acr ks X k).contains c) = rest at e0 e2 ⊢
  have en : name = rest.reverse ++ tl.reverse := by
    have q := congrArg List.reverse e0
    rw [List.reverse_reverse, List.reverse_append] at q
    exact q.symm
  have ed : name.drop rest.reverse.length = tl.reverse := by
    rw [en, List.drop_left]
  dsimp only
  rw [ed]
  refine ⟨tl, rest, e0.symm, fun c hc => mem_acr.mp (e1 c hc), fun c r q z => ?_, ?_⟩
  · have := e2 c r q
    rw [mem_acr.mpr z] at this
    exact Bool.noConfusion this
  · rw [List.getLast?_reverse]
    cases rest with
    | nil =>
      right
      refine ⟨(by intro r q; cases q), ?_⟩
      rw [if_neg (by simp)]
      have t0 := take_drop_while (fun c => (les ks X k).contains c) tl.reverse
      have t1 : ∀ c ∈ tl.reverse.takeWhile (fun c => (les ks X k).contains c), c < k := fun c hc => (mem_les.mp (take_all _ _ c hc)).2.2
      have t2 : ∀ c r, tl.reverse.dropWhile (fun c => (les ks X k).contains c) = c :: r → (les ks X k).contains c = false := fun c r q => drop_head _ _ c r q
      generalize tl.reverse.takeWhile (fun c => (les ks X k).contains c) = ea at t0 t1
      generalize tl.reverse.dropWhile (fun c => (les ks X k).contains c) = la at t0 t2 ⊢
      have et : tl.reverse.take (tl.reverse.length - la.length) = ea := by
        rw [← t0, List.length_append, Nat.add_sub_cancel, List.take_left]
      rw [et]
      refine ⟨ea.reverse, la.reverse, ?_, fun c hc => t1 c (List.mem_reverse.mp hc), fun f l q => ?_, ?_⟩
      · have q := congrArg List.reverse t0
        rw [List.reverse_reverse, List.reverse_append] at q
        exact q.symm
      · have q2 := congrArg List.reverse q
        rw [List.reverse_reverse, List.reverse_append] at q2
        have q3 := t2 f l.reverse q2
        intro z
        have hf : f ∈ tl := by
          have : f ∈ tl.reverse := by rw [← t0, q2]; simp
          exact List.mem_reverse.mp this
        have := mem_acr.mp (e1 f hf)
        rw [mem_les.mpr ⟨this.1, this.2, z⟩] at q3
        exact Bool.noConfusion q3
      · simp
    | cons a r =>
      by_cases c : a = k
      · left
        refine ⟨r, by rw [c], ?_⟩
        rw [if_pos (by simp [c])]
        simp
      · right
        refine ⟨fun r' q => c (List.cons.inj q).1, ?_⟩
        rw [if_neg (by simpa using c)]
        have t0 := take_drop_while (fun c => (les ks X k).contains c) tl.reverse
        have t1 : ∀ c ∈ tl.reverse.takeWhile (fun c => (les ks X k).contains c), c < k := fun c hc => (mem_les.mp (take_all _ _ c hc)).2.2
        have t2 : ∀ c r, tl.reverse.dropWhile (fun c => (les ks X k).contains c) = c :: r → (les ks X k).contains c = false := fun c r q => drop_head _ _ c r q
        generalize tl.reverse.takeWhile (fun c => (les ks X k).contains c) = ea at t0 t1
        generalize tl.reverse.dropWhile (fun c => (les ks X k).contains c) = la at t0 t2 ⊢
        have et : tl.reverse.take (tl.reverse.length - la.length) = ea := by
          rw [← t0, List.length_append, Nat.add_sub_cancel, List.take_left]
        rw [et]
        refine ⟨ea.reverse, la.reverse, ?_, fun c hc => t1 c (List.mem_reverse.mp hc), fun f l q => ?_, ?_⟩
        · have q := congrArg List.reverse t0
          rw [List.reverse_reverse, List.reverse_append] at q
          exact q.symm
        · have q2 := congrArg List.reverse q
          rw [List.reverse_reverse, List.reverse_append] at q2
          have q3 := t2 f l.reverse q2
          intro z
          have hf : f ∈ tl := by
            have : f ∈ tl.reverse := by rw [← t0, q2]; simp
            exact List.mem_reverse.mp this
          have := mem_acr.mp (e1 f hf)
          rw [mem_les.mpr ⟨this.1, this.2, z⟩] at q3
          exact Bool.noConfusion q3
        · simp

theorem bar_cons_false {X : Nat → Nat → Bool} {k o : Nat} {r : List Nat} : bar X (k :: r) o = false ↔ o ≠ k ∧ (X k o = true → ¬ o < k ∧ bar X r o = false) := by
  show ((o == k) || (X k o && (decide (o < k) || bar X r o))) = false ↔ _
  cases hx : X k o <;> cases hb : bar X r o <;> simp <;> omega
theorem nf_cons {X : Nat → Nat → Bool} {k : Nat} {r : List Nat} : nf X (k :: r) = true ↔ bar X r k = false ∧ nf X r = true := by
  show (!bar X r k && nf X r) = true ↔ _
  cases bar X r k <;> simp
theorem nf_tail {X : Nat → Nat → Bool} : ∀ {l r : List Nat}, nf X (l ++ r) = true → nf X r = true
  | [], _, h => h
  | _ :: l, _, h => nf_tail (l := l) (nf_cons.mp h).2
theorem bar_out {X : Nat → Nat → Bool} {k x : Nat} {r : List Nat} (hx : X k x = true) : ∀ (l : List Nat), bar X (l ++ k :: r) x = false → bar X (l ++ r) x = false
  | [], h => ((bar_cons_false.mp h).2 hx).2
  | c :: l, h => by
    obtain ⟨h1, h2⟩ := bar_cons_false.mp h
    exact bar_cons_false.mpr ⟨h1, fun q => ⟨(h2 q).1, bar_out hx l (h2 q).2⟩⟩
theorem nf_out {X : Nat → Nat → Bool} {k : Nat} {r : List Nat} : ∀ (l : List Nat), (∀ c ∈ l, X k c = true) → nf X (l ++ k :: r) = true → nf X (l ++ r) = true
  | [], _, h => (nf_cons.mp h).2
  | c :: l, ha, h => by
    obtain ⟨h1, h2⟩ := nf_cons.mp h
    exact nf_cons.mpr ⟨bar_out (ha c List.mem_cons_self) l h1, nf_out l (fun d hd => ha d (List.mem_cons_of_mem _ hd)) h2⟩
theorem bar_in {X : Nat → Nat → Bool} {k x f : Nat} {u : List Nat} (hx : X k x = true) (hne : x ≠ k) (hf : k < f) : ∀ (l : List Nat), bar X (l ++ [f] ++ u) x = false → bar X (l ++ [f] ++ k :: u) x = false
  | [], h => by
    obtain ⟨h1, h2⟩ := bar_cons_false.mp (show bar X (f :: u) x = false from h)
    refine bar_cons_false.mpr ⟨h1, fun q => ⟨(h2 q).1, bar_cons_false.mpr ⟨hne, fun _ => ⟨?_, (h2 q).2⟩⟩⟩⟩
    have := (h2 q).1
    omega
  | c :: l, h => by
    obtain ⟨h1, h2⟩ := bar_cons_false.mp h
    exact bar_cons_false.mpr ⟨h1, fun q => ⟨(h2 q).1, bar_in hx hne hf l (h2 q).2⟩⟩
theorem bar_low {X : Nat → Nat → Bool} (hX : Crossing X) {k : Nat} {rest : List Nat} (h1 : ∀ c r, rest = c :: r → X k c = false ∧ c ≠ k) : ∀ er : List Nat, (∀ c ∈ er, c < k ∧ X k c = true) → bar X (er ++ rest) k = false
  | [], _ => by
    cases rest with
    | nil => rfl
    | cons c r =>
      obtain ⟨a, b⟩ := h1 c r rfl
      refine bar_cons_false.mpr ⟨fun z => b z.symm, fun q => ?_⟩
      rw [hX.sym, a] at q
      exact Bool.noConfusion q
  | c :: er, h => by
    obtain ⟨a, b⟩ := h c List.mem_cons_self
    exact bar_cons_false.mpr ⟨by omega, fun _ => ⟨by omega, bar_low hX h1 er fun d hd => h d (List.mem_cons_of_mem _ hd)⟩⟩
theorem nf_in {X : Nat → Nat → Bool} (hX : Crossing X) {k : Nat} {u : List Nat} (hu : bar X u k = false) : ∀ (l : List Nat), (∀ c ∈ l, X k c = true) → (∀ f m, l = m ++ [f] → ¬ f < k) → nf X (l ++ u) = true → nf X (l ++ k :: u) = true
  | [], _, _, h => nf_cons.mpr ⟨hu, h⟩
  | c :: l, ha, hb, h => by
    obtain ⟨h1, h2⟩ := nf_cons.mp h
    have hc := ha c List.mem_cons_self
    have hne : c ≠ k := (hX.ne hc).symm
    refine nf_cons.mpr ⟨?_, nf_in hX hu l (fun d hd => ha d (List.mem_cons_of_mem _ hd)) (fun f m e => hb f (c :: m) (by rw [e]; rfl)) h2⟩
    cases hl : l.reverse with
    | nil =>
      have e : l = [] := by simpa using hl
      subst e
      have z := hb c [] rfl
      exact bar_cons_false.mpr ⟨hne, fun _ => ⟨z, h1⟩⟩
    | cons f m =>
      have e : l = m.reverse ++ [f] := by
        have q := congrArg List.reverse hl
        rw [List.reverse_reverse] at q
        simpa using q
      have z := hb f (c :: m.reverse) (by rw [e]; rfl)
      have hf : X k f = true := ha f (by rw [e]; simp)
      have hfk := hX.ne hf
      subst e
      exact bar_in hc hne (by omega) _ h1

/-- behind a door a name leads to a name -/
theorem beh_name {ks : List Nat} {X : Nat → Nat → Bool} (hX : Crossing X) {name : List Nat} {k : Nat} (hk : ∀ c ∈ name, c ∈ ks) (h : isName X name = true) : isName X (beh ks X name k) = true := by
  obtain ⟨tl, rest, e, h1, h2, h3⟩ := beh_cases ks X name k
  unfold isName at h ⊢
  rw [e] at h
  have hin : ∀ c ∈ tl ++ rest, c ∈ ks := fun c hc => hk c (List.mem_reverse.mp (by rw [e]; exact hc))
  rcases h3 with ⟨r, er, q⟩ | ⟨h4, er, lr, et, h5, h6, q⟩
  · rw [q, List.reverse_reverse]
    rw [er] at h
    exact nf_out tl (fun c hc => (h1 c hc).2) h
  · rw [q, List.reverse_reverse]
    rw [et, List.append_assoc] at h
    refine nf_in hX (bar_low hX (fun c r w => ?_) er fun c hc => ⟨h5 c hc, (h1 c (by rw [et]; exact List.mem_append_right _ hc)).2⟩) lr (fun c hc => (h1 c (by rw [et]; exact List.mem_append_left _ hc)).2) h6 h
    have hc : c ∈ ks := hin c (by rw [w]; simp)
    refine ⟨?_, fun z => h4 r (by rw [w, z])⟩
    cases hx : X k c with
    | false => rfl
    | true => exact absurd ⟨hc, hx⟩ (h2 c r w)
theorem beh_letters {ks : List Nat} {X : Nat → Nat → Bool} {name : List Nat} {k : Nat} (hk : ∀ c ∈ name, c ∈ ks) (hkk : k ∈ ks) : ∀ c ∈ beh ks X name k, c ∈ ks := by
  obtain ⟨tl, rest, e, h1, h2, h3⟩ := beh_cases ks X name k
  have hin : ∀ c ∈ tl ++ rest, c ∈ ks := fun c hc => hk c (List.mem_reverse.mp (by rw [e]; exact hc))
  rcases h3 with ⟨r, er, q⟩ | ⟨h4, er, lr, et, h5, h6, q⟩
  · intro c hc
    rw [q, List.mem_reverse] at hc
    refine hin c ?_
    rw [er]
    rcases List.mem_append.mp hc with z | z
    · exact List.mem_append_left _ z
    · exact List.mem_append_right _ (List.mem_cons_of_mem _ z)
  · intro c hc
    rw [q, List.mem_reverse] at hc
    rw [et] at hin
    rcases List.mem_append.mp hc with z | z
    · exact hin c (by simp [z])
    · rcases List.mem_cons.mp z with z | z
      · rw [z]; exact hkk
      · refine hin c ?_
        rcases List.mem_append.mp z with z | z <;> simp [z]
theorem beh_length (ks : List Nat) (X : Nat → Nat → Bool) (name : List Nat) (k : Nat) : (beh ks X name k).length ≤ name.length + 1 := by
  obtain ⟨tl, rest, e, h1, h2, h3⟩ := beh_cases ks X name k
  have el := congrArg List.length e
  rw [List.length_reverse, List.length_append] at el
  rcases h3 with ⟨r, er, q⟩ | ⟨h4, er, lr, et, h5, h6, q⟩
  · rw [q, List.length_reverse, List.length_append]
    rw [er, List.length_cons] at el
    omega
  · rw [q, List.length_reverse]
    rw [et] at el
    simp only [List.length_append, List.length_cons] at el ⊢
    omega
theorem fol_snoc (ks : List Nat) (X : Nat → Nat → Bool) (name way : List Nat) (k : Nat) : fol ks X name (way ++ [k]) = beh ks X (fol ks X name way) k := by
  unfold fol
  rw [List.foldl_append]
  rfl
theorem fol_name {ks : List Nat} {X : Nat → Nat → Bool} (hX : Crossing X) : ∀ (way name : List Nat), (∀ c ∈ name, c ∈ ks) → (∀ c ∈ way, c ∈ ks) → isName X name = true →
    isName X (fol ks X name way) = true ∧ ∀ c ∈ fol ks X name way, c ∈ ks
  | [], name, h1, _, h => ⟨h, h1⟩
  | k :: way, name, h1, h2, h =>
    fol_name hX way (beh ks X name k) (beh_letters h1 (h2 k List.mem_cons_self)) (fun c hc => h2 c (List.mem_cons_of_mem _ hc)) (beh_name hX h1 h)
theorem fol_length (ks : List Nat) (X : Nat → Nat → Bool) : ∀ (way name : List Nat), (fol ks X name way).length ≤ name.length + way.length
  | [], _ => Nat.le_refl _
  | k :: way, name => by
    have h1 := fol_length ks X way (beh ks X name k)
    have h2 := beh_length ks X name k
    show (fol ks X (beh ks X name k) way).length ≤ _
    rw [List.length_cons]
    omega
theorem isName_nil (X : Nat → Nat → Bool) : isName X [] = true := rfl
/-- letter by letter -/
theorem isName_snoc (X : Nat → Nat → Bool) (l : List Nat) (k : Nat) : isName X (l ++ [k]) = (!bar X l.reverse k && isName X l) := by
  unfold isName
  rw [List.reverse_append]
  rfl
theorem isName_take {X : Nat → Nat → Bool} {l : List Nat} {i : Nat} (h : isName X l = true) : isName X (l.take i) = true := by
  unfold isName at h ⊢
  have e : l.reverse = (l.drop i).reverse ++ (l.take i).reverse := by
    rw [← List.reverse_append, List.take_append_drop]
  rw [e] at h
  exact nf_tail h
end CW
end
section
set_option maxRecDepth 100000
set_option maxHeartbeats 2000000
/-! Texts as lists of letters: the methods that the program uses. -/
namespace TX
open PySem PySem.Spec PyProof.Rows L2 SX PySem.Builtin.Str
theorem S_has (b : List Nat) : (S b).cps.contains = fun c => b.contains c := by
  funext c
  show b.toArray.contains c = b.contains c
  rw [Bool.eq_iff_iff]
  simp
theorem S_lstrip (a b : List Nat) : Txt.lstripChars (S a) (S b) = S (a.dropWhile (fun c => b.contains c)) := by
  show Txt.stripBy (S b).cps.contains true false (S a) = _
  rw [S_has]
  rw [stripBy_eq]
  refine TL.ext_tl ?_
  show (strSub (S a) _ _).cps.toList = (a.dropWhile (fun c => b.contains c)).toArray.toList
  rw [StrLaws.strSub_toList]
  have e1 : stripLo (fun c => b.contains c) true (S a) = (a.takeWhile (fun c => b.contains c)).length := by
    show ((S a).cps.toList.takeWhile _).length = _
    simp
  have e2 : stripHi (fun c => b.contains c) false (S a) (stripLo (fun c => b.contains c) true (S a)) = a.length := S_len a
  rw [e2, e1]
  have h := CW.take_drop_while (fun c => b.contains c) a
  show (a.drop _).take _ = a.dropWhile (fun c => b.contains c)
  have e3 : a.drop (a.takeWhile (fun c => b.contains c)).length = a.dropWhile (fun c => b.contains c) := by
    conv => lhs; arg 2; rw [← h]
    rw [List.drop_left]
  rw [e3]
  refine List.take_of_length_le ?_
  have := congrArg List.length h
  rw [List.length_append] at this
  omega
theorem S_rstrip (a b : List Nat) : Txt.rstripChars (S a) (S b) = S (CW.rstripL (fun c => b.contains c) a) := by
  show Txt.stripBy (S b).cps.contains false true (S a) = _
  rw [S_has]
  rw [stripBy_eq]
  refine TL.ext_tl ?_
  show (strSub (S a) _ _).cps.toList = (CW.rstripL (fun c => b.contains c) a).toArray.toList
  rw [StrLaws.strSub_toList]
  have e1 : stripHi (fun c => b.contains c) true (S a) (stripLo (fun c => b.contains c) false (S a)) = a.length - (a.reverse.takeWhile (fun c => b.contains c)).length := by
    show (S a).length - (((S a).cps.toList.drop 0).reverse.takeWhile _).length = _
    rw [S_len]
    simp
  rw [e1]
  show (a.drop 0).take (_ - 0) = (a.reverse.dropWhile (fun c => b.contains c)).reverse
  rw [List.drop_zero, Nat.sub_zero]
  have h := CW.take_drop_while (fun c => b.contains c) a.reverse
  have h2 := congrArg List.reverse h
  rw [List.reverse_append, List.reverse_reverse] at h2
  have h3 := congrArg List.length h2
  rw [List.length_append, List.length_reverse, List.length_reverse] at h3
  have e4 : a.length - (a.reverse.takeWhile (fun c => b.contains c)).length = (a.reverse.dropWhile (fun c => b.contains c)).reverse.length := by
    rw [List.length_reverse]
    omega
  rw [e4]
  conv => lhs; arg 2; rw [← h2]
  rw [List.take_left]
theorem S_ends (a : List Nat) (c : Nat) : Txt.endswith (S a) (S [c]) = decide (a.getLast? = some c) := by
  show (decide (0 + (S [c]).length ≤ (S a).length) && subAt (S a) (S [c]) ((S a).length - (S [c]).length)) = _
  rw [StrLaws.subAt_eq, S_len, S_len]
  show (decide (0 + 1 ≤ a.length) && ((a.drop (a.length - 1)).take 1 == [c])) = _
  rcases List.eq_nil_or_concat a with e | ⟨l, d, e⟩
  · subst e
    simp
  · subst e
    rw [List.concat_eq_append, Bool.eq_iff_iff]
    simp
theorem S_cutFrom (a : List Nat) (k : Nat) : cutS (S a) (some (k : Int)) none = S (a.drop k) := by
  unfold cutS
  refine TL.ext_tl ?_
  show (((S a).cps.toList.drop (HT.sIx (S a).length 0 (some (k : Int)))).take ((S a).length - HT.sIx (S a).length 0 (some (k : Int)))).toArray.toList = _
  rw [HT.sIx_nat, S_len]
  show (a.drop (min k a.length)).take (a.length - min k a.length) = a.drop k
  rcases Nat.le_total k a.length with h | h
  · rw [Nat.min_eq_left h]
    exact List.take_of_length_le (by rw [List.length_drop] <;> omega)
  · rw [Nat.min_eq_right h, List.drop_eq_nil_of_le h]
    simp
theorem S_cutTo (a : List Nat) (k : Nat) : cutS (S a) none (some (k : Int)) = S (a.take k) := by
  unfold cutS
  refine TL.ext_tl ?_
  show (((S a).cps.toList.drop 0).take (HT.sIx (S a).length (S a).length (some (k : Int)) - 0)).toArray.toList = _
  rw [HT.sIx_nat, S_len, List.drop_zero, Nat.sub_zero]
  show a.take (min k a.length) = a.take k
  rcases Nat.le_total k a.length with h | h
  · rw [Nat.min_eq_left h]
  · rw [Nat.min_eq_right h, List.take_of_length_le (Nat.le_refl _), List.take_of_length_le h]
theorem S_cutMid (a : List Nat) (i j : Nat) : cutS (S a) (some (i : Int)) (some (j : Int)) = S ((a.drop i).take (j - i)) := by
  unfold cutS
  refine TL.ext_tl ?_
  show (((S a).cps.toList.drop (HT.sIx (S a).length 0 (some (i : Int)))).take (HT.sIx (S a).length (S a).length (some (j : Int)) - HT.sIx (S a).length 0 (some (i : Int)))).toArray.toList = _
  rw [HT.sIx_nat, HT.sIx_nat, S_len]
  show (a.drop (min i a.length)).take (min j a.length - min i a.length) = (a.drop i).take (j - i)
  rcases Nat.le_total i a.length with h | h
  · rw [Nat.min_eq_left h]
    rcases Nat.le_total j a.length with g | g
    · rw [Nat.min_eq_left g]
    · rw [Nat.min_eq_right g, List.take_of_length_le (by rw [List.length_drop] <;> omega), List.take_of_length_le (by rw [List.length_drop] <;> omega)]
  · rw [Nat.min_eq_right h, List.drop_eq_nil_of_le h, List.drop_eq_nil_of_le (Nat.le_refl _)]
    simp
theorem S_butLast (a : List Nat) : cutS (S a) none (some (-1)) = S a.dropLast := by
  unfold cutS
  refine TL.ext_tl ?_
  show (((S a).cps.toList.drop 0).take (HT.sIx (S a).length (S a).length (some (-1)) - 0)).toArray.toList = _
  have e : HT.sIx (S a).length (S a).length (some (-1)) = a.length - 1 := by
    rw [S_len]
    show (if (-1 : Int) < 0 then ((-1 : Int) + (a.length : Int)).toNat else min (-1 : Int).toNat a.length) = _
    rw [if_pos (by decide)]
    omega
  rw [e, List.drop_zero, Nat.sub_zero, List.dropLast_eq_take]
theorem joinL_nil : ∀ ys : List (List Nat), TL.joinL [] ys = ys.flatten
  | [] => rfl
  | [a] => by
    show a = [a].flatten
    simp
  | a :: b :: r => by
    have ih := joinL_nil (b :: r)
    show a ++ ([] ++ TL.joinL [] (b :: r)) = _
    rw [ih]
    simp
theorem S_join (ys : List (List Nat)) : Txt.join (S []) (ys.map S) = S ys.flatten := by
  rw [join_S, joinL_nil]
theorem S_join1 (l : List Nat) : Txt.join (S []) (l.map fun c => S [c]) = S l := by
  have h := S_join (l.map fun c => [c])
  rw [List.map_map] at h
  have e : (l.map fun c => [c]).flatten = l := by
    clear h
    induction l with
    | nil => rfl
    | cons a l ih => rw [List.map_cons, List.flatten_cons, ih]; rfl
  rw [e] at h
  exact h
section
variable {X : Cx}
theorem foldl_rep (a : Array Nat) : ∀ (n : Nat) (acc : Array Nat), (List.replicate n a).foldl (· ++ ·) acc = (acc.toList ++ (List.replicate n a.toList).flatten).toArray
  | 0, acc => by simp
  | n + 1, acc => by
    rw [List.replicate_succ, List.foldl_cons, foldl_rep a n (acc ++ a), List.replicate_succ, List.flatten_cons, Array.toList_append, List.append_assoc]
/-- a text times a number -/
theorem op_rep_str : OpR X (binaryOp .Mult) (fun x y H Q => ∃ (z : List Nat) (n : Nat), x = .str (S z) ∧ y = .int (n : Int) ∧ z.length ≤ 100000 ∧ n ≤ 100000 ∧ z.length * n ≤ 1000000 ∧ Q (.str (S (List.replicate n z).flatten)) H) := by
  intro pins s σ H x y v u Q I rx ry h
  obtain ⟨z, n, rfl, rfl, hz, hn, hzn, q⟩ := h
  obtain ⟨t, rfl⟩ := rx
  obtain ⟨t', rfl⟩ := ry
  refine PySem.P.mul_str ?_ (fun h1 h2 => ?_) (fun h1 h2 => ?_) ?_
  · have a1 : ¬ ((n : Int) < -(2 ^ 63 : Int)) := by omega
    have a2 : ¬ ((n : Int) ≥ 2 ^ 63) := by omega
    rw [decide_eq_false a1, decide_eq_false a2]
    rfl
  · rw [S_len]
    have a3 : (1 : Int) ≤ n := by omega
    have a4 : (2 ^ 63 - 1 : Int) / n ≥ 100000 := by
      refine (Int.le_ediv_iff_mul_le (by omega)).mpr ?_
      have a5 : (100000 : Int) * n ≤ 100000 * 100000 := by omega
      omega
    omega
  · rw [S_len, Int.toNat_natCast]
    show decide (z.length * n > 2 ^ 24) = false
    exact decide_eq_false (by omega)
  · have fin : ∀ (w : Value) (s' : Shared), Inv X pins σ H s' → (∃ t, w = Value.str (S (List.replicate n z).flatten) t) → EP X pins σ Q w s' := fun w s' I' e => ⟨.str _, H, I', e, q⟩
    have small : ((S (List.replicate n z).flatten) : Str).length ≤ sizeLine := by
      rw [S_len, sizeLine_eq]
      simp only [List.length_flatten, List.map_replicate, List.sum_replicate_nat]
      rw [Nat.mul_comm]
      omega
    by_cases c : (n : Int) < 1
    · rw [if_pos c]
      have e : n = 0 := by omega
      subst e
      exact ⟨by decide, fin _ _ (I.tok _) ⟨_, rfl⟩⟩
    · rw [if_neg c]
      by_cases d : ((n : Int) == 1 || (S z).length == 0) = true
      · rw [if_pos d]
        have e : (S (List.replicate n z).flatten : Str) = S z := by
          rw [Bool.or_eq_true] at d
          rcases d with d | d
          · have e1 : n = 1 := by
              have := eq_of_beq d
              omega
            subst e1
            simp
          · have e1 : z = [] := by
              have := eq_of_beq d
              rw [S_len] at this
              exact List.length_eq_zero_iff.mp this
            subst e1
            simp
        refine fin _ _ I ⟨t, by rw [e]⟩
      · rw [if_neg d]
        have e : (⟨(List.replicate (n : Int).toNat (S z).cps).foldl (· ++ ·) #[]⟩ : Str) = S (List.replicate n z).flatten := by
          rw [Int.toNat_natCast, foldl_rep]
          simp
        refine ⟨by rw [e]; exact small, ?_⟩
        rw [e]
        exact fin _ _ (I.tok _) ⟨_, rfl⟩
end
end TX
end
section
set_option maxRecDepth 100000
set_option maxHeartbeats 2000000
/-! What plans and rooms are in memory. -/
namespace TX
open PySem PySem.Spec PyProof.Rows L2 SX CW
theorem len_line {n : Nat} (h : n ≤ 1000000) : n ≤ sizeLine := by
  rw [sizeLine_eq]
  omega
theorem len_lt {n : Nat} (h : n ≤ 1000000) : n < sizeLine := by
  rw [sizeLine_eq]
  omega
/-- a dict from letters to texts -/
def kvK (ks : List Nat) (f : Nat → List Nat) : List (Key × V) := ks.map fun k => (Sum.inr (S [k]), V.str (S (f k)))
theorem sk_inj {a b : Nat} (h : (Sum.inr (S [a]) : Key) = Sum.inr (S [b])) : a = b := by
  have h1 := Sum.inr.inj h
  have h2 := S_inj h1
  exact (List.cons.inj h2).1
theorem valV_kv {f : Nat → List Nat} {k : Nat} : ∀ {ks : List Nat}, k ∈ ks → valV (kvK ks f) (Sum.inr (S [k])) = some (.str (S (f k)))
  | [], h => nomatch h
  | a :: ks, h => by
    unfold valV kvK
    rw [List.map_cons, List.find?_cons]
    by_cases c : a = k
    · subst c
      simp
    · have e : decide ((Sum.inr (S [a]) : Key) = Sum.inr (S [k])) = false := decide_eq_false fun z => c (sk_inj z)
      rw [e]
      have h' : k ∈ ks := by
        rcases List.mem_cons.mp h with z | z
        · exact absurd z.symm c
        · exact z
      exact valV_kv h'
/-- the crossing pairs, ascending -/
def prs (ks : List Nat) (X : Nat → Nat → Bool) : List Str := ks.flatMap fun a => (ks.filter fun b => decide (a < b) && X a b).map fun b => S [a, b]
/-- a dict stands at d, under a lock or not -/
def DkAt (H : Hp) (d : Addr) (kvs : List (Key × V)) : Prop := H d = some (.dK kvs) ∨ ∃ od, H d = some (.frz od (.dK kvs))
theorem DkAt.keep {H H' : Hp} {d : Addr} {kvs : List (Key × V)} (h : DkAt H d kvs) (k : ∀ o, H d = some o → H' d = some o) : DkAt H' d kvs := h.elim (fun e => .inl (k _ e)) fun ⟨od, e⟩ => .inr ⟨od, k _ e⟩
theorem DkAt.get {H : Hp} {d : Addr} {ks : List Nat} {f : Nat → List Nat} {k : Nat} (h : DkAt H d (kvK ks f)) (hk : k ∈ ks) : DGet H d (.str (S [k])) (some (.str (S (f k)))) := .inl ⟨kvK ks f, Sum.inr (S [k]), h, rfl, (valV_kv hk).symm⟩
theorem DkAt.ne {H : Hp} {d r : Addr} {kvs : List (Key × V)} {o : HO} (h : DkAt H d kvs) (hr : H r = some o) (n1 : ∀ kvs, o ≠ .dK kvs) (n2 : ∀ od kvs, o ≠ .frz od (.dK kvs)) : d ≠ r := fun z => by
  rcases h with e | ⟨od, e⟩
  · rw [z, hr] at e
    exact n1 _ (Option.some.inj e)
  · rw [z, hr] at e
    exact n2 _ _ (Option.some.inj e)
theorem DkAt.same_ {H : Hp} {d : Addr} {kvs kvs' : List (Key × V)} (h : DkAt H d kvs) (h' : DkAt H d kvs') : kvs = kvs' := by
  rcases h with e | ⟨od, e⟩ <;> rcases h' with e' | ⟨od', e'⟩ <;> rw [e] at e'
  · exact HO.dK.inj (Option.some.inj e')
  · cases Option.some.inj e'
  · cases Option.some.inj e'
  · exact HO.dK.inj (HO.frz.inj (Option.some.inj e')).2
def pflds (ks : List Nat) (tp da dl : Addr) : List (Str × V) := [("kinds", .str (S ks)), ("pairs", .ref tp), ("across", .ref da), ("lesser", .ref dl)]
structure PlanAt (C : Addr) (H : Hp) (p : Addr) (ks : List Nat) (X : Nat → Nat → Bool) : Prop where
  few : ks.length ≤ 26
  up : ks.Pairwise (· < ·)
  cr : Crossing X
  abc : ∀ k ∈ ks, 97 ≤ k ∧ k ≤ 122
  ex : ∃ dx tp da dl, H p = some (.ins C dx (pflds ks tp da dl)) ∧ H tp = some (.tup ((prs ks X).map V.str)) ∧ DkAt H da (kvK ks (acr ks X)) ∧ DkAt H dl (kvK ks (les ks X))
theorem PlanAt.same {C : Addr} {H H' : Hp} {p : Addr} {ks : List Nat} {X : Nat → Nat → Bool} (h : PlanAt C H p ks X) (k : ∀ b o, H b = some o → H' b = some o) : PlanAt C H' p ks X := by
  obtain ⟨dx, tp, da, dl, h1, h2, h3, h4⟩ := h.ex
  exact ⟨h.few, h.up, h.cr, h.abc, dx, tp, da, dl, k _ _ h1, k _ _ h2, h3.keep (k _), h4.keep (k _)⟩
/-- a lock is put on a dict, or taken off -/
theorem PlanAt.swap {C : Addr} {H H' : Hp} {p t : Addr} {ks : List Nat} {X : Nat → Nat → Bool} {kvs : List (Key × V)} (h : PlanAt C H p ks X) (ht : DkAt H t kvs) (ht' : DkAt H' t kvs) (k : ∀ b o, b ≠ t → H b = some o → H' b = some o) : PlanAt C H' p ks X := by
  obtain ⟨dx, tp, da, dl, h1, h2, h3, h4⟩ := h.ex
  have dk : ∀ (d : Addr) (kv : List (Key × V)), DkAt H d kv → DkAt H' d kv := fun d kv hd => by
    by_cases z : d = t
    · subst z
      rw [hd.same_ ht]
      exact ht'
    · exact hd.keep (k d · z)
  exact ⟨h.few, h.up, h.cr, h.abc, dx, tp, da, dl, k _ _ (ht.ne h1 (fun _ z => by cases z) (fun _ _ z => by cases z)).symm h1, k _ _ (ht.ne h2 (fun _ z => by cases z) (fun _ _ z => by cases z)).symm h2, dk _ _ h3, dk _ _ h4⟩
structure PlanT (K : PySem.W.Frag) (C : Addr) : Prop where
  cl : Cls K C
  nk : NoAttr K C "kinds"
  np : NoAttr K C "pairs"
  na : NoAttr K C "across"
  nl : NoAttr K C "lesser"
theorem pf_kinds (ks : List Nat) (tp da dl : Addr) : (pflds ks tp da dl).lookup ("kinds" : Str) = some (.str (S ks)) := by
  unfold pflds
  rw [List.lookup_cons, show (("kinds" : Str) == ("kinds" : Str)) = true from by decide +kernel]
theorem pf_pairs (ks : List Nat) (tp da dl : Addr) : (pflds ks tp da dl).lookup ("pairs" : Str) = some (.ref tp) := by
  unfold pflds
  rw [List.lookup_cons, show (("pairs" : Str) == ("kinds" : Str)) = false from by decide +kernel]
  dsimp only
  rw [List.lookup_cons, show (("pairs" : Str) == ("pairs" : Str)) = true from by decide +kernel]
theorem pf_across (ks : List Nat) (tp da dl : Addr) : (pflds ks tp da dl).lookup ("across" : Str) = some (.ref da) := by
  unfold pflds
  rw [List.lookup_cons, show (("across" : Str) == ("kinds" : Str)) = false from by decide +kernel]
  dsimp only
  rw [List.lookup_cons, show (("across" : Str) == ("pairs" : Str)) = false from by decide +kernel]
  dsimp only
  rw [List.lookup_cons, show (("across" : Str) == ("across" : Str)) = true from by decide +kernel]
theorem pf_lesser (ks : List Nat) (tp da dl : Addr) : (pflds ks tp da dl).lookup ("lesser" : Str) = some (.ref dl) := by
  unfold pflds
  rw [List.lookup_cons, show (("lesser" : Str) == ("kinds" : Str)) = false from by decide +kernel]
  dsimp only
  rw [List.lookup_cons, show (("lesser" : Str) == ("pairs" : Str)) = false from by decide +kernel]
  dsimp only
  rw [List.lookup_cons, show (("lesser" : Str) == ("across" : Str)) = false from by decide +kernel]
  dsimp only
  rw [List.lookup_cons, show (("lesser" : Str) == ("lesser" : Str)) = true from by decide +kernel]
def rflds (p : Addr) (n : List Nat) : List (Str × V) := [("plan", .ref p), ("name", .str (S n))]
structure RoomT (K : PySem.W.Frag) (C : Addr) : Prop where
  cl : Cls K C
  np : NoAttr K C "plan"
  nn : NoAttr K C "name"
/-- a def of the module, under its name -/
structure D (K : PySem.W.Frag) (mg : Str → Option Value) (x : Str) (st : Stmt) (dv : List V) : Prop where
  ex : ∃ (f : Addr) (fd : FuncData), FunD K x x (defArgs st) (defBody st) (defScope st) dv [] f fd ∧ mg x = some (.ref f)
/-- a method -/
structure M (K : PySem.W.Frag) (C : Addr) (m qual : Str) (st : Stmt) (dv : List V) : Prop where
  ex : ∃ (f : Addr) (fd : FuncData), FunD K m qual (defArgs st) (defBody st) (defScope st) dv [] f fd ∧ Meth K C m f
section
variable {P : Program} {w : World} {K : PySem.W.Frag} {mg : Str → Option Value} {base : Heap}
/-- a def without defaults that lets nothing out, by its body -/
theorem D.cal {x : Str} {st : Stmt} {N ps : List Str} {k : Nat} {sp : Sp} (F : D K mg x st []) (Sc : FnScope N ps (defScope st))
    (hb : ∀ (f : Addr) (fd : FuncData), FunD K x x (defArgs st) (defBody st) (defScope st) [] [] f fd → Binds K fd ps []) (len : ∀ vs H Q E, sp vs H Q E → vs.length = ps.length)
    (hbody : ∀ (f : Addr) (cdv : Value) (A : Around) (outer : List Env) (s : Shared) (H : Hp) (vs : List V) (Q : VK) (E : XK), Room k (A.deeper (envOfC x (defScope st) s.heap.objs.size f cdv)) → sp vs H Q E →
      ∃ t, PSs (cxOf C8.CX0 P w K mg base N x (defScope st) f cdv A outer s H E).nox (defBody st) t ∧ t { nx := fun _ H' => Q .non H', rt := Q } (start N vs) H) : C8.Cal P w K mg base (k + 1) x sp [] := by
  obtain ⟨f, fd, F, g⟩ := F.ex
  refine ⟨f, fd, ps, [], F.ok Sc len fun cdv A outer s H vs Q E hr h => ?_, g, F.kp, hb f fd F, .nil⟩
  obtain ⟨t, h1, h2⟩ := hbody f cdv A outer s H vs Q E hr h
  exact ⟨t, PSs.nox h1, h2⟩
end
end TX
end
section
namespace TX
open PySem
/-! The places of the text. -/
def top (i : Nat) : Stmt := PySem.Challenge.pw_crosswalls_k02_plans_refused.main.body.getD i (.Pass ⟨0, 0, 0, 0⟩)
abbrev s_wall : Stmt := top 0
abbrev s_InvalidPlan_init : Stmt := L2.inClass (top 3) 0
abbrev s_InvalidKind_init : Stmt := L2.inClass (top 4) 0
abbrev s_SameKind_init : Stmt := L2.inClass (top 5) 0
abbrev s_TooMany_init : Stmt := L2.inClass (top 6) 0
abbrev s_check_kind : Stmt := top 8
abbrev s_Plan_init : Stmt := L2.inClass (top 12) 0
abbrev s_Plan_eq : Stmt := L2.inClass (top 12) 1
abbrev s_Plan_crosses : Stmt := L2.inClass (top 12) 2
abbrev s_Plan_add : Stmt := L2.inClass (top 12) 3
abbrev s_Plan_mul : Stmt := L2.inClass (top 12) 4
abbrev s_Plan_ring : Stmt := L2.inClass (top 12) 5
abbrev s_are_letters : Stmt := top 13
abbrev s_is_pair : Stmt := top 14
abbrev s_upright : Stmt := top 15
abbrev s_kinds_across : Stmt := top 16
abbrev s_kinds_before : Stmt := top 17
abbrev s_check_no_common_kind : Stmt := top 18
abbrev s_law_pen : Stmt := top 20
abbrev s_law_draw : Stmt := top 21
abbrev s_law_pick : Stmt := top 22
abbrev s_law_plan : Stmt := top 23
abbrev s_law_way : Stmt := top 24
abbrev s_law_told : Stmt := top 25
abbrev s_law_like : Stmt := top 26
abbrev s_law_put_together : Stmt := top 27
abbrev s_law : Stmt := top 28
end TX
end
section
set_option maxRecDepth 100000
set_option maxHeartbeats 2000000
/-! crosswalls.names: behind, followed, barred_after. -/
namespace TX
open PySem PySem.Spec PyProof.Rows L2 SX CW
/-- behind(plan, name, kind) -/
def spBehind (C : Addr) : Sp := fun vs H Q _ => ∃ (p : Addr) (ks : List Nat) (X : Nat → Nat → Bool) (name : List Nat) (k : Nat), vs = [.ref p, .str (S name), .str (S [k])] ∧ PlanAt C H p ks X ∧ k ∈ ks ∧ name.length ≤ 100000 ∧
  Q (.str (S (beh ks X name k))) H
section
variable {P : Program} {w : World} {K : PySem.W.Frag} {mg : Str → Option Value} {base : Heap} {C : Addr}
end
end TX
end
section
set_option maxRecDepth 100000
set_option maxHeartbeats 2000000
namespace TX
open PySem PySem.Spec PyProof.Rows L2 SX CW
/-- followed(plan, name, way) -/
def spFollowed (C : Addr) : Sp := fun vs H Q _ => ∃ (p : Addr) (ks : List Nat) (X : Nat → Nat → Bool) (name way : List Nat), vs = [.ref p, .str (S name), .str (S way)] ∧ PlanAt C H p ks X ∧ (∀ k ∈ way, k ∈ ks) ∧
  name.length + way.length ≤ 100000 ∧ Q (.str (S (fol ks X name way))) H
/-- is_barred_after(plan, barred, kind, other) -/
def spIsBarred (C : Addr) : Sp := fun vs H Q _ => ∃ (p : Addr) (ks : List Nat) (X : Nat → Nat → Bool) (b : List Nat) (k o : Nat), vs = [.ref p, .str (S b), .str (S [k]), .str (S [o])] ∧ PlanAt C H p ks X ∧ k ∈ ks ∧ o ∈ ks ∧
  Q (.bl ((o == k) || (X k o && (decide (o < k) || b.contains o)))) H
/-- barred_after(plan, barred, kind) -/
def spBarred (C : Addr) : Sp := fun vs H Q _ => ∃ (p : Addr) (ks : List Nat) (X : Nat → Nat → Bool) (b : List Nat) (k : Nat), vs = [.ref p, .str (S b), .str (S [k])] ∧ PlanAt C H p ks X ∧ k ∈ ks ∧
  ∀ H', L2.Same H H' → Q (.str (S (ks.filter fun o => (o == k) || (X k o && (decide (o < k) || b.contains o))))) H'
/-- is_name(plan, value) -/
def spIsName (K : PySem.W.Frag) (C : Addr) : Sp := fun vs H Q _ => ∃ (p : Addr) (ks : List Nat) (X : Nat → Nat → Bool) (x : V), vs = [.ref p, x] ∧ PlanAt C H p ks X ∧
  ((∃ v : List Nat, x = .str (S v) ∧ v.length ≤ 100000 ∧ ∀ H', L2.Same H H' → Q (.bl (v.all (fun c => ks.contains c) && isName X v)) H') ∨
   (∃ t, TyX K H x t ∧ PySem.W.kitOne K t (.type "str") = some false ∧ Q (.bl false) H))
theorem getS {z : List Nat} {i c : Nat} (h : (S z).cps[i]? = some c) : z[i]? = some c := by
  have e : (S z).cps[i]? = z[i]? := by
    show z.toArray[i]? = z[i]?
    simp
  rw [e] at h
  exact h
theorem sizeS (z : List Nat) : (S z).cps.size = z.length := by
  show z.toArray.size = z.length
  simp
section
variable {P : Program} {w : World} {K : PySem.W.Frag} {mg : Str → Option Value} {base : Heap} {C : Addr}
theorem lt_one (a b : Nat) : decide ((S [a]).cps.toList < (S [b]).cps.toList) = decide (a < b) := by
  show decide ([a] < [b]) = decide (a < b)
  rw [decide_eq_decide]
  constructor
  · intro h
    cases h with
    | rel h => exact h
    | cons h => cases h
  · exact fun h => List.Lex.rel h
theorem eq_one (a b : Nat) : decide (V.str (S [a]) = V.str (S [b])) = (a == b) := by
  rw [Bool.eq_iff_iff, decide_eq_true_iff, beq_iff_eq]
  constructor
  · intro h
    exact (List.cons.inj (S_inj (V.str.inj h))).1
  · rintro rfl
    rfl
theorem mem_S (c : Nat) (l : List Nat) : decide (c ∈ (S l).cps.toList) = l.contains c := by
  show decide (c ∈ l.toArray.toList) = l.contains c
  rw [Bool.eq_iff_iff]
  simp
theorem all_in (ks v : List Nat) : (v.all fun c => ks.contains c) = (v.dropWhile fun c => ks.contains c).isEmpty := by
  induction v with
  | nil => rfl
  | cons a v ih =>
    rw [List.all_cons, List.dropWhile_cons]
    cases h : ks.contains a
    · simp
    · simpa using ih
end
end TX
end
section
set_option maxRecDepth 100000
set_option maxHeartbeats 2000000
/-! text[::-1] -/
namespace TX
open PySem PySem.Spec PyProof.Rows L2 SX CW PySem.Builtin.Str
def tRevS (te : TE) : TE := fun σ H Q => te σ H fun x H1 => ∃ z : List Nat, x = .str (S z) ∧ z.length ≤ 1000000 ∧ Q (.str (S z.reverse)) H1
theorem rev_pick (z : List Nat) : (((List.range z.length).map fun k => z.length - 1 - k).filterMap ((S z).cps[·]?)) = z.reverse := by
  rw [PySem.W.krv_range, List.filterMap_reverse]
  have h := PySem.W.krv_all z.toArray
  have e : (List.range z.length).filterMap ((S z).cps[·]?) = z := by
    have h2 : (List.range z.toArray.size).filterMap (z.toArray[·]?) = z := by simpa using h
    simpa using h2
  rw [e]
section
variable {X : Cx} {e st : Expr} {te ts : TE} {p2 pos : Pos}
theorem pe_revS (he : PE X e te) (hs : PE X st (tUn (rU fun i => .int (-i)) (tC (.int 1)))) : PE X (.Subscript e (.Slice none none (some st) p2) pos) (tRevS te) := by
  refine ⟨fun pins s σ H Q I h => ?_⟩
  refine Subscript_ (thn (he.run pins s σ H _ I h) fun v s1 ⟨x, H1, I1, r1, z, ex, hz, q⟩ => ?_)
  subst ex
  obtain ⟨t, rfl⟩ := r1
  refine wpAny_Slice ?_
  rw [evalPart_none]
  refine wpAny_pure (wpAny_pure ?_)
  rw [evalPart_some]
  refine thn (hs.run pins s1 σ H1 (fun y H2 => y = .int (-1) ∧ H2 = H1) I1 ⟨1, rfl, rfl, rfl⟩) fun vs s2 ⟨y, H2, I2, r2, ey, eH⟩ => ?_
  subst ey
  subst eH
  obtain ⟨u, rfl⟩ := r2
  have I3 : Inv X pins σ H2 { s2 with heap := s2.heap.push { cls := .type "slice", data := .fields #[.none, .none, .int (-1) u] } } := I2.kept (t' := s2.toks) fun b ob q => Heap.get?_push_of_some _ q
  show wpAny (model X.prog X.w) X.A (subscriptTail e (.Slice none none (some st) p2) (.str (S z) t) (.ref s2.heap.objs.size)) (EP X pins σ Q) X.xe _
  refine tail_any (ops := [.ref s2.heap.objs.size, .str (S z) t]) (typeIs_str _ _ _) F.slot_str_getitem.lookup ?_ (by with_unfolding_all rfl)
  refine wpAny_getItem_str_slice (l := none) (u := none) (st := some (-1, u)) ⟨_, Heap.get?_push_size _ rfl, rfl, rfl⟩ rfl ?_
  show Made.post (if ((-1 : Int) == 1 && (strSliceIndices none none (-1) (S z).length).length == (S z).length) = true then Made.val (.str (S z) t)
    else Made.str ⟨((strSliceIndices none none (-1) (S z).length).filterMap ((S z).cps[·]?)).toArray⟩) (EP X pins σ Q) _
  have e1 : ((-1 : Int) == 1) = false := by decide
  rw [if_neg (by rw [e1, Bool.false_and]; exact Bool.false_ne_true), picked_rev, S_len, rev_pick]
  exact ⟨by rw [S_len, List.length_reverse]; exact len_line (by omega), .str (S z.reverse), H2, I3.tok _, ⟨_, rfl⟩, q⟩
end
end TX
end
section
set_option maxRecDepth 100000
set_option maxHeartbeats 2000000
/-! Sorted lists of texts are told by their members. -/
namespace TX
open PySem PySem.Spec PyProof.Rows L2 SX CW
theorem rising_le {α : Type} (f : α → Str) (key : α → Nat) (hk : ∀ a b, ltCps (f a).cps.toList (f b).cps.toList = decide (key a < key b)) :
    ∀ (l : List α) (p : α), risingS (f p) (l.map f) = true → (p :: l).Pairwise (fun a b => key a ≤ key b)
  | [], p, _ => List.pairwise_singleton _ _
  | x :: l, p, h => by
    have h' : (!ltCps (f x).cps.toList (f p).cps.toList && risingS (f x) (l.map f)) = true := h
    rw [Bool.and_eq_true] at h'
    obtain ⟨h1, h2⟩ := h'
    rw [hk] at h1
    have h3 : key p ≤ key x := by simpa using h1
    have ih := rising_le f key hk l x h2
    refine List.pairwise_cons.mpr ⟨fun y hy => ?_, ih⟩
    rcases List.mem_cons.mp hy with e | e
    · rw [e]; exact h3
    · exact Nat.le_trans h3 ((List.pairwise_cons.mp ih).1 y e)
theorem sorted_le {α : Type} (f : α → Str) (key : α → Nat) (hk : ∀ a b, ltCps (f a).cps.toList (f b).cps.toList = decide (key a < key b)) (l : List α) (h : sortedS (l.map f) = true) :
    l.Pairwise (fun a b => key a ≤ key b) := by
  cases l with
  | nil => exact List.Pairwise.nil
  | cons p l => exact rising_le f key hk l p h
theorem uniq {α : Type} (key : α → Nat) : ∀ (l m : List α), l.Pairwise (fun a b => key a < key b) → m.Pairwise (fun a b => key a < key b) → (∀ x, x ∈ l ↔ x ∈ m) → l = m
  | [], m, _, _, h => by
    cases m with
    | nil => rfl
    | cons b m => exact absurd ((h b).mpr List.mem_cons_self) (by simp)
  | a :: l, [], _, _, h => absurd ((h a).mp List.mem_cons_self) (by simp)
  | a :: l, b :: m, hl, hm, h => by
    obtain ⟨l1, l2⟩ := List.pairwise_cons.mp hl
    obtain ⟨m1, m2⟩ := List.pairwise_cons.mp hm
    have e : a = b := by
      rcases List.mem_cons.mp ((h a).mp List.mem_cons_self) with z | z
      · exact z
      · rcases List.mem_cons.mp ((h b).mpr List.mem_cons_self) with y | y
        · exact y.symm
        · have := m1 a z
          have := l1 b y
          omega
    subst e
    rw [uniq key l m l2 m2 fun x => ?_]
    constructor
    · intro hx
      rcases List.mem_cons.mp ((h x).mp (List.mem_cons_of_mem _ hx)) with z | z
      · have := l1 x hx
        rw [z] at this
        omega
      · exact z
    · intro hx
      rcases List.mem_cons.mp ((h x).mpr (List.mem_cons_of_mem _ hx)) with z | z
      · have := m1 x hx
        rw [z] at this
        omega
      · exact z
/-- a list of texts that are all f of something -/
theorem all_f {α : Type} (f : α → Str) : ∀ ys : List Str, (∀ y ∈ ys, ∃ a, y = f a) → ∃ l : List α, ys = l.map f
  | [], _ => ⟨[], rfl⟩
  | y :: ys, h => by
    obtain ⟨a, ea⟩ := h y List.mem_cons_self
    obtain ⟨l, el⟩ := all_f f ys fun z hz => h z (List.mem_cons_of_mem _ hz)
    exact ⟨a :: l, by rw [ea, el]; rfl⟩
/-- sorted(..) of different texts, by what they are -/
theorem sorted_is {α : Type} (f : α → Str) (key : α → Nat) (hk : ∀ a b, ltCps (f a).cps.toList (f b).cps.toList = decide (key a < key b)) (inj : ∀ a b, key a = key b → a = b) {ys xs : List Str} {m : List α}
    (pm : ys.Perm xs) (nd : xs.Nodup) (hs : sortedS ys = true) (hx : ∀ y ∈ xs, ∃ a, y = f a) (hm : m.Pairwise (fun a b => key a < key b)) (hxm : ∀ a, f a ∈ xs ↔ a ∈ m) : ys = m.map f := by
  obtain ⟨l, rfl⟩ := all_f f ys fun y hy => hx y (pm.mem_iff.mp hy)
  have finj : ∀ a b, f a = f b → a = b := by
    intro a b e
    refine inj a b ?_
    have h1 := hk a b
    have h2 := hk b a
    rw [e] at h1 h2
    have h3 : ltCps (f b).cps.toList (f b).cps.toList = false := by
      have := hk b b
      rw [this]
      exact decide_eq_false (Nat.lt_irrefl _)
    rw [h3] at h1 h2
    have h4 := of_decide_eq_false h1.symm
    have h5 := of_decide_eq_false h2.symm
    omega
  have ndl : l.Nodup := by
    have z := pm.nodup_iff.mpr nd
    exact (List.pairwise_map.mp z).imp fun h e => h (congrArg f e)
  have le := sorted_le f key hk l hs
  have lt : l.Pairwise (fun a b => key a < key b) := by
    refine (List.Pairwise.and le ndl).imp fun {a b} ⟨h1, h2⟩ => ?_
    rcases Nat.lt_or_ge (key a) (key b) with z | z
    · exact z
    · exact absurd (inj a b (by omega)) h2
  rw [uniq key l m lt hm fun x => ?_]
  rw [← hxm x, ← pm.mem_iff, List.mem_map]
  constructor
  · exact fun h => ⟨x, h, rfl⟩
  · rintro ⟨y, hy, e⟩
    rw [← finj y x e]
    exact hy
theorem lt_k1 (a b : Nat) : ltCps (S [a]).cps.toList (S [b]).cps.toList = decide (a < b) := by
  rw [ltCps_eq]
  show decide ([a] < [b]) = decide (a < b)
  rw [decide_eq_decide]
  constructor
  · intro h
    cases h with
    | rel h => exact h
    | cons h => cases h
  · exact fun h => List.Lex.rel h
/-- pairs of letters -/
def fP (p : Nat × Fin 1000) : Str := S [p.1, p.2.val]
def kP (p : Nat × Fin 1000) : Nat := p.1 * 1000 + p.2.val
theorem lt_k2 (a b : Nat × Fin 1000) : ltCps (fP a).cps.toList (fP b).cps.toList = decide (kP a < kP b) := by
  obtain ⟨a1, a2, ha⟩ := a
  obtain ⟨b1, b2, hb⟩ := b
  rw [ltCps_eq]
  show decide ([a1, a2] < [b1, b2]) = decide (a1 * 1000 + a2 < b1 * 1000 + b2)
  rw [decide_eq_decide]
  constructor
  · intro h
    cases h with
    | rel h => omega
    | cons h =>
      cases h with
      | rel h => omega
      | cons h => cases h
  · intro h
    rcases Nat.lt_trichotomy a1 b1 with c | c | c
    · exact List.Lex.rel c
    · subst c
      exact List.Lex.cons (List.Lex.rel (by omega))
    · omega
theorem inj_k2 (a b : Nat × Fin 1000) (h : kP a = kP b) : a = b := by
  obtain ⟨a1, a2, ha⟩ := a
  obtain ⟨b1, b2, hb⟩ := b
  have h' : a1 * 1000 + a2 = b1 * 1000 + b2 := h
  have e1 : a1 = b1 := by omega
  have e2 : a2 = b2 := by omega
  subst e1
  subst e2
  rfl
/-- the crossing pairs as pairs of numbers -/
def prL (ks : List Nat) (X : Nat → Nat → Bool) (h : ∀ k ∈ ks, k < 1000) : List (Nat × Fin 1000) :=
  ks.flatMap fun a => (ks.attach.filter fun b => decide (a < b.1) && X a b.1).map fun b => (a, ⟨b.1, h b.1 b.2⟩)
theorem prL_map (ks : List Nat) (X : Nat → Nat → Bool) (h : ∀ k ∈ ks, k < 1000) : (prL ks X h).map fP = prs ks X := by
  unfold prL prs
  rw [List.map_flatMap]
  congr 1
  funext a
  rw [List.map_map]
  have e : ∀ l : List Nat, ∀ (hl : ∀ k ∈ l, k < 1000), (l.attach.filter fun b => decide (a < b.1) && X a b.1).map (fun b => S [a, b.1]) = (l.filter fun b => decide (a < b) && X a b).map fun b => S [a, b] := by
    intro l hl
    have e1 : (l.attach.filter fun b => decide (a < b.1) && X a b.1).map (fun b => S [a, b.1]) = ((l.attach.filter fun b => decide (a < b.1) && X a b.1).map (fun b => b.1)).map fun b => S [a, b] := by
      rw [List.map_map]
      rfl
    rw [e1]
    congr 1
    have e2 := List.filter_map (f := fun b : { x // x ∈ l } => b.1) (p := fun b => decide (a < b) && X a b) (l := l.attach)
    rw [List.attach_map_subtype_val] at e2
    rw [e2]
    rfl
  exact e ks h
theorem mem_prL {ks : List Nat} {X : Nat → Nat → Bool} {h : ∀ k ∈ ks, k < 1000} {p : Nat × Fin 1000} : p ∈ prL ks X h ↔ p.1 ∈ ks ∧ p.2.val ∈ ks ∧ p.1 < p.2.val ∧ X p.1 p.2.val = true := by
  unfold prL
  rw [List.mem_flatMap]
  constructor
  · rintro ⟨a, ha, hp⟩
    obtain ⟨b, hb, e⟩ := List.mem_map.mp hp
    subst e
    have z := (List.mem_filter.mp hb).2
    rw [Bool.and_eq_true, decide_eq_true_iff] at z
    exact ⟨ha, b.2, z.1, z.2⟩
  · rintro ⟨h1, h2, h3, h4⟩
    obtain ⟨a, b, hb⟩ := p
    refine ⟨a, h1, List.mem_map.mpr ⟨⟨b, h2⟩, List.mem_filter.mpr ⟨List.mem_attach _ _, ?_⟩, rfl⟩⟩
    rw [Bool.and_eq_true, decide_eq_true_iff]
    exact ⟨h3, h4⟩
theorem prL_up {ks : List Nat} {X : Nat → Nat → Bool} {h : ∀ k ∈ ks, k < 1000} (up : ks.Pairwise (· < ·)) : (prL ks X h).Pairwise (fun a b => kP a < kP b) := by
  unfold prL
  rw [List.pairwise_flatMap]
  refine ⟨fun a ha => ?_, up.imp fun {a b} hab => ?_⟩
  · rw [List.pairwise_map]
    refine List.Pairwise.filter _ ?_
    have z : (ks.attach.map (·.1)).Pairwise (· < ·) := by
      rw [List.attach_map_subtype_val]
      exact up
    rw [List.pairwise_map] at z
    refine z.imp fun {x y} hxy => ?_
    show a * 1000 + x.1 < a * 1000 + y.1
    omega
  · intro x hx y hy
    obtain ⟨c, _, e1⟩ := List.mem_map.mp hx
    obtain ⟨d, _, e2⟩ := List.mem_map.mp hy
    subst e1
    subst e2
    have := h c.1 c.2
    show a * 1000 + c.1 < b * 1000 + d.1
    omega
end TX
end
section
set_option maxRecDepth 100000
set_option maxHeartbeats 2000000
/-! crosswalls.plans: the small defs. -/
namespace TX
open PySem PySem.Spec PyProof.Rows L2 SX CW
def upL (a b : Nat) : List Nat := if a < b then [a, b] else [b, a]
/-- upright(pair) -/
def spUpright : Sp := fun vs H Q _ => ∃ (a b : Nat), vs = [.str (S [a, b])] ∧ Q (.str (S (upL a b))) H
/-- is_pair(kinds, value), where it is one -/
def spIsPair (K : PySem.W.Frag) : Sp := fun vs H Q _ => ∃ (zs : List Nat) (a b : Nat), vs = [.str (S zs), .str (S [a, b])] ∧ a ≠ b ∧ a ∈ zs ∧ b ∈ zs ∧ Q (.bl true) H
/-- are_letters(value), where they are -/
def spLetters : Sp := fun vs H Q _ => ∃ (zs : List Nat), vs = [.str (S zs)] ∧ zs.Nodup ∧ (∀ k ∈ zs, 97 ≤ k ∧ k ≤ 122) ∧ zs.length ≤ 1000 ∧ ∀ H', L2.Same H H' → Q (.bl true) H'
/-- kinds_across(kinds, pairs, kind) -/
def spAcross : Sp := fun vs H Q _ => ∃ (ks : List Nat) (X : Nat → Nat → Bool) (tp : Addr) (k : Nat), vs = [.str (S ks), .ref tp, .str (S [k])] ∧ H tp = some (.tup ((prs ks X).map V.str)) ∧ Crossing X ∧ k ∈ ks ∧ ks.length ≤ 26 ∧
  ∀ H', L2.Same H H' → Q (.str (S (acr ks X k))) H'
/-- kinds_before(kinds, kind) -/
def spBefore : Sp := fun vs H Q _ => ∃ (l : List Nat) (k : Nat), vs = [.str (S l), .str (S [k])] ∧ l.length ≤ 26 ∧ ∀ H', L2.Same H H' → Q (.str (S (l.filter fun c => decide (c < k)))) H'
theorem mem_prs {ks : List Nat} {X : Nat → Nat → Bool} {a b : Nat} : S [a, b] ∈ prs ks X ↔ a ∈ ks ∧ b ∈ ks ∧ a < b ∧ X a b = true := by
  unfold prs
  rw [List.mem_flatMap]
  constructor
  · rintro ⟨c, hc, hp⟩
    obtain ⟨d, hd, e⟩ := List.mem_map.mp hp
    have e2 := S_inj e
    have e3 := List.cons.inj e2
    have e4 := List.cons.inj e3.2
    obtain ⟨z1, z2⟩ := List.mem_filter.mp hd
    rw [Bool.and_eq_true, decide_eq_true_iff] at z2
    rw [e3.1] at hc z2
    rw [e4.1] at z1 z2
    exact ⟨hc, z1, z2.1, z2.2⟩
  · rintro ⟨h1, h2, h3, h4⟩
    refine ⟨a, h1, List.mem_map.mpr ⟨b, List.mem_filter.mpr ⟨h2, ?_⟩, rfl⟩⟩
    rw [Bool.and_eq_true, decide_eq_true_iff]
    exact ⟨h3, h4⟩
theorem sum_ones : ∀ l : List Nat, (l.map ((fun x : Str => x.length) ∘ fun c => S [c])).sum = l.length
  | [] => rfl
  | a :: l => by
    rw [List.map_cons, List.sum_cons, sum_ones l, List.length_cons]
    show (S [a]).length + l.length = _
    rw [S_len]
    simp only [List.length_cons, List.length_nil]
    omega
theorem empty_S : ("" : Str) = S [] := by decide +kernel
/-- ''.join of single letters -/
theorem join_ones {K : PySem.W.Frag} {H : Hp} {D : Addr} {l : List Nat} {Q : VK} (hl : H D = some (.lst (l.map fun c => V.str (S [c])))) (hn : l.length ≤ 1000000) (q : Q (.str (S l)) H) :
    ∃ a p, ∃ ys : List Str, (V.str ("" : Str)) = .str a ∧ [V.ref D] = [.ref p] ∧ (SqL K H p (ys.map V.str) ∨ SqT K H p (ys.map V.str)) ∧ (ys.map (·.length)).sum + ys.length * a.length ≤ 16777216 ∧ Q (.str (Txt.join a ys)) H := by
  refine ⟨_, _, l.map fun c => S [c], rfl, rfl, .inl ?_, ?_, ?_⟩
  · rw [List.map_map]
    exact SqL.of hl
  · rw [List.length_map, List.map_map, sum_ones, empty_S, S_len]
    simp only [List.length_nil]
    omega
  · rw [empty_S, S_join1]
    exact q
section
variable {P : Program} {w : World} {K : PySem.W.Frag} {mg : Str → Option Value} {base : Heap} {C : Addr}
theorem sc_upright : FnScope ["pair"] ["pair"] (defScope s_upright) := ⟨rfl, rfl, rfl, by decide +kernel, rfl, by decide +kernel, by decide +kernel⟩
theorem ok_upright (F : D K mg "upright" s_upright []) : C8.Cal P w K mg base 1 "upright" spUpright [] := by
  refine F.cal (ps := ["pair"]) sc_upright (fun f fd F => F.bindsN fun _ _ _ _ _ _ us hl => match us, hl with | [_], _ => rfl) (fun vs H Q E h => ?_) (fun f cdv A outer s H vs Q E hr h => ?_)
  · obtain ⟨a, b, rfl, _⟩ := h
    rfl
  · obtain ⟨a, b, rfl, q⟩ := h
    refine ⟨_, pss_one (ps_ret (pe_ifExp (pt_cmpR op_lt_str (pe_ix ix_str (pv 0) pe_int (fun _ _ => rfl)) (pe_ix ix_str (pv 0) pe_int (fun _ _ => rfl)) (nomark _)) (pv 0) (pe_revS (pv 0) (pe_un un_neg pe_int)))), ?_⟩
    have l2 : (S [a, b]).length ≤ sizeLine := by rw [S_len]; exact len_line (by simp)
    refine ⟨_, rfl, _, _, a, rfl, rfl, l2, atI_nat (j := 0) rfl, _, rfl, _, _, b, rfl, rfl, l2, atI_nat (j := 1) rfl, _, _, rfl, rfl, _, rfl, ?_⟩
    rw [lt_one]
    unfold upL at q
    refine ite2 (fun c => ?_) (fun c => ?_)
    · have c' := of_decide_eq_true c
      rw [if_pos c'] at q
      exact ⟨_, rfl, q⟩
    · have c' : ¬ a < b := fun z => c (decide_eq_true z)
      rw [if_neg c'] at q
      exact ⟨_, rfl, [a, b], rfl, by simp, q⟩
theorem sc_ispair : FnScope ["kinds", "value"] ["kinds", "value"] (defScope s_is_pair) := ⟨rfl, rfl, rfl, by decide +kernel, rfl, by decide +kernel, by decide +kernel⟩
theorem ok_ispair (F : D K mg "is_pair" s_is_pair []) (zi : mg "isinstance" = none) (zs : mg "str" = none) (zl : mg "len" = none) : C8.Cal P w K mg base 1 "is_pair" (spIsPair K) [] := by
  refine F.cal (ps := ["kinds", "value"]) sc_ispair (fun f fd F => F.bindsN fun _ _ _ _ _ _ us hl => match us, hl with | [_, _], _ => rfl) (fun vs H Q E h => ?_) (fun f cdv A outer s H vs Q E hr h => ?_)
  · obtain ⟨zs, a, b, rfl, _⟩ := h
    rfl
  · obtain ⟨zs', a, b, rfl, hab, ha, hb, q⟩ := h
    refine ⟨_, pss_cons (ps_if (PW.pt (pw_or (pt_not (pt_val (pe_callB call_isi (by rfl) zi PyProof.Rows.boot_isinstance (pa_cons (pv 1) (pa_cons (pe_bltn (v := .ty "str") (by rfl) zs (by decide +kernel) rfl) pa_nil)))))
        (pw_or1 (pt_cmpR op_ne (pe_callB call_len_str (by rfl) zl PySem.boot_len (pa_cons (pv 1) pa_nil)) pe_int (nomark _))))) (pss_one (ps_ret pe_bl)) pss_nil)
      (pss_one (ps_ret (pe_and (pe_cmpR op_ne (pe_ix ix_str (pv 1) pe_int (fun _ _ => rfl)) (pe_ix ix_str (pv 1) pe_int (fun _ _ => rfl)) (nomark _))
        (pe_and (pe_cmpR op_in_sign (pe_ix ix_str (pv 1) pe_int (fun _ _ => rfl)) (pv 0) (by rfl)) (pe_one (pe_cmpR op_in_sign (pe_ix ix_str (pv 1) pe_int (fun _ _ => rfl)) (pv 0) (by rfl))))))), ?_⟩
    have l2 : (S [a, b]).length ≤ sizeLine := by rw [S_len]; exact len_line (by simp)
    refine ⟨_, rfl, _, _, .type "str", .type "str", true, rfl, .ty _, .base (.str _), kit_ty (by decide +kernel), _, rfl, iteF ?_⟩
    refine ⟨_, rfl, _, rfl, l2, rfl, _, rfl, ?_⟩
    have e0 : (!decide (V.int ((S [a, b]).length : Int) = V.int 2)) = false := by
      rw [S_len]
      rfl
    rw [e0]
    refine iteF ?_
    refine ⟨_, rfl, _, _, a, rfl, rfl, l2, atI_nat (j := 0) rfl, _, rfl, _, _, b, rfl, rfl, l2, atI_nat (j := 1) rfl, rfl, _, rfl, ?_⟩
    have e1 : (!decide (V.str (S [a]) = V.str (S [b]))) = true := by
      rw [eq_one]
      simpa using hab
    show if (!decide (V.str (S [a]) = V.str (S [b]))) = true then _ else _
    rw [e1]
    refine iteT ?_
    refine ⟨_, rfl, _, _, a, rfl, rfl, l2, atI_nat (j := 0) rfl, _, rfl, a, _, rfl, rfl, _, rfl, ?_⟩
    rw [mem_S]
    have e2 : zs'.contains a = true := List.contains_iff_mem.mpr ha
    rw [e2]
    refine iteT ?_
    refine ⟨_, rfl, _, _, b, rfl, rfl, l2, atI_nat (j := 1) rfl, _, rfl, b, _, rfl, rfl, ?_⟩
    rw [mem_S]
    have e3 : zs'.contains b = true := List.contains_iff_mem.mpr hb
    rw [e3]
    exact q
theorem sc_across : FnScope ["kinds", "pairs", "kind", "other"] ["kinds", "pairs", "kind"] (defScope s_kinds_across) := ⟨rfl, rfl, rfl, by decide +kernel, rfl, by decide +kernel, by decide +kernel⟩
theorem flat_str (l : List Str) : (l.map V.str).all flatV = true := by
  rw [List.all_eq_true]
  intro v hv
  obtain ⟨x, _, rfl⟩ := List.mem_map.mp hv
  rfl
theorem inV_str (x : Str) (l : List Str) : inV (.str x) (l.map V.str) = decide (x ∈ l) := by
  unfold inV
  rw [Bool.eq_iff_iff, List.any_eq_true, decide_eq_true_iff]
  constructor
  · rintro ⟨v, hv, e⟩
    obtain ⟨y, hy, rfl⟩ := List.mem_map.mp hv
    have : y = x := by simpa [eqV] using e
    rw [← this]
    exact hy
  · intro h
    exact ⟨.str x, List.mem_map.mpr ⟨x, h, rfl⟩, by simp [eqV]⟩
theorem ok_across (F : D K mg "kinds_across" s_kinds_across []) (cU : C8.Cal P w K mg base 1 "upright" spUpright []) : C8.Cal P w K mg base 2 "kinds_across" spAcross [] := by
  refine F.cal (ps := ["kinds", "pairs", "kind"]) sc_across (fun f fd F => F.bindsN fun _ _ _ _ _ _ us hl => match us, hl with | [_, _, _], _ => rfl) (fun vs H Q E h => ?_) (fun f cdv A outer s H vs Q E hr h => ?_)
  · obtain ⟨ks, X, tp, k, rfl, _⟩ := h
    rfl
  · obtain ⟨ks, X, tp, k, rfl, ht, cr, hk, hn, q⟩ := h
    refine ⟨_, pss_one (ps_ret (pe_join pe_str (pe_lc (own := [("other", 3)]) (g := gName 3) rfl sc_across.nd (pi_str (pv 0)) (blkOk_by (own := [("other", 3)]) (N := ["kinds", "pairs", "kind", "other"]) (sc := defScope s_kinds_across) (by decide +kernel))
      (fun _ _ _ _ _ => pg_name (i := 3) sc_across.nd rfl (.inl rfl)) (fun _ _ _ _ _ => pts_one (pt_cmpR (r := rIn K false) op_in_seq (C8.pe_c cU hr (by decide) (by rfl) (pa_cons (pe_op op_add_str (pv 2) (pv 3)) pa_nil)) (pv 1) (by rfl))) (fun _ _ _ _ _ => pv 3)))), ?_⟩
    refine ⟨⟨_, rfl⟩, _, rfl, _, rfl, fun D hD => ?_⟩
    refine lc_it walk_str (fun i H' => H' D = some (.lst (((ks.take i).filter (X k)).map fun c => V.str (S [c]))) ∧ L2.Same H H') ⟨upd_same, fun a o e => ?_⟩ (fun _ _ _ _ => trivial) ?_ ?_
    · rw [upd_ne (ne_of_none e hD)]
      exact e
    · rintro i x H' H2 hi ⟨hl, sm⟩ ⟨rfl, c, hc, rfl⟩
      have hc' := getS hc
      have hin : c ∈ ks := List.mem_of_getElem? hc'
      refine ⟨rfl, _, rfl, _, rfl, _, _, rfl, rfl, (by rw [S_len]; exact len_line (by simp [S, Str.length])), k, c, rfl, _, rfl, tp, _, rfl, .inr (SqT.of (sm _ _ ht)), rfl, flat_str _, _, rfl, ?_⟩
      show if (inV (V.str (S (upL k c))) ((prs ks X).map V.str)) = true then _ else _
      rw [inV_str]
      have ef : decide (S (upL k c) ∈ prs ks X) = X k c := by
        rw [Bool.eq_iff_iff, decide_eq_true_iff]
        unfold upL
        by_cases z : k < c
        · rw [if_pos z, mem_prs]
          exact ⟨fun h => h.2.2.2, fun h => ⟨hk, hin, z, h⟩⟩
        · rw [if_neg z, mem_prs]
          constructor
          · intro h
            rw [cr.sym]
            exact h.2.2.2
          · intro h
            have ne := cr.ne h
            rw [cr.sym] at h
            exact ⟨hin, hk, by omega, h⟩
      rw [ef]
      have et : (ks.take (i + 1)).filter (X k) = (ks.take i).filter (X k) ++ (if X k c = true then [c] else []) := by
        rw [take_one hc', List.filter_append]
        congr 1
        by_cases z : X k c = true <;> simp [List.filter, z]
      cases e1 : X k c
      · refine iteF ⟨?_, sm⟩
        rw [et, e1]
        simpa using hl
      · refine iteT ?_
        refine ⟨_, rfl, _, hl, ?_, ?_, fun a o e => ?_⟩
        · rw [List.length_map]
          have z := List.length_filter_le (X k) (ks.take i)
          rw [List.length_take] at z
          exact len_lt (by omega)
        · rw [upd_same, et, e1]
          simp
        · rw [upd_ne (ne_of_none e hD)]
          exact sm a o e
    · rintro H' ⟨hl, sm⟩
      rw [sizeS, List.take_length] at hl
      have z := List.length_filter_le (X k) ks
      exact join_ones hl (by omega) (q H' sm)
theorem sc_before : FnScope ["kinds", "kind", "other"] ["kinds", "kind"] (defScope s_kinds_before) := ⟨rfl, rfl, rfl, by decide +kernel, rfl, by decide +kernel, by decide +kernel⟩
theorem ok_before (F : D K mg "kinds_before" s_kinds_before []) : C8.Cal P w K mg base 1 "kinds_before" spBefore [] := by
  refine F.cal (ps := ["kinds", "kind"]) sc_before (fun f fd F => F.bindsN fun _ _ _ _ _ _ us hl => match us, hl with | [_, _], _ => rfl) (fun vs H Q E h => ?_) (fun f cdv A outer s H vs Q E hr h => ?_)
  · obtain ⟨l, k, rfl, _⟩ := h
    rfl
  · obtain ⟨ks, k, rfl, hn, q⟩ := h
    refine ⟨_, pss_one (ps_ret (pe_join pe_str (pe_lc (own := [("other", 2)]) (g := gName 2) rfl sc_before.nd (pi_str (pv 0)) (blkOk_by (own := [("other", 2)]) (N := ["kinds", "kind", "other"]) (sc := defScope s_kinds_before) (by decide +kernel))
      (fun _ _ _ _ _ => pg_name (i := 2) sc_before.nd rfl (.inl rfl)) (fun _ _ _ _ _ => pts_one (pt_cmpR op_lt_str (pv 2) (pv 1) (nomark _))) (fun _ _ _ _ _ => pv 2)))), ?_⟩
    refine ⟨⟨_, rfl⟩, _, rfl, _, rfl, fun D hD => ?_⟩
    refine lc_it walk_str (fun i H' => H' D = some (.lst (((ks.take i).filter fun c => decide (c < k)).map fun c => V.str (S [c]))) ∧ L2.Same H H') ⟨upd_same, fun a o e => ?_⟩ (fun _ _ _ _ => trivial) ?_ ?_
    · rw [upd_ne (ne_of_none e hD)]
      exact e
    · rintro i x H' H2 hi ⟨hl, sm⟩ ⟨rfl, c, hc, rfl⟩
      have hc' := getS hc
      refine ⟨rfl, _, rfl, _, rfl, _, _, rfl, rfl, _, rfl, ?_⟩
      rw [lt_one]
      have et : (ks.take (i + 1)).filter (fun c => decide (c < k)) = (ks.take i).filter (fun c => decide (c < k)) ++ (if decide (c < k) = true then [c] else []) := by
        rw [take_one hc', List.filter_append]
        congr 1
        by_cases z : c < k <;> simp [List.filter, z]
      cases e1 : decide (c < k)
      · refine iteF ⟨?_, sm⟩
        rw [et, e1]
        simpa using hl
      · refine iteT ?_
        refine ⟨_, rfl, _, hl, ?_, ?_, fun a o e => ?_⟩
        · rw [List.length_map]
          have z := List.length_filter_le (fun c => decide (c < k)) (ks.take i)
          rw [List.length_take] at z
          exact len_lt (by omega)
        · rw [upd_same, et, e1]
          simp
        · rw [upd_ne (ne_of_none e hD)]
          exact sm a o e
    · rintro H' ⟨hl, sm⟩
      rw [sizeS, List.take_length] at hl
      have z := List.length_filter_le (fun c => decide (c < k)) ks
      exact join_ones hl (by omega) (q H' sm)
theorem allT_length {xs : List Str} (nd : xs.Nodup) : (allT xs).length = xs.length := by
  have h1 := allT_nodup xs
  have pm : (allT xs).Perm xs := (List.perm_ext_iff_of_nodup h1 nd).mpr fun y => allT_mem
  exact pm.length_eq
theorem signs_S (l : List Nat) : signs (S l) = l.map fun c => S [c] := rfl
theorem nodup_signs {l : List Nat} (h : l.Nodup) : (signs (S l)).Nodup := by
  rw [signs_S]
  show List.Pairwise _ _
  rw [List.pairwise_map]
  exact h.imp fun hn e => hn ((List.cons.inj (S_inj e)).1)
theorem sc_letters : FnScope ["value", "letter"] ["value"] (defScope s_are_letters) := ⟨rfl, rfl, rfl, by decide +kernel, rfl, by decide +kernel, by decide +kernel⟩
theorem ok_letters (F : D K mg "are_letters" s_are_letters []) (zi : mg "isinstance" = none) (zs : mg "str" = none) (zl : mg "len" = none) (zt : mg "set" = none) (za : mg "all" = none) : C8.Cal P w K mg base 1 "are_letters" spLetters [] := by
  refine F.cal (ps := ["value"]) sc_letters (fun f fd F => F.bindsN fun _ _ _ _ _ _ us hl => match us, hl with | [_], _ => rfl) (fun vs H Q E h => ?_) (fun f cdv A outer s H vs Q E hr h => ?_)
  · obtain ⟨zs, rfl, _⟩ := h
    rfl
  · obtain ⟨l, rfl, nd, abc, hn, q⟩ := h
    refine ⟨_, pss_cons (ps_if (pt_not (pt_val (pe_callB call_isi (by rfl) zi PyProof.Rows.boot_isinstance (pa_cons (pv 0) (pa_cons (pe_bltn (v := .ty "str") (by rfl) zs (by decide +kernel) rfl) pa_nil))))) (pss_one (ps_ret pe_bl)) pss_nil)
      (pss_one (ps_ret (pe_and (pe_cmpR op_eq (pe_callB cr_lenST (by rfl) zl PySem.boot_len (pa_cons (pe_callTy (cr_setTxt rfl) (by rfl) zt PyProof.Rows.boot_set (pa_cons (pv 0) pa_nil)) pa_nil)) (pe_callB call_len_str (by rfl) zl PySem.boot_len (pa_cons (pv 0) pa_nil)) (nomark _))
        (pe_one (pe_callB (cr_all rfl) (by rfl) za (by decide +kernel) (pa_cons (pe_lc (own := [("letter", 1)]) (g := gName 1) rfl sc_letters.nd (pi_str (pv 0)) (blkOk_by (own := [("letter", 1)]) (N := ["value", "letter"]) (sc := defScope s_are_letters) (by decide +kernel))
          (fun _ _ _ _ _ => pg_name (i := 1) sc_letters.nd rfl (.inl rfl)) (fun _ _ _ _ _ => pts_nil) (fun _ _ _ _ _ => pe_chain op_le_str op_le_str pe_str (pv 1) pe_str)) pa_nil)))))), ?_⟩
    refine ⟨_, rfl, _, _, .type "str", .type "str", true, rfl, .ty _, .base (.str _), kit_ty (by decide +kernel), _, rfl, iteF ?_⟩
    refine ⟨_, rfl, _, rfl, (by rw [S_len]; unfold scanBound; omega), fun p hp => ?_⟩
    refine ⟨_, _, rfl, upd_same, _, rfl, _, rfl, (by rw [S_len]; exact len_line (by omega)), rfl, _, rfl, ?_⟩
    have e1 : decide (V.int ((allT (signs (S l))).length : Int) = V.int ((S l).length : Int)) = true := by
      rw [allT_length (nodup_signs nd), signs_S, List.length_map, S_len]
      exact decide_eq_true rfl
    rw [e1]
    refine iteT ?_
    refine ⟨_, rfl, _, rfl, fun D hD => ?_⟩
    have sm0 : L2.Same H (upd H p (STO w p (allT (signs (S l))))) := fun a o e => by
      rw [upd_ne (ne_of_none e hp)]
      exact e
    refine lc_it walk_str (fun i H' => H' D = some (.lst ((List.replicate i true).map V.bl)) ∧ L2.Same H H' ∧ i ≤ l.length) ⟨upd_same, fun a o e => ?_, Nat.zero_le _⟩ (fun _ _ _ _ => trivial) ?_ ?_
    · rw [upd_ne (ne_of_none (sm0 a o e) hD)]
      exact sm0 a o e
    · rintro i x H' H2 hi ⟨hl, sm, hil⟩ ⟨rfl, c, hc, rfl⟩
      have hc' := getS hc
      obtain ⟨c1, c2⟩ := abc c (List.mem_of_getElem? hc')
      have ea : ("a" : Str) = S [97] := by decide +kernel
      have ez : ("z" : Str) = S [122] := by decide +kernel
      rw [sizeS] at hi
      refine ⟨rfl, _, rfl, _, _, rfl, rfl, _, rfl, ?_⟩
      have t1 : (!decide ((⟨#[c]⟩ : Str).cps.toList < ("a" : Str).cps.toList)) = true := by
        rw [ea]
        show (!decide ((S [c]).cps.toList < (S [97]).cps.toList)) = true
        rw [lt_one]
        simp
        omega
      have t2 : (!decide (("z" : Str).cps.toList < (⟨#[c]⟩ : Str).cps.toList)) = true := by
        rw [ez]
        show (!decide ((S [122]).cps.toList < (S [c]).cps.toList)) = true
        rw [lt_one]
        simp
        omega
      rw [t1]
      refine iteT ?_
      refine ⟨_, _, rfl, rfl, ?_⟩
      rw [t2]
      refine ⟨_, hl, (by rw [List.length_map, List.length_replicate]; exact len_lt (by omega)), ?_, fun a o e => ?_, hi⟩
      · rw [upd_same, List.replicate_succ', List.map_append]
        rfl
      · rw [upd_ne (ne_of_none e (sm0.free hD))]
        exact sm a o e
    · rintro H' ⟨hl, sm, _⟩
      refine ⟨D, _, rfl, SqL.of hl, ?_⟩
      have e2 : (List.replicate (S l).cps.size true).all id = true := by
        rw [List.all_eq_true]
        intro b hb
        exact (List.mem_replicate.mp hb).2
      rw [e2]
      exact q H' sm
end
end TX
end
section
set_option maxRecDepth 100000
set_option maxHeartbeats 2000000
/-! crosswalls.plans: Plan is made; crosswalls.rooms: Room is made. -/
namespace TX
open PySem PySem.Spec PyProof.Rows L2 SX CW
/-- an iterable of two sorts -/
theorem pi_or {X : Cx} {tg e : Expr} {w1 w2 : TI} (h1 : PI X tg e w1) (h2 : PI X tg e w2) : PI X tg e (fun σ H R => w1 σ H R ∨ w2 σ H R) :=
  ⟨fun pins s σ H R I h => h.elim (h1.run pins s σ H R I) (h2.run pins s σ H R I)⟩
/-- a dict comprehension over a walk -/
theorem dc_it {J : It} {n : Nat} {G : Hp → Prop} {Y : Nat → Hp → V → Hp → Prop} (w : L2.Walk J n G Y) {g : TG} {tt : TT} {tk tv : TE} {vs : List Nat} {σ : L2.St} {H1 : Hp} {D : Addr} {Qd : Hp → Prop} (Pv : Nat → Hp → Prop) (h0 : Pv 0 (upd H1 D (.dK [])))
    (hG : ∀ i H, i ≤ n → Pv i H → G H)
    (hs : ∀ i x H H', i < n → Pv i H → Y i H x H' → g x (wipe σ vs) H' fun σ2 H2 => wipe σ2 vs = wipe σ vs ∧ tt σ2 H2 fun b H3 =>
      if b = true then tk σ2 H3 fun y H4 => tv σ2 H4 fun z H5 => ∃ kvs k, y = kV k ∧ H5 D = some (.dK kvs) ∧ kvs.length < sizeLine ∧ Pv (i + 1) (upd H5 D (.dK (putK kvs k z))) else Pv (i + 1) H3) (hd : ∀ H, Pv n H → Qd H) :
    ∃ W : Nat → Nat → Hp → Prop, (∃ m, W 0 m (upd H1 D (.dK []))) ∧ ∀ i m H, W i m H →
      (J.stop i H ∧ Qd H) ∨ (J.go i H ∧ ∃ Nx : Hp → Prop, (∀ H', Nx H' → ∃ m', m' < m ∧ W (i + 1) m' H') ∧ ∀ x H', J.yld i H x H' → g x (wipe σ vs) H' fun σ2 H2 => wipe σ2 vs = wipe σ vs ∧ tt σ2 H2 fun b H3 =>
        if b = true then tk σ2 H3 fun y H4 => tv σ2 H4 fun z H5 => ∃ kvs k, y = kV k ∧ H5 D = some (.dK kvs) ∧ kvs.length < sizeLine ∧ Nx (upd H5 D (.dK (putK kvs k z))) else Nx H3) := by
  refine ⟨fun i m H => m = n - i ∧ i ≤ n ∧ Pv i H, ⟨n, rfl, Nat.zero_le _, h0⟩, fun i m H ⟨em, hi, p⟩ => ?_⟩
  subst em
  by_cases c : i < n
  · exact .inr ⟨w.goes i H c (hG i H hi p), Pv (i + 1), fun H' p' => ⟨n - (i + 1), by omega, rfl, c, p'⟩, fun x H' y => hs i x H H' c p (w.yields i H x H' c (hG i H hi p) y)⟩
  · have e : i = n := by omega
    subst e
    exact .inl ⟨w.stops H (hG i H hi p), hd H p⟩
/-- what stood but at r stands -/
def But (r : Addr) (H H' : Hp) : Prop := ∀ b o, b ≠ r → H b = some o → H' b = some o
theorem But.refl (r : Addr) (H : Hp) : But r H H := fun _ _ _ h => h
theorem But.trans {r : Addr} {H H1 H2 : Hp} (a : But r H H1) (b : But r H1 H2) : But r H H2 := fun c o n h => b c o n (a c o n h)
theorem But.of {r : Addr} {H H' : Hp} (a : L2.Same H H') : But r H H' := fun c o _ h => a c o h
theorem But.new {r q : Addr} {H : Hp} {o : HO} (hq : H q = none) : But r H (upd H q o) := fun c u _ h => by
  rw [upd_ne (ne_of_none h hq)]
  exact h
theorem But.at {r : Addr} {H : Hp} {o : HO} : But r H (upd H r o) := fun c u n h => by
  rw [upd_ne n]
  exact h
theorem same_new {q : Addr} {H : Hp} {o : HO} (hq : H q = none) : L2.Same H (upd H q o) := fun c u h => by
  rw [upd_ne (ne_of_none h hq)]
  exact h
/-- a plan stands, whatever is stored at an object with few attributes -/
theorem PlanAt.but {C : Addr} {H H' : Hp} {p r : Addr} {ks : List Nat} {X : Nat → Nat → Bool} {C' dx' : Addr} {fs : List (Str × V)} (h : PlanAt C H p ks X) (hr : H r = some (.ins C' dx' fs)) (hf : fs.length ≤ 3) (k : But r H H') : PlanAt C H' p ks X := by
  obtain ⟨dx, tp, da, dl, h1, h2, h3, h4⟩ := h.ex
  have n1 : p ≠ r := ne_of h1 hr (by
    intro e
    injection e with _ _ e3
    have := congrArg List.length e3
    have e4 : (pflds ks tp da dl).length = 4 := rfl
    omega)
  have n2 : tp ≠ r := ne_of h2 hr (by intro e; cases e)
  have n3 : da ≠ r := h3.ne hr (fun _ e => by cases e) (fun _ _ e => by cases e)
  have n4 : dl ≠ r := h4.ne hr (fun _ e => by cases e) (fun _ _ e => by cases e)
  exact ⟨h.few, h.up, h.cr, h.abc, dx, tp, da, dl, k _ _ n1 h1, k _ _ n2 h2, h3.keep (k _ · n3), h4.keep (k _ · n4)⟩
/-- check_length(letters), where they are few enough -/
def spChkLen : Sp := fun vs H Q _ => ∃ l : List Nat, vs = [.str (S l)] ∧ l.length ≤ 2000 ∧ Q .non H
/-- check_way(plan, value), where it is a way -/
def spChkWay (C : Addr) : Sp := fun vs H Q _ => ∃ (p : Addr) (ks : List Nat) (X : Nat → Nat → Bool) (l : List Nat), vs = [.ref p, .str (S l)] ∧ PlanAt C H p ks X ∧ (∀ c ∈ l, c ∈ ks) ∧ l.length ≤ 2000 ∧ Q .non H
/-- Room.__init__(self, plan, way), where it is a way -/
def spRoomInit (C CR : Addr) : Sp := fun vs H Q _ => ∃ (r dx p : Addr) (ks : List Nat) (X : Nat → Nat → Bool) (l : List Nat), vs = [.ref r, .ref p, .str (S l)] ∧ H r = some (.ins CR dx []) ∧ PlanAt C H p ks X ∧ (∀ c ∈ l, c ∈ ks) ∧ l.length ≤ 2000 ∧
  Q .non (upd H r (.ins CR dx (rflds p (fol ks X [] l))))
/-- Plan.__init__(self, kinds, crossing), where all is right -/
def spPlanInit (K : PySem.W.Frag) (C : Addr) : Sp := fun vs H Q _ => ∃ (r dx c : Addr) (zs ks : List Nat) (X : Nat → Nat → Bool) (es : List Str), vs = [.ref r, .str (S zs), .ref c] ∧ H r = some (.ins C dx []) ∧
  zs.Perm ks ∧ ks.Pairwise (· < ·) ∧ (∀ k ∈ ks, 97 ≤ k ∧ k ≤ 122) ∧ ks.length ≤ 8 ∧ Crossing X ∧ (SqL K H c (es.map V.str) ∨ SqT K H c (es.map V.str)) ∧ es.length < 64 ∧
  (∀ e ∈ es, ∃ a b, e = S [a, b] ∧ a ∈ ks ∧ b ∈ ks ∧ X a b = true) ∧ (∀ a b, a ∈ ks → b ∈ ks → a < b → X a b = true → S [a, b] ∈ es ∨ S [b, a] ∈ es) ∧
  ∀ H', But r H H' → PlanAt C H' r ks X → Q .non H'
section
variable {P : Program} {w : World} {K : PySem.W.Frag} {mg : Str → Option Value} {base : Heap} {C CR : Addr}
theorem drop_all {ks l : List Nat} (h : ∀ c ∈ l, c ∈ ks) : l.dropWhile (fun c => ks.contains c) = [] := by
  have z := all_in ks l
  have z2 : l.all (fun c => ks.contains c) = true := List.all_eq_true.mpr fun c hc => List.contains_iff_mem.mpr (h c hc)
  rw [z2] at z
  exact List.isEmpty_iff.mp z.symm
theorem rf_eq (p : Addr) (n : List Nat) : putF "name" (.str (S n)) (putF "plan" (.ref p) []) = rflds p n := by
  have e : ¬ (("plan" : Str) = "name") := by decide +kernel
  show (if ("plan" : Str) = "name" then _ else (("plan" : Str), V.ref p) :: putF "name" (.str (S n)) []) = _
  rw [if_neg e]
  rfl
end
end TX
end
section
set_option maxRecDepth 100000
set_option maxHeartbeats 4000000
namespace TX
open PySem PySem.Spec PyProof.Rows L2 SX CW
def f1 (ks : List Nat) : List (Str × V) := [("kinds", .str (S ks))]
def f2 (ks : List Nat) (tp : Addr) : List (Str × V) := [("kinds", .str (S ks)), ("pairs", .ref tp)]
def f3 (ks : List Nat) (tp da : Addr) : List (Str × V) := [("kinds", .str (S ks)), ("pairs", .ref tp), ("across", .ref da)]
theorem put1 (ks : List Nat) : putF "kinds" (.str (S ks)) [] = f1 ks := rfl
theorem put2 (ks : List Nat) (tp : Addr) : putF "pairs" (.ref tp) (f1 ks) = f2 ks tp := by
  show (if ("kinds" : Str) = "pairs" then _ else (("kinds" : Str), V.str (S ks)) :: putF "pairs" (.ref tp) []) = _
  rw [if_neg (by decide +kernel)]
  rfl
theorem put3 (ks : List Nat) (tp da : Addr) : putF "across" (.ref da) (f2 ks tp) = f3 ks tp da := by
  show (if ("kinds" : Str) = "across" then _ else (("kinds" : Str), V.str (S ks)) :: (if ("pairs" : Str) = "across" then _ else (("pairs" : Str), V.ref tp) :: putF "across" (.ref da) [])) = _
  rw [if_neg (by decide +kernel), if_neg (by decide +kernel)]
  rfl
theorem put4 (ks : List Nat) (tp da dl : Addr) : putF "lesser" (.ref dl) (f3 ks tp da) = pflds ks tp da dl := by
  show (if ("kinds" : Str) = "lesser" then _ else (("kinds" : Str), V.str (S ks)) :: (if ("pairs" : Str) = "lesser" then _ else (("pairs" : Str), V.ref tp) :: (if ("across" : Str) = "lesser" then _ else (("across" : Str), V.ref da) :: putF "lesser" (.ref dl) []))) = _
  rw [if_neg (by decide +kernel), if_neg (by decide +kernel), if_neg (by decide +kernel)]
  rfl
theorem look1 (ks : List Nat) : (f1 ks).lookup ("kinds" : Str) = some (.str (S ks)) := by
  unfold f1
  rw [List.lookup_cons, show (("kinds" : Str) == ("kinds" : Str)) = true from by decide +kernel]
theorem look2 (ks : List Nat) (tp : Addr) : (f2 ks tp).lookup ("kinds" : Str) = some (.str (S ks)) := by
  unfold f2
  rw [List.lookup_cons, show (("kinds" : Str) == ("kinds" : Str)) = true from by decide +kernel]
theorem look2p (ks : List Nat) (tp : Addr) : (f2 ks tp).lookup ("pairs" : Str) = some (.ref tp) := by
  unfold f2
  rw [List.lookup_cons, show (("pairs" : Str) == ("kinds" : Str)) = false from by decide +kernel]
  dsimp only
  rw [List.lookup_cons, show (("pairs" : Str) == ("pairs" : Str)) = true from by decide +kernel]
theorem look3 (ks : List Nat) (tp da : Addr) : (f3 ks tp da).lookup ("kinds" : Str) = some (.str (S ks)) := by
  unfold f3
  rw [List.lookup_cons, show (("kinds" : Str) == ("kinds" : Str)) = true from by decide +kernel]
theorem look3a (ks : List Nat) (tp da : Addr) : (f3 ks tp da).lookup ("across" : Str) = some (.ref da) := by
  unfold f3
  rw [List.lookup_cons, show (("across" : Str) == ("kinds" : Str)) = false from by decide +kernel]
  dsimp only
  rw [List.lookup_cons, show (("across" : Str) == ("pairs" : Str)) = false from by decide +kernel]
  dsimp only
  rw [List.lookup_cons, show (("across" : Str) == ("across" : Str)) = true from by decide +kernel]
theorem valV_out {f : Nat → List Nat} {k : Nat} : ∀ {ks : List Nat}, k ∉ ks → valV (kvK ks f) (Sum.inr (S [k])) = none
  | [], _ => rfl
  | a :: ks, h => by
    have c : a ≠ k := fun z => h (by rw [z]; exact List.mem_cons_self)
    have e : decide ((Sum.inr (S [a]) : Key) = Sum.inr (S [k])) = false := decide_eq_false fun z => c (sk_inj z)
    show ((((Sum.inr (S [a]) : Key), V.str (S (f a))) :: kvK ks f).find? fun kv => decide (kv.1 = Sum.inr (S [k]))).map (·.2) = none
    rw [List.find?_cons, e]
    exact valV_out fun z => h (List.mem_cons_of_mem _ z)
theorem kvK_more {ks : List Nat} {f : Nat → List Nat} {i c : Nat} (hc : ks[i]? = some c) (nd : ks.Nodup) : putK (kvK (ks.take i) f) (Sum.inr (S [c])) (.str (S (f c))) = kvK (ks.take (i + 1)) f := by
  have hi : i < ks.length := (List.getElem?_eq_some_iff.mp hc).1
  have out : c ∉ ks.take i := fun z => by
    obtain ⟨j, hj, e⟩ := List.getElem_of_mem z
    have hj' : j < i := by
      rw [List.length_take] at hj
      omega
    have e2 : ks[j]'(by omega) = c := by
      rw [← e, List.getElem_take]
    have e3 : ks[i] = c := (List.getElem?_eq_some_iff.mp hc).2
    have := List.pairwise_iff_getElem.mp nd j i (by omega) hi hj'
    exact this (by rw [e2, e3])
  rw [putK_new _ (valV_out out), take_one hc]
  unfold kvK
  rw [List.map_append]
  rfl
theorem nodup_up {ks : List Nat} (up : ks.Pairwise (· < ·)) : ks.Nodup := up.imp fun h e => by omega
/-- the letters, sorted -/
theorem sorted_kinds {zs ks : List Nat} {ys : List Str} (pm : zs.Perm ks) (up : ks.Pairwise (· < ·)) (py : ys.Perm (allT (signs (S zs)))) (hs : sortedS ys = true) : ys = ks.map fun k => S [k] := by
  have nz : zs.Nodup := pm.nodup_iff.mpr (nodup_up up)
  refine sorted_is (fun k => S [k]) (fun k => k) lt_k1 (fun _ _ e => e) py (allT_nodup _) hs (fun y hy => ?_) up (fun a => ?_)
  · rw [allT_mem, signs_S, List.mem_map] at hy
    obtain ⟨a, _, e⟩ := hy
    exact ⟨a, e.symm⟩
  · rw [allT_mem, signs_S, List.mem_map]
    constructor
    · rintro ⟨b, hb, e⟩
      have e2 := (List.cons.inj (S_inj e)).1
      rw [← e2]
      exact pm.mem_iff.mp hb
    · intro ha
      exact ⟨a, pm.mem_iff.mpr ha, rfl⟩
/-- the pairs, sorted -/
theorem sorted_pairs {ks : List Nat} {X : Nat → Nat → Bool} {es : List Str} {us ys : List Str} (up : ks.Pairwise (· < ·)) (abc : ∀ k ∈ ks, k < 1000) (cr : Crossing X)
    (hus : us.length = es.length) (hu : ∀ i (h : i < es.length), ∃ a b, es[i] = S [a, b] ∧ us[i]? = some (S (upL a b)))
    (he : ∀ e ∈ es, ∃ a b, e = S [a, b] ∧ a ∈ ks ∧ b ∈ ks ∧ X a b = true) (hall : ∀ a b, a ∈ ks → b ∈ ks → a < b → X a b = true → S [a, b] ∈ es ∨ S [b, a] ∈ es)
    (py : ys.Perm (allT us)) (hs : sortedS ys = true) : ys = prs ks X := by
  have hin : ∀ y, y ∈ us ↔ y ∈ prs ks X := by
    intro y
    constructor
    · intro hy
      obtain ⟨i, hi, e⟩ := List.getElem_of_mem hy
      rw [hus] at hi
      obtain ⟨a, b, e1, e2⟩ := hu i hi
      have e3 : y = S (upL a b) := by
        rw [List.getElem?_eq_getElem (by rw [hus]; exact hi)] at e2
        rw [← e]
        exact Option.some.inj e2
      obtain ⟨a', b', e4, h1, h2, h3⟩ := he es[i] (List.getElem_mem hi)
      rw [e1] at e4
      have e5 := List.cons.inj (S_inj e4)
      have e6 := (List.cons.inj e5.2).1
      rw [← e5.1] at h1 h3
      rw [← e6] at h2 h3
      rw [e3]
      unfold upL
      by_cases c : a < b
      · rw [if_pos c, mem_prs]
        exact ⟨h1, h2, c, h3⟩
      · rw [if_neg c, mem_prs]
        have ne := cr.ne h3
        rw [cr.sym] at h3
        exact ⟨h2, h1, by omega, h3⟩
    · intro hy
      have hy' := hy
      rw [← prL_map ks X abc, List.mem_map] at hy'
      obtain ⟨p, _, e⟩ := hy'
      obtain ⟨a, b, hb⟩ := p
      have e' : y = S [a, b] := e.symm
      rw [e'] at hy ⊢
      rw [mem_prs] at hy
      have key : ∀ c d : Nat, S [c, d] ∈ es → S (upL c d) ∈ us := by
        intro c d hm
        obtain ⟨i, hi, e1⟩ := List.getElem_of_mem hm
        obtain ⟨a', b', e2, e3⟩ := hu i hi
        rw [e1] at e2
        have e5 := List.cons.inj (S_inj e2)
        have e6 := (List.cons.inj e5.2).1
        rw [← e5.1, ← e6] at e3
        exact List.mem_of_getElem? e3
      rcases hall a b hy.1 hy.2.1 hy.2.2.1 hy.2.2.2 with z | z
      · have := key a b z
        unfold upL at this
        rw [if_pos hy.2.2.1] at this
        exact this
      · have := key b a z
        unfold upL at this
        rw [if_neg (by have := hy.2.2.1; omega)] at this
        exact this
  rw [← prL_map ks X abc]
  refine sorted_is fP kP lt_k2 inj_k2 py (allT_nodup _) hs (fun y hy => ?_) (prL_up up) (fun a => ?_)
  · rw [allT_mem, hin, ← prL_map ks X abc, List.mem_map] at hy
    obtain ⟨p, _, e⟩ := hy
    exact ⟨p, e.symm⟩
  · rw [allT_mem, hin]
    show S [a.1, a.2.val] ∈ prs ks X ↔ _
    rw [mem_prs, mem_prL]
theorem But.seqL {K : PySem.W.Frag} {H H' : Hp} {r a C dx : Addr} {fs : List (Str × V)} {xs : List V} (hr : H r = some (.ins C dx fs)) (e : But r H H') (h : SqL K H a xs) : SqL K H' a xs := by
  rcases h with (h | ⟨o, h⟩) | h
  · exact .inl (.inl (e _ _ (ne_of h hr (by intro z; cases z)) h))
  · exact .inl (.inr ⟨o, e _ _ (ne_of h hr (by intro z; cases z)) h⟩)
  · exact .inr h
theorem But.seqT {K : PySem.W.Frag} {H H' : Hp} {r a C dx : Addr} {fs : List (Str × V)} {xs : List V} (hr : H r = some (.ins C dx fs)) (e : But r H H') (h : SqT K H a xs) : SqT K H' a xs := by
  rcases h with (h | ⟨o, h⟩) | h
  · exact .inl (.inl (e _ _ (ne_of h hr (by intro z; cases z)) h))
  · exact .inl (.inr ⟨o, e _ _ (ne_of h hr (by intro z; cases z)) h⟩)
  · exact .inr h
theorem sameT {K : PySem.W.Frag} {H H' : Hp} {a : Addr} {xs : List V} (e : L2.Same H H') (h : SqT K H a xs) : SqT K H' a xs := by
  rcases h with (h | ⟨o, h⟩) | h
  · exact .inl (.inl (e _ _ h))
  · exact .inl (.inr ⟨o, e _ _ h⟩)
  · exact .inr h
/-- a walk over a list or a tuple that stands -/
theorem iter_seq {K : PySem.W.Frag} {σ : L2.St} {H : Hp} {c : Addr} {xs : List V} {i : Nat} (hσ : σ[i]? = some (some (.ref c))) (h : SqL K H c xs ∨ SqT K H c xs) {R : It → Hp → Prop}
    (hR : ∀ J, L2.Walk J xs.length (fun H' => (SqL K H c xs → SqL K H' c xs) ∧ (SqT K H c xs → SqT K H' c xs)) (YAt xs) → R J H) : iList K (tVar i) σ H R ∨ iTup K (tVar i) σ H R := by
  rcases h with h | h
  · exact .inl ⟨_, hσ, c, rfl, ⟨xs, h⟩, hR _ ((walk_list (K := K) (a := c) (xs := xs)).mono (fun H' z => z.1 h) fun _ _ _ _ _ _ y => y)⟩
  · exact .inr ⟨_, hσ, c, rfl, ⟨xs, h⟩, hR _ ((walk_tup (K := K) (a := c) (xs := xs)).mono (fun H' z => z.2 h) fun _ _ _ _ _ _ y => y)⟩
section
variable {P : Program} {w : World} {K : PySem.W.Frag} {mg : Str → Option Value} {base : Heap} {C CR : Addr}
abbrev nPlan : List Str := ["self", "kinds", "crossing", "entry", "kind"]
theorem sc_planinit : FnScope nPlan ["self", "kinds", "crossing"] (defScope s_Plan_init) := ⟨rfl, rfl, rfl, by decide +kernel, rfl, by decide +kernel, by decide +kernel⟩
theorem ok_planbody {f : Addr} {fd : FuncData} {dv : List V} (F : FunD K "__init__" "Plan.__init__" (defArgs s_Plan_init) (defBody s_Plan_init) (defScope s_Plan_init) dv [] f fd) (T : PlanT K C)
    (zl : mg "len" = none) (zt : mg "set" = none) (zo : mg "sorted" = none) (zu : mg "tuple" = none) (gM : ∃ t, mg "MOST_KINDS" = some (.int 8 t))
    (cL : C8.Cal P w K mg base 1 "are_letters" spLetters []) (cP : C8.Cal P w K mg base 1 "is_pair" (spIsPair K) []) (cU : C8.Cal P w K mg base 1 "upright" spUpright []) (cA : C8.Cal P w K mg base 2 "kinds_across" spAcross []) (cB : C8.Cal P w K mg base 1 "kinds_before" spBefore []) :
    FnOk P w K mg base C8.CX0 3 f fd ["self", "kinds", "crossing"] (spPlanInit K C) := by
  obtain ⟨tM, gM⟩ := gM
  refine F.ok sc_planinit (fun vs H Q E h => ?_) (fun cdv A outer s H vs Q E hr h => ?_)
  · obtain ⟨r, dx, c, zs, ks, X, es, rfl, _⟩ := h
    rfl
  · obtain ⟨r, dx, c, zs, ks, X, es, rfl, hr0, pm, up, abc, few, cr, hes, h64, he, hall, q⟩ := h
    have hu := hu_of hr
    have nz : zs.Nodup := pm.nodup_iff.mpr (nodup_up up)
    have lz : zs.length = ks.length := pm.length_eq
    refine ⟨_, PSs.nox (pss_cons (ps_if (pt_not (pt_val (C8.pe_c cL hr (by decide) (by rfl) (pa_cons (pv 1) pa_nil)))) (pss_one ps_never) pss_nil)
      (pss_cons (ps_for PassesOwn.never rfl (pi_or (pi_list (pv 2)) (pi_tup (pv 2))) (pg_name (i := 3) sc_planinit.nd rfl (.inl rfl))
        (pss_one (ps_if (pt_not (pt_val (C8.pe_c cP hr (by decide) (by rfl) (pa_cons (pv 1) (pa_cons (pv 3) pa_nil))))) (pss_one ps_never) pss_nil)))
      (pss_cons (ps_if (pt_cmpR op_gt (pe_callB call_len_str (by rfl) zl PySem.boot_len (pa_cons (pv 1) pa_nil)) (C8.pe_gc (v := .int 8) (by rfl) ⟨_, gM, ⟨tM, rfl⟩⟩) (nomark _)) (pss_one ps_never) pss_nil)
      (pss_cons (ps_fld (pv 0) (pe_join pe_str (pe_callB (cr_sortST rfl) (by rfl) zo (by decide +kernel) (pa_cons (pe_callTy (cr_setTxt rfl) (by rfl) zt PyProof.Rows.boot_set (pa_cons (pv 1) pa_nil)) pa_nil))) rfl)
      (pss_cons (ps_fld (pv 0) (pe_callTy call_tuple_of (by rfl) zu (by decide +kernel) (pa_cons (pe_callB (cr_sortST rfl) (by rfl) zo (by decide +kernel) (pa_cons (pe_callTy (cr_setLst rfl) (by rfl) zt PyProof.Rows.boot_set (pa_cons
        (pe_lc (own := [("entry", 3)]) (g := gName 3) rfl sc_planinit.nd (pi_or (pi_list (pv 2)) (pi_tup (pv 2))) (blkOk_by (own := [("entry", 3)]) (N := nPlan) (sc := defScope s_Plan_init) (by decide +kernel))
          (fun _ _ _ _ _ => pg_name (i := 3) sc_planinit.nd rfl (.inl rfl)) (fun _ _ _ _ _ => pts_nil) (fun _ _ _ _ _ => C8.pe_c cU hr (by decide) (by rfl) (pa_cons (pv 3) pa_nil))) pa_nil)) pa_nil)) pa_nil)) rfl)
      (pss_cons (ps_fld (pv 0) (pe_dc (own := [("kind", 4)]) (g := gName 4) (tv := tCall spAcross [] C8.E0 (tCons (tFld K (tVar 0) "kinds") (tCons (tFld K (tVar 0) "pairs") (tCons (tVar 4) tNil)))) rfl sc_planinit.nd (pi_str (pe_fld (pv 0) rfl)) (blkOk_by (own := [("kind", 4)]) (N := nPlan) (sc := defScope s_Plan_init) (by decide +kernel))
          (fun _ _ _ _ _ => pg_name (i := 4) sc_planinit.nd rfl (.inl rfl)) (fun _ _ _ _ _ => pts_nil) (fun _ _ _ _ _ => pv 4) (fun _ _ _ _ _ => by exact C8.pe_c cA hr (by decide) (by rfl) (pa_cons (pe_fld (pv 0) rfl) (pa_cons (pe_fld (pv 0) rfl) (pa_cons (pv 4) pa_nil))))) rfl)
      (pss_one (ps_fld (pv 0) (pe_dc (own := [("kind", 4)]) (g := gName 4) (tv := tCall spBefore [] C8.E0 (tCons (tDGet (tFld K (tVar 0) "across") (tVar 4)) (tCons (tVar 4) tNil))) rfl sc_planinit.nd (pi_str (pe_fld (pv 0) rfl)) (blkOk_by (own := [("kind", 4)]) (N := nPlan) (sc := defScope s_Plan_init) (by decide +kernel))
          (fun _ _ _ _ _ => pg_name (i := 4) sc_planinit.nd rfl (.inl rfl)) (fun _ _ _ _ _ => pts_nil) (fun _ _ _ _ _ => pv 4) (fun _ _ _ _ _ => by exact C8.pe_c cB hr (by decide) (by rfl) (pa_cons (pe_dget hu (pe_fld (pv 0) rfl) (pv 4) (fun _ _ => rfl)) (pa_cons (pv 4) pa_nil)))) rfl)))))))), ?_⟩
    -- letters
    refine ⟨_, rfl, zs, rfl, nz, fun k hk => abc k (pm.mem_iff.mp hk), by omega, fun H1 s1 => ⟨_, rfl, iteF ?_⟩⟩
    have hr1 : H1 r = some (.ins C dx []) := s1 _ _ hr0
    have hes1 : SqL K H1 c (es.map V.str) ∨ SqT K H1 c (es.map V.str) := hes.imp (s1.seq) (sameT s1)
    -- pairs
    refine iter_seq rfl hes1 fun J wk => ?_
    refine for_it wk (fun i σ H' => ∃ v, σ = [some (.ref r), some (.str (S zs)), some (.ref c), v, none] ∧ H' = H1) ⟨none, rfl, rfl⟩ (fun i σ H' _ ⟨v, _, e⟩ => by subst e; exact ⟨id, id⟩) ?_ ?_
    · rintro i x σ H' H2 hi ⟨v, rfl, rfl⟩ ⟨rfl, hx⟩
      rw [List.length_map] at hi
      have ex : x = V.str es[i] := by
        rw [List.getElem?_map, List.getElem?_eq_getElem hi] at hx
        exact (Option.some.inj hx).symm
      obtain ⟨a, b, e1, ha, hb, hX⟩ := he es[i] (List.getElem_mem hi)
      rw [e1] at ex
      subst ex
      refine ⟨_, rfl, _, rfl, zs, a, b, rfl, cr.ne hX, pm.mem_iff.mpr ha, pm.mem_iff.mpr hb, _, rfl, iteF ?_⟩
      exact ⟨_, rfl, rfl⟩
    rintro σ H' ⟨v, rfl, rfl⟩
    -- few enough
    have ew : (cxOf C8.CX0 P w K mg base nPlan "Plan.__init__" (defScope s_Plan_init) f cdv A outer s H E).nox.w = w := rfl
    refine ⟨_, rfl, _, rfl, (by rw [S_len]; exact len_line (by omega)), _, _, rfl, rfl, _, rfl, ?_⟩
    have e8 : decide ((8 : Int) < ((S zs).length : Int)) = false := by
      rw [S_len]
      exact decide_eq_false (by omega)
    rw [e8]
    refine iteF ?_
    -- self.kinds
    refine ⟨⟨_, rfl⟩, _, rfl, _, rfl, (by rw [S_len]; unfold scanBound; omega), fun p1 n1 => ?_⟩
    have lT : (allT (signs (S zs))).length < 64 := by
      rw [allT_length (nodup_signs nz), signs_S, List.length_map]
      omega
    refine ⟨p1, _, rfl, upd_same, lT, fun ys p2 py so n2 => ?_⟩
    have ey := sorted_kinds pm up py so
    subst ey
    refine ⟨_, _, ks.map fun k => S [k], rfl, rfl, .inl (SqL.of upd_same), ?_, ?_⟩
    · rw [List.length_map, List.map_map, sum_ones, empty_S, S_len]
      simp only [List.length_nil]
      omega
    rw [empty_S, S_join1]
    rw [ew] at n2 ⊢
    have b1 : But r H' (upd (upd H' p1 (STO w p1 (allT (signs (S zs))))) p2 (.lst ((ks.map fun k => S [k]).map V.str))) := (But.new n1).trans (But.new n2)
    have g1 : (upd (upd H' p1 (STO w p1 (allT (signs (S zs))))) p2 (.lst ((ks.map fun k => S [k]).map V.str))) r = some (.ins C dx []) := by
      have n2' : H' p2 = none := L2.Same.free (same_new n1) n2
      rw [upd_ne (ne_of_none hr1 n2'), upd_ne (ne_of_none hr1 n1)]
      exact hr1
    generalize (upd (upd H' p1 (STO w p1 (allT (signs (S zs))))) p2 (.lst ((ks.map fun k => S [k]).map V.str))) = H2 at b1 g1 ⊢
    refine ⟨_, rfl, r, C, dx, [], rfl, g1, T.cl, T.nk, (by show 0 < 1000; decide), ?_⟩
    rw [put1]
    have b2 : But r H' (upd H2 r (.ins C dx (f1 ks))) := b1.trans But.at
    have g2 : (upd H2 r (.ins C dx (f1 ks))) r = some (.ins C dx (f1 ks)) := upd_same
    generalize (upd H2 r (.ins C dx (f1 ks))) = H3 at b2 g2 ⊢
    have hes3 : SqL K H3 c (es.map V.str) ∨ SqT K H3 c (es.map V.str) := hes1.imp (b2.seqL hr1) (b2.seqT hr1)
    -- self.pairs
    refine iter_seq rfl hes3 fun J2 wk2 => ?_
    intro D nD
    have upEx : ∃ us : List Str, us.length = es.length ∧ ∀ i (h : i < es.length), ∃ a b, es[i] = S [a, b] ∧ us[i]? = some (S (upL a b)) := by
      have gen : ∀ l : List Str, (∀ e ∈ l, ∃ a b, e = S [a, b] ∧ a ∈ ks ∧ b ∈ ks ∧ X a b = true) → ∃ us : List Str, us.length = l.length ∧ ∀ i (h : i < l.length), ∃ a b, l[i] = S [a, b] ∧ us[i]? = some (S (upL a b)) := by
        intro l
        induction l with
        | nil => exact fun _ => ⟨[], rfl, fun i h => absurd h (Nat.not_lt_zero i)⟩
        | cons e l ih =>
          intro h
          obtain ⟨us, h1, h2⟩ := ih fun e he => h e (List.mem_cons_of_mem _ he)
          obtain ⟨a, b, ea, _⟩ := h e List.mem_cons_self
          refine ⟨S (upL a b) :: us, by rw [List.length_cons, List.length_cons, h1], fun i hi => ?_⟩
          cases i with
          | zero => exact ⟨a, b, ea, rfl⟩
          | succ i =>
            obtain ⟨a', b', e1, e2⟩ := h2 i (Nat.lt_of_succ_lt_succ hi)
            exact ⟨a', b', e1, e2⟩
      exact gen es he
    obtain ⟨us, lus, hus⟩ := upEx
    refine lc_it wk2 (fun i H4 => H4 D = some (.lst ((us.take i).map V.str)) ∧ L2.Same H3 H4) ⟨upd_same, same_new nD⟩ (fun i H4 _ z => ⟨z.2.seq, sameT z.2⟩) ?_ ?_
    · rintro i x H4 H5 hi ⟨hl, sm⟩ ⟨rfl, hx⟩
      rw [List.length_map] at hi
      obtain ⟨a, b, e1, e2⟩ := hus i hi
      have ex : x = V.str (S [a, b]) := by
        rw [List.getElem?_map, List.getElem?_eq_getElem hi, e1] at hx
        exact (Option.some.inj hx).symm
      subst ex
      refine ⟨rfl, _, rfl, a, b, rfl, _, hl, (by rw [List.length_map, List.length_take]; exact len_lt (by omega)), ?_, fun q o e => ?_⟩
      · rw [upd_same, take_one e2, List.map_append]
        rfl
      · rw [upd_ne (ne_of_none e nD)]
        exact sm q o e
    rintro H4 ⟨hl, sm4⟩
    rw [List.length_map, ← lus, List.take_length] at hl
    refine ⟨D, us, rfl, SqL.of hl, (by unfold scanBound; omega), fun p3 n3 => ?_⟩
    have lU : (allT us).length < 64 := Nat.lt_of_le_of_lt (allT_len us) (by omega)
    refine ⟨p3, _, rfl, upd_same, lU, fun ys p4 py so n4 => ?_⟩
    have ey := sorted_pairs up (fun k hk => by have := abc k hk; omega) cr lus hus he hall py so
    subst ey
    refine ⟨p4, _, rfl, .inl ⟨SqL.of upd_same, fun tp n5 => ?_⟩⟩

    have b4 : L2.Same H3 (upd (upd (upd H4 p3 (STO w p3 (allT us))) p4 (.lst ((prs ks X).map V.str))) tp (.tup ((prs ks X).map V.str))) := ((sm4.trans (same_new n3)).trans (same_new n4)).trans (same_new n5)
    have ht4 : (upd (upd (upd H4 p3 (STO w p3 (allT us))) p4 (.lst ((prs ks X).map V.str))) tp (.tup ((prs ks X).map V.str))) tp = some (.tup ((prs ks X).map V.str)) := upd_same
    generalize (upd (upd (upd H4 p3 (STO w p3 (allT us))) p4 (.lst ((prs ks X).map V.str))) tp (.tup ((prs ks X).map V.str))) = H5 at b4 ht4 ⊢
    have g5 := b4 _ _ g2
    refine ⟨_, rfl, r, C, dx, _, rfl, g5, T.cl, T.np, (by show 1 < 1000; decide), ?_⟩
    rw [put2]
    have ntp : tp ≠ r := ne_of ht4 g5 (by intro z; cases z)
    have b6 : But r H' (upd H5 r (.ins C dx (f2 ks tp))) := (b2.trans (But.of b4)).trans But.at
    have g6 : (upd H5 r (.ins C dx (f2 ks tp))) r = some (.ins C dx (f2 ks tp)) := upd_same
    have ht6 : (upd H5 r (.ins C dx (f2 ks tp))) tp = some (.tup ((prs ks X).map V.str)) := by rw [upd_ne ntp]; exact ht4
    generalize (upd H5 r (.ins C dx (f2 ks tp))) = H6 at b6 g6 ht6 ⊢
    -- self.across
    refine ⟨_, rfl, r, C, dx, _, _, rfl, g6, T.cl, T.nk, look2 _ _, _, rfl, fun da nda => ?_⟩
    refine dc_it walk_str (fun i H7 => H7 da = some (.dK (kvK (ks.take i) (acr ks X))) ∧ L2.Same H6 H7) ⟨upd_same, same_new nda⟩ (fun _ _ _ _ => trivial) ?_ ?_
    · rintro i x H7 H8 hi ⟨hl7, sm7⟩ ⟨rfl, k, hk, rfl⟩
      have hk' := getS hk
      have hin : k ∈ ks := List.mem_of_getElem? hk'
      rw [sizeS] at hi
      refine ⟨rfl, _, rfl, _, rfl, r, C, dx, _, _, rfl, sm7 _ _ g6, T.cl, T.nk, look2 _ _, _, rfl, r, C, dx, _, _, rfl, sm7 _ _ g6, T.cl, T.np, look2p _ _, _, rfl, ks, X, tp, k, rfl, sm7 _ _ ht6, cr, hin, by omega, fun H9 s9 => ?_⟩
      refine ⟨_, Sum.inr (S [k]), rfl, s9 _ _ hl7, ?_, ?_, fun q o e => ?_⟩
      · unfold kvK
        rw [List.length_map, List.length_take]
        exact len_lt (by omega)
      · rw [upd_same, kvK_more hk' (nodup_up up)]
      · rw [upd_ne (ne_of_none e nda)]
        exact s9 _ _ (sm7 q o e)
    rintro H7 ⟨hl7, sm7⟩
    rw [sizeS, List.take_length] at hl7
    have g7 := sm7 _ _ g6
    refine ⟨_, rfl, r, C, dx, _, rfl, g7, T.cl, T.na, (by show 2 < 1000; decide), ?_⟩
    rw [put3]
    have nda' : da ≠ r := ne_of hl7 g7 (by intro z; cases z)
    have b8 : But r H' (upd H7 r (.ins C dx (f3 ks tp da))) := (b6.trans (But.of sm7)).trans But.at
    have g8 : (upd H7 r (.ins C dx (f3 ks tp da))) r = some (.ins C dx (f3 ks tp da)) := upd_same
    have ht8 : (upd H7 r (.ins C dx (f3 ks tp da))) tp = some (.tup ((prs ks X).map V.str)) := by rw [upd_ne ntp]; exact sm7 _ _ ht6
    have ha8 : (upd H7 r (.ins C dx (f3 ks tp da))) da = some (.dK (kvK ks (acr ks X))) := by rw [upd_ne nda']; exact hl7
    generalize (upd H7 r (.ins C dx (f3 ks tp da))) = H8 at b8 g8 ht8 ha8 ⊢
    -- self.lesser
    refine ⟨_, rfl, r, C, dx, _, _, rfl, g8, T.cl, T.nk, look3 _ _ _, _, rfl, fun dl ndl => ?_⟩
    refine dc_it walk_str (fun i H9 => H9 dl = some (.dK (kvK (ks.take i) (les ks X))) ∧ L2.Same H8 H9) ⟨upd_same, same_new ndl⟩ (fun _ _ _ _ => trivial) ?_ ?_
    · rintro i x H9 HA hi ⟨hl9, sm9⟩ ⟨rfl, k, hk, rfl⟩
      have hk' := getS hk
      have hin : k ∈ ks := List.mem_of_getElem? hk'
      rw [sizeS] at hi
      have gd : DGet HA da (.str (S [k])) (some (.str (S (acr ks X k)))) := by
        have z := DGet.k (k := Sum.inr (S [k])) (sm9 _ _ ha8)
        rw [valV_kv hin] at z
        exact z
      have la : (acr ks X k).length ≤ ks.length := List.length_filter_le _ _
      refine ⟨rfl, _, rfl, _, rfl, r, C, dx, _, _, rfl, sm9 _ _ g8, T.cl, T.na, look3a _ _ _, _, rfl, da, _, rfl, gd, _, rfl, acr ks X k, k, rfl, by omega, fun HB sB => ?_⟩
      refine ⟨_, Sum.inr (S [k]), rfl, sB _ _ hl9, ?_, ?_, fun q o e => ?_⟩
      · unfold kvK
        rw [List.length_map, List.length_take]
        exact len_lt (by omega)
      · have e9 : (acr ks X k).filter (fun c => decide (c < k)) = les ks X k := rfl
        rw [upd_same, e9, kvK_more hk' (nodup_up up)]
      · rw [upd_ne (ne_of_none e ndl)]
        exact sB _ _ (sm9 q o e)
    rintro H9 ⟨hl9, sm9⟩
    rw [sizeS, List.take_length] at hl9
    have g9 := sm9 _ _ g8
    refine ⟨_, rfl, r, C, dx, _, rfl, g9, T.cl, T.nl, (by show 3 < 1000; decide), ?_⟩
    rw [put4]
    have ndl' : dl ≠ r := ne_of hl9 g9 (by intro z; cases z)
    refine q _ ((But.of s1).trans ((b8.trans (But.of sm9)).trans But.at)) ⟨by omega, up, cr, abc, dx, tp, da, dl, upd_same, ?_, .inl ?_, .inl ?_⟩
    · rw [upd_ne ntp]
      exact sm9 _ _ ht8
    · rw [upd_ne nda']
      exact sm9 _ _ ha8
    · rw [upd_ne ndl']
      exact hl9
end
end TX
end
section
set_option maxRecDepth 100000
set_option maxHeartbeats 4000000
/-! the law's draws -/
namespace TX
open PySem PySem.Spec PyProof.Rows L2 SX CW
def pkv (c : Addr) (pl r : Int) : List (Key × V) := [(Sum.inr "cells", .ref c), (Sum.inr "spot", .int pl), (Sum.inr "rest", .int r)]
/-- the pen: begun at most n cells -/
structure PenAt (H : Hp) (p c : Addr) (n : Nat) : Prop where
  ex : ∃ (pl : Nat) (r : Int) (cs : List Int), H p = some (.dK (pkv c pl r)) ∧ H c = some (.lst (cs.map V.int)) ∧ pl ≤ n ∧ 0 ≤ r ∧ cs.length ≤ 63
theorem PenAt.mono {H : Hp} {p c : Addr} {n m : Nat} (h : PenAt H p c n) (l : n ≤ m) : PenAt H p c m := by
  obtain ⟨pl, r, cs, h1, h2, h3, h4, h5⟩ := h.ex
  exact ⟨pl, r, cs, h1, h2, by omega, h4, h5⟩
theorem PenAt.same {H H' : Hp} {p c : Addr} {n : Nat} (h : PenAt H p c n) (k : L2.Same H H') : PenAt H' p c n := by
  obtain ⟨pl, r, cs, h1, h2, h3, h4, h5⟩ := h.ex
  exact ⟨pl, r, cs, k _ _ h1, k _ _ h2, h3, h4, h5⟩
theorem valV_cons {a k : Key} {v : V} {r : List (Key × V)} : valV ((a, v) :: r) k = if a = k then some v else valV r k := by
  unfold valV
  rw [List.find?_cons]
  by_cases h : a = k
  · rw [if_pos h]
    have : decide ((a, v).1 = k) = true := decide_eq_true h
    rw [this]
    rfl
  · rw [if_neg h]
    have : decide ((a, v).1 = k) = false := decide_eq_false h
    rw [this]
theorem kcp : ¬ ((Sum.inr ("cells" : Str) : Key) = Sum.inr ("spot" : Str)) := by decide +kernel
theorem kcr : ¬ ((Sum.inr ("cells" : Str) : Key) = Sum.inr ("rest" : Str)) := by decide +kernel
theorem kpr : ¬ ((Sum.inr ("spot" : Str) : Key) = Sum.inr ("rest" : Str)) := by decide +kernel
theorem pk_cells (c : Addr) (pl r : Int) : valV (pkv c pl r) (Sum.inr "cells") = some (.ref c) := by
  unfold pkv
  rw [valV_cons, if_pos rfl]
theorem pk_place (c : Addr) (pl r : Int) : valV (pkv c pl r) (Sum.inr "spot") = some (.int pl) := by
  unfold pkv
  rw [valV_cons, if_neg kcp, valV_cons, if_pos rfl]
theorem pk_rest (c : Addr) (pl r : Int) : valV (pkv c pl r) (Sum.inr "rest") = some (.int r) := by
  unfold pkv
  rw [valV_cons, if_neg kcr, valV_cons, if_neg kpr, valV_cons, if_pos rfl]
theorem put_rest (c : Addr) (pl r r' : Int) : putK (pkv c pl r) (Sum.inr "rest") (.int r') = pkv c pl r' := by
  unfold putK pkv
  simp only [List.any_cons, List.any_nil, decide_eq_false kcr, decide_eq_false kpr, decide_eq_true, Bool.false_or, Bool.or_false, List.map_cons, List.map_nil, if_neg kcr, if_neg kpr, if_true]
theorem put_place (c : Addr) (pl r pl' : Int) : putK (pkv c pl r) (Sum.inr "spot") (.int pl') = pkv c pl' r := by
  unfold putK pkv
  have k2 : ¬ ((Sum.inr ("rest" : Str) : Key) = Sum.inr ("spot" : Str)) := fun z => kpr z.symm
  simp only [List.any_cons, List.any_nil, decide_eq_false kcp, decide_eq_false k2, decide_eq_true, Bool.false_or, Bool.or_false, Bool.true_or, List.map_cons, List.map_nil, if_neg kcp, if_neg k2, if_true]
theorem sh_flat (ds : List PyData) (h : ∀ d ∈ ds, PyData.canLay0 d = true ∧ PyData.depth d ≤ 60) : PySem.SeqAt.shaped (.list ds) = true := by
  have h1 : ∀ cs : List PyData, (∀ d ∈ cs, PyData.canLay0 d = true ∧ PyData.depth d ≤ 60) → PyData.canLayAll0 cs = true ∧ PyData.depthAll cs ≤ 60 := by
    intro cs
    induction cs with
    | nil => exact fun _ => ⟨rfl, by show 0 ≤ 60; omega⟩
    | cons a cs ih =>
      intro h
      obtain ⟨i1, i2⟩ := ih fun d hd => h d (List.mem_cons_of_mem _ hd)
      obtain ⟨a1, a2⟩ := h a List.mem_cons_self
      constructor
      · show (PyData.canLay0 a && PyData.canLayAll0 cs) = true
        rw [a1, i1]
        rfl
      · show max (PyData.depth a) (PyData.depthAll cs) ≤ 60
        omega
  obtain ⟨a, b⟩ := h1 ds h
  show (PyData.canLayAll0 ds && decide (PyData.depth (.list ds) ≤ 64)) = true
  rw [a]
  have : PyData.depth (.list ds) = PyData.depthAll ds + 1 := rfl
  rw [this]
  simp
  omega
theorem sh_ints (cs : List Int) : PySem.SeqAt.shaped (.list (cs.map PyData.int)) = true := by
  refine sh_flat _ fun d hd => ?_
  obtain ⟨i, _, rfl⟩ := List.mem_map.mp hd
  exact ⟨rfl, by show (0 : Nat) ≤ 60 ; omega⟩
theorem dp_ints {K : PySem.W.Frag} {H : Hp} : ∀ cs : List Int, DpAll K H (cs.map V.int) (cs.map PyData.int)
  | [] => .nil
  | _ :: cs => .cons (.int _) (dp_ints cs)
theorem eqv_nil (cs : List Int) : PyData.eqv (.list (cs.map PyData.int)) (.list []) = decide (cs = []) := by
  cases cs with
  | nil => rfl
  | cons a cs => rfl
theorem sh_ones (cs : List Nat) (h : ∀ c ∈ cs, c < 1114112) : PySem.SeqAt.shaped (.list ((cs.map fun c => S [c]).map PyData.str)) = true := by
  refine sh_flat _ fun d hd => ?_
  obtain ⟨i, hi, rfl⟩ := List.mem_map.mp hd
  obtain ⟨c, hc, rfl⟩ := List.mem_map.mp hi
  refine ⟨?_, by show (0 : Nat) ≤ 60 ; omega⟩
  show ([c].toArray.all fun x => decide (x < 1114112)) = true
  simpa using h c hc
theorem dp_strs {K : PySem.W.Frag} {H : Hp} : ∀ cs : List Str, DpAll K H (cs.map V.str) (cs.map PyData.str)
  | [] => .nil
  | _ :: cs => .cons (.str _) (dp_strs cs)
theorem eqv_nils (cs : List Str) : PyData.eqv (.list (cs.map PyData.str)) (.list []) = decide (cs = []) := by
  cases cs with
  | nil => rfl
  | cons a cs => rfl
theorem iteJ {α : Type} {c T E : Prop} [Decidable c] {G : α → Prop} (a : α) (e : G a = E) (t : c → (∀ z, G z) → T) (h : ∀ z, G z) : if c then T else E := by
  subst e
  by_cases x : c
  · rw [if_pos x]
    exact t x h
  · rw [if_neg x]
    exact h a
/-- _law_draw(pen, number) -/
def spDraw : Sp := fun vs H Q _ => ∃ (p c : Addr) (m n : Nat), vs = [.ref p, .int n] ∧ PenAt H p c m ∧ 0 < n ∧ n < 1073741824 ∧ m ≤ 100000000 ∧
  ∀ (d : Nat) (H' : Hp), d < n → PenAt H' p c (m + 1) → But p H H' → Q (.int d) H'
section
variable {P : Program} {w : World} {K : PySem.W.Frag} {mg : Str → Option Value} {base : Heap}
abbrev nDraw : List Str := ["_law_pen_here", "_law_many", "_law_digit", "_law_spot", "_law_cell", "_law_mixed"]
theorem sc_draw : FnScope nDraw ["_law_pen_here", "_law_many"] (defScope s_law_draw) := ⟨rfl, rfl, rfl, by decide +kernel, rfl, by decide +kernel, by decide +kernel⟩
theorem ok_draw (F : D K mg "_law_draw" s_law_draw []) (zi : mg "int" = none) (zl : mg "len" = none) : C8.Cal P w K mg base 1 "_law_draw" spDraw [] := by
  refine F.cal (ps := ["_law_pen_here", "_law_many"]) sc_draw (fun f fd F => F.bindsN fun _ _ _ _ _ _ us hl => match us, hl with | [_, _], _ => rfl) (fun vs H Q E h => ?_) (fun f cdv A outer s H vs Q E hr h => ?_)
  · obtain ⟨p, c, m, n, rfl, _⟩ := h
    rfl
  · obtain ⟨p, c, m, n, rfl, hp, n0, n1, hm, q⟩ := h
    have hu := hu_of hr
    refine ⟨_, pss_cons (ps_if (pt_cmpR op_ge (pe_dget hu (pv 0) pe_str (fun _ _ => rfl)) (pv 1) (nomark _))
        (pss_cons (ps_set (i := 2) sc_draw.nd rfl (.inl rfl) (pe_op op_mod (pe_callTy call_int1 (by rfl) zi (by decide +kernel) (pa_cons (pe_dget hu (pv 0) pe_str (fun _ _ => rfl)) pa_nil)) (pv 1)))
        (pss_cons (ps_dput hu (pv 0) pe_str (pe_op op_fdiv (pe_dget hu (pv 0) pe_str (fun _ _ => rfl)) (pv 1)) rfl)
        (pss_one (ps_ret (pv 2))))) pss_nil)
      (pss_cons (ps_set (i := 3) sc_draw.nd rfl (.inl rfl) (pe_dget hu (pv 0) pe_str (fun _ _ => rfl)))
      (pss_cons (ps_dput hu (pv 0) pe_str (pe_op op_add (pv 3) pe_int) rfl)
      (pss_cons (ps_set (i := 4) sc_draw.nd rfl (.inl rfl) (pe_op op_add (pe_op op_mul pe_int (pv 3)) pe_int))
      (pss_cons (ps_if (pt_cmpR (op_neD hr.units) (pe_dget hu (pv 0) pe_str (fun _ _ => rfl)) (pe_lst pa_nil) (nomark _))
        (pss_one (ps_set (i := 4) sc_draw.nd rfl (.inl rfl) (pe_ix ix_list (pe_dget hu (pv 0) pe_str (fun _ _ => rfl)) (pe_op op_mod (pe_callTy call_int1 (by rfl) zi (by decide +kernel) (pa_cons (pv 3) pa_nil)) (pe_callB call_len_seq (by rfl) zl PySem.boot_len (pa_cons (pe_dget hu (pv 0) pe_str (fun _ _ => rfl)) pa_nil))) (fun _ _ => rfl)))) pss_nil)
      (pss_cons (ps_if (PW.pt (pw_and (pt_cmpR op_lt (pv 3) (pe_callB call_len_seq (by rfl) zl PySem.boot_len (pa_cons (pe_dget hu (pv 0) pe_str (fun _ _ => rfl)) pa_nil)) (nomark _))
            (pw_and1 (pt_cmpR op_ge (pv 4) (pe_op op_pow pe_int pe_int) (nomark _)))))
        (pss_cons (ps_dput hu (pv 0) pe_str (pe_op op_fdiv (pe_op op_sub (pv 4) (pe_op op_pow pe_int pe_int)) (pv 1)) rfl)
        (pss_one (ps_ret (pe_op op_mod (pe_callTy call_int1 (by rfl) zi (by decide +kernel) (pa_cons (pe_op op_sub (pv 4) (pe_op op_pow pe_int pe_int)) pa_nil)) (pv 1))))) pss_nil)
      (pss_cons (ps_set (i := 5) sc_draw.nd rfl (.inl rfl) (pe_op op_mul (pe_op op_mod (pe_callTy call_int1 (by rfl) zi (by decide +kernel) (pa_cons (pv 4) pa_nil)) pe_int) pe_int))
      (pss_cons (ps_set (i := 5) sc_draw.nd rfl (.inl rfl) (pe_op op_mod (pe_callTy call_int1 (by rfl) zi (by decide +kernel) (pa_cons
          (pe_op op_add (pe_op op_add (pe_op op_add (pv 5) (pe_op op_mul (pe_op op_mul pe_int (pv 3)) (pv 3))) (pe_op op_mul pe_int (pv 3))) pe_int) pa_nil)) pe_int))
      (pss_cons (ps_set (i := 5) sc_draw.nd rfl (.inl rfl) (pe_op op_mod (pe_callTy call_int1 (by rfl) zi (by decide +kernel) (pa_cons
          (pe_op op_mul (pv 5) (pe_op op_add (pv 5) pe_int)) pa_nil)) pe_int))
      (pss_one (ps_ret (pe_op op_mod (pe_callTy call_int1 (by rfl) zi (by decide +kernel) (pa_cons (pe_op op_fdiv (pe_op op_mod (pe_callTy call_int1 (by rfl) zi (by decide +kernel) (pa_cons
          (pe_op op_add (pe_op op_mul (pv 5) (pv 5)) (pe_op op_mul pe_int (pv 5))) pa_nil)) pe_int) pe_int) pa_nil)) (pv 1)))))))))))), ?_⟩
    obtain ⟨pl, r, cs, h1, h2, h3, h4, h5⟩ := hp.ex
    have gr : ∀ {G : Hp} {pl : Nat} {r : Int}, G p = some (.dK (pkv c pl r)) → DGet G p (.str "rest") (some (.int r)) := fun e => by
      have z := DGet.k (k := Sum.inr "rest") e
      rw [pk_rest] at z
      exact z
    have gp : ∀ {G : Hp} {pl : Nat} {r : Int}, G p = some (.dK (pkv c pl r)) → DGet G p (.str "spot") (some (.int pl)) := fun e => by
      have z := DGet.k (k := Sum.inr "spot") e
      rw [pk_place] at z
      exact z
    have gc : ∀ {G : Hp} {pl : Nat} {r : Int}, G p = some (.dK (pkv c pl r)) → DGet G p (.str "cells") (some (.ref c)) := fun e => by
      have z := DGet.k (k := Sum.inr "cells") e
      rw [pk_cells] at z
      exact z
    have ncp : c ≠ p := ne_of h2 h1 (by intro z; cases z)
    have nn : (0 : Int) < (n : Int) := by omega
    have cd : CDiv 0 (n : Int) := ⟨nn, by omega⟩
    have toN : ∀ i : Int, ∃ d : Nat, d < n ∧ i % (n : Int) = (d : Int) := fun i => by
      have a1 := Int.emod_nonneg i (b := (n : Int)) (by omega)
      have a2 := Int.emod_lt_of_pos i nn
      exact ⟨(i % (n : Int)).toNat, by omega, by omega⟩
    refine ⟨_, rfl, p, _, rfl, gr h1, _, rfl, _, _, rfl, rfl, _, rfl, ?_⟩
    refine ite2 (fun c1 => ?_) (fun _ => ?_)
    · refine ⟨_, rfl, p, _, rfl, gr h1, .inl ⟨_, rfl, _, rfl, _, _, rfl, rfl, nn, ?_⟩⟩
      refine ⟨_, rfl, p, _, rfl, gr h1, _, rfl, _, _, rfl, rfl, cd, _, rfl, ?_⟩
      refine ⟨p, _, rfl, DPut.k (k := Sum.inr "rest") h1 (by show 3 < sizeLine; exact len_lt (by omega)), ?_⟩
      rw [put_rest]
      obtain ⟨d, d1, d2⟩ := toN r
      refine ⟨_, rfl, ?_⟩
      have q2 := q d (upd H p (.dK (pkv c pl (r / n)))) d1 ⟨pl, _, cs, upd_same, by rw [upd_ne ncp]; exact h2, by omega, Int.ediv_nonneg h4 (by omega), h5⟩ But.at
      rw [← d2] at q2
      exact q2
    · refine ⟨_, rfl, p, _, rfl, gp h1, ?_⟩
      refine ⟨_, rfl, _, _, rfl, rfl, _, rfl, p, _, rfl, DPut.k (k := Sum.inr "spot") h1 (by show 3 < sizeLine; exact len_lt (by omega)), ?_⟩
      rw [put_place]
      have g1 : (upd H p (.dK (pkv c ((pl : Int) + 1) r))) p = some (.dK (pkv c ((pl + 1 : Nat) : Int) r)) := upd_same
      have gc1 : (upd H p (.dK (pkv c ((pl : Int) + 1) r))) c = some (.lst (cs.map V.int)) := by rw [upd_ne ncp]; exact h2
      have b1 : But p H (upd H p (.dK (pkv c ((pl : Int) + 1) r))) := But.at
      generalize (upd H p (.dK (pkv c ((pl : Int) + 1) r))) = H1 at g1 gc1 b1 ⊢
      refine ⟨_, rfl, _, _, rfl, rfl, .inl ⟨by decide, by decide⟩, _, _, rfl, rfl, ?_⟩
      -- if cells != []
      have lenc : (cs.map V.int).length = cs.length := List.length_map ..
      refine ⟨_, rfl, p, _, rfl, gc g1, (by show 0 ≤ sizeLine; exact Nat.zero_le _), fun l hl => ?_⟩
      have g2 : (upd H1 l (.lst [])) p = some (.dK (pkv c ((pl + 1 : Nat) : Int) r)) := same_new hl _ _ g1
      have gc2 : (upd H1 l (.lst [])) c = some (.lst (cs.map V.int)) := same_new hl _ _ gc1
      have b2 : But p H (upd H1 l (.lst [])) := b1.trans (But.of (same_new hl))
      have gl : (upd H1 l (.lst [])) l = some (.lst []) := upd_same
      generalize (upd H1 l (.lst [])) = H2 at g2 gc2 b2 gl ⊢
      refine ⟨_, _, .lst (SqL.of gc2) (dp_ints cs), .lst (SqL.of gl) .nil, sh_ints cs, sh_ints [], _, rfl, ?_⟩
      rw [eqv_nil]
      have mb1 : ∀ x : Int, -2 ^ 64 < x % 2147483269 ∧ x % 2147483269 < 2 ^ 64 := fun x => by omega
      have mb2 : ∀ x : Int, -2 ^ 64 < x % 2147483323 ∧ x % 2147483323 < 2 ^ 64 := fun x => by omega
      have mb3 : ∀ x : Int, -2 ^ 64 < x % 2147483353 ∧ x % 2147483353 < 2 ^ 64 := fun x => by omega
      have p1 : (0 : Int) < 2147483269 := by decide
      have p2 : (0 : Int) < 2147483323 := by decide
      have p3 : (0 : Int) < 2147483353 := by decide
      have p4 : (0 : Int) < 2147483399 := by decide
      have p5 : (0 : Int) < 16 := by decide
      have p6 : (16 : Int) < 1073741824 := by decide
      have bp : -2 ^ 64 < 52489 * (pl : Int) ∧ 52489 * (pl : Int) < 2 ^ 64 := by omega
      have fin1 : ∀ x : Int, Q (.int (x % (n : Int))) H2 := fun x => by
        obtain ⟨d, d1, d2⟩ := toN x
        rw [d2]
        exact q d _ d1 ⟨pl + 1, r, cs, g2, gc2, by omega, h4, h5⟩ b2
      have fin2 : ∀ x y : Int, 0 ≤ y → Q (.int (x % (n : Int))) (upd H2 p (.dK (pkv c ((pl + 1 : Nat) : Int) y))) := fun x y hy => by
        obtain ⟨d, d1, d2⟩ := toN x
        rw [d2]
        exact q d _ d1 ⟨pl + 1, y, cs, upd_same, by rw [upd_ne ncp]; exact gc2, by omega, hy, h5⟩ (b2.trans But.at)
      refine ite2 (fun c2 => ?ca) (fun c2 => ?cb)
      case' ca =>
        have ne : cs ≠ [] := by simpa using c2
        have l0 : 0 < cs.length := List.length_pos_iff.mpr ne
        have jlt : ((pl : Int) % ((cs.map V.int).length : Int)).toNat < cs.length := by
          rw [lenc]
          have a1 := Int.emod_nonneg (pl : Int) (b := (cs.length : Int)) (by omega)
          have a2 := Int.emod_lt_of_pos (pl : Int) (b := (cs.length : Int)) (by omega)
          omega
        have jeq : ((((pl : Int) % ((cs.map V.int).length : Int)).toNat : Nat) : Int) = (pl : Int) % ((cs.map V.int).length : Int) := by
          rw [lenc]
          have a1 := Int.emod_nonneg (pl : Int) (b := (cs.length : Int)) (by omega)
          omega
        have gat : atI (cs.map V.int) ((pl : Int) % ((cs.map V.int).length : Int)) = some (V.int (cs[((pl : Int) % ((cs.map V.int).length : Int)).toNat])) := by
          have z := atI_nat (j := ((pl : Int) % ((cs.map V.int).length : Int)).toNat) (xs := cs.map V.int) (v := V.int (cs[((pl : Int) % ((cs.map V.int).length : Int)).toNat])) (by rw [List.getElem?_map, List.getElem?_eq_getElem jlt]; rfl)
          exact (congrArg (atI (cs.map V.int)) jeq).symm.trans z
        refine ⟨_, rfl, p, _, rfl, gc g2, _, rfl, .inl ⟨_, rfl, _, rfl, p, _, rfl, gc g2, c, _, rfl, .inl (SqL.of gc2), _, _, rfl, rfl, (by rw [lenc]; omega), ?_⟩⟩
        refine ⟨c, _, _, .int (cs[((pl : Int) % ((cs.map V.int).length : Int)).toNat]), rfl, rfl, SqL.of gc2, gat, ?_⟩
      all_goals
        refine ⟨_, rfl, _, rfl, p, _, rfl, gc g2, c, _, rfl, .inl (SqL.of gc2), _, _, rfl, rfl, _, rfl, ?_⟩
        refine ite2 (fun c3 => ⟨_, rfl, _, _, rfl, rfl, ⟨by decide, by decide, by decide⟩, _, _, rfl, rfl, _, rfl, ite2 (fun c4 => ?_) (fun c4 => ?_)⟩) (fun c3 => iteF ?_)
        · refine ⟨_, rfl, _, _, rfl, rfl, ⟨by decide, by decide, by decide⟩, _, _, rfl, rfl, _, rfl, _, _, rfl, rfl, ⟨cd.1, cd.2⟩, _, rfl, p, _, rfl, DPut.k (k := Sum.inr "rest") g2 (by show 3 < sizeLine; exact len_lt (by omega)), ?_⟩
          rw [put_rest]
          refine ⟨_, rfl, _, _, rfl, rfl, ⟨by decide, by decide, by decide⟩, _, _, rfl, rfl, .inl ⟨_, rfl, _, rfl, _, _, rfl, rfl, nn, ?_⟩⟩
          exact fin2 _ _ (Int.ediv_nonneg (Int.sub_nonneg_of_le (of_decide_eq_true c4)) (by omega))
        all_goals
          refine ⟨_, rfl, .inl ⟨_, rfl, _, _, rfl, rfl, p1, _, _, rfl, rfl, .inl (mb1 _), ?_⟩⟩
          refine ⟨_, rfl, _, rfl, _, _, rfl, rfl, .inl ⟨by decide, by decide⟩, _, rfl, _, _, rfl, rfl, .inl bp, _, _, rfl, rfl, _, rfl, _, _, rfl, rfl, .inl ⟨by decide, by decide⟩, _, _, rfl, rfl, _, _, rfl, rfl, .inl ⟨_, rfl, _, _, rfl, rfl, p2, ?_⟩⟩
          refine ⟨_, rfl, _, rfl, _, _, rfl, rfl, _, _, rfl, rfl, .inl (mb2 _), .inl ⟨_, rfl, _, _, rfl, rfl, p3, ?_⟩⟩
          refine ⟨_, rfl, _, rfl, _, _, rfl, rfl, .inl (mb3 _), _, rfl, _, _, rfl, rfl, .inl ⟨by decide, by decide⟩, _, _, rfl, rfl, .inl ⟨_, rfl, _, _, rfl, rfl, p4, _, _, rfl, rfl, ⟨p5, p6⟩, .inl ⟨_, rfl, _, rfl, _, _, rfl, rfl, nn, ?_⟩⟩⟩
          exact fin1 _
end
end TX
end
section
set_option maxRecDepth 100000
set_option maxHeartbeats 4000000
/-! the law's pen, picks, drawn orders -/
namespace TX
open PySem PySem.Spec PyProof.Rows L2 SX CW
theorem But.fresh {r q : Addr} {H H' : Hp} {o : HO} (a : But r H H') (hq : H q = none) : But r H (upd H' q o) := fun c u n h => by
  rw [upd_ne (ne_of_none h hq)]
  exact a c u n h
theorem But.none {r q : Addr} {H H' : Hp} (a : But r H H') (n : q ≠ r) (hq : H' q = none) : H q = none := by
  cases e : H q with
  | none => rfl
  | some o => rw [a q o n e] at hq; cases hq
/-- the pen stands, whatever is stored at what was free -/
theorem PenAt.fresh {H H0 : Hp} {p c q : Addr} {n n0 : Nat} {o : HO} (h : PenAt H p c n) (h0 : PenAt H0 p c n0) (hq : H0 q = none) : PenAt (upd H q o) p c n := by
  obtain ⟨pl0, r0, cs0, e1, e2, _⟩ := h0.ex
  obtain ⟨pl, r, cs, h1, h2, h3, h4, h5⟩ := h.ex
  refine ⟨pl, r, cs, ?_, ?_, h3, h4, h5⟩
  · rw [upd_ne (ne_of_none e1 hq)]
    exact h1
  · rw [upd_ne (ne_of_none e2 hq)]
    exact h2
def spPen (K : PySem.W.Frag) : Sp := fun vs H Q _ => ∃ (s : Addr) (ns : List Int), vs = [.ref s] ∧ SqL K H s (ns.map V.int) ∧
  ∀ (p c : Addr) (H' : Hp), PenAt H' p c 0 → L2.Same H H' → Q (.ref p) H'
def spPick : Sp := fun vs H Q _ => ∃ (p c l : Addr) (m : Nat) (xs : List V), vs = [.ref p, .ref l] ∧ PenAt H p c m ∧ m ≤ 100000000 ∧ H l = some (.lst xs) ∧ 0 < xs.length ∧ xs.length < 1073741824 ∧
  ∀ (i : Nat) (x : V) (H' : Hp), xs[i]? = some x → PenAt H' p c (m + 1) → But p H H' → Q x H'
def ones (l : List Nat) : List V := l.map fun c => V.str (S [c])
def spShuffled : Sp := fun vs H Q _ => ∃ (p c l : Addr) (m : Nat) (zs : List Nat), vs = [.ref p, .ref l] ∧ PenAt H p c m ∧ m ≤ 1000000 ∧ H l = some (.lst (ones zs)) ∧ zs.length ≤ 26 ∧ (∀ c ∈ zs, c < 1114112) ∧
  ∀ (r : Addr) (ys : List Nat) (H' : Hp), ys.Perm zs → H' r = some (.lst (ones ys)) → PenAt H' p c (m + zs.length) → But p H H' → H r = none → Q (.ref r) H'
theorem merge_pen (l : Addr) : mergeK [] (pkv l 0 0) = pkv l 0 0 := by
  have k1 := kcp
  have k2 := kcr
  have k3 := kpr
  unfold mergeK pkv
  simp only [List.foldl_cons, List.foldl_nil]
  unfold putK
  simp only [List.any_nil, List.any_cons, List.nil_append, if_false, decide_eq_false k1, decide_eq_false k2, decide_eq_false k3, Bool.or_false, Bool.or_self, List.cons_append]
  rfl
theorem cut_ints (ns : List Int) : ∃ cs : List Int, cutV (ns.map V.int) none (some 63) = cs.map V.int ∧ cs.length ≤ 63 := by
  unfold cutV
  refine ⟨(ns.drop (HT.sIx (ns.map V.int).length 0 none)).take (HT.sIx (ns.map V.int).length (ns.map V.int).length (some 63) - HT.sIx (ns.map V.int).length 0 none), ?_, ?_⟩
  · rw [List.map_take, List.map_drop]
  · rw [List.length_take]
    have : HT.sIx (ns.map V.int).length (ns.map V.int).length (some 63) ≤ 63 := by
      show (if (63 : Int) < 0 then ((63 : Int) + ((ns.map V.int).length : Int)).toNat else min (63 : Int).toNat (ns.map V.int).length) ≤ 63
      rw [if_neg (by decide)]
      exact Nat.min_le_left _ _
    omega
section
variable {P : Program} {w : World} {K : PySem.W.Frag} {mg : Str → Option Value} {base : Heap}
theorem sc_pen : FnScope ["_law_script"] ["_law_script"] (defScope s_law_pen) := ⟨rfl, rfl, rfl, by decide +kernel, rfl, by decide +kernel, by decide +kernel⟩
theorem ok_pen (F : D K mg "_law_pen" s_law_pen []) (zl : mg "list" = none) : C8.Cal P w K mg base 1 "_law_pen" (spPen K) [] := by
  refine F.cal (ps := ["_law_script"]) sc_pen (fun f fd F => F.bindsN fun _ _ _ _ _ _ us hl => match us, hl with | [_], _ => rfl) (fun vs H Q E h => ?_) (fun f cdv A outer s H vs Q E hr h => ?_)
  · obtain ⟨s, ns, rfl, _⟩ := h
    rfl
  · obtain ⟨s, ns, rfl, hs, q⟩ := h
    refine ⟨_, pss_one (ps_ret (pe_disp (pps_cons pe_str (pe_callTy call_list_of (by rfl) zl (by decide +kernel) (pa_cons (pe_slice sl_list (pv 0) po_none (po_some pe_int)) pa_nil)) (pps_cons pe_str pe_int (pps_cons pe_str pe_int pps_nil))) (by rfl) (by rfl) (fun z => by cases z) (by decide))), ?_⟩
    intro p hp
    have hs1 : SqL K (upd H p (.dK [])) s (ns.map V.int) := (same_new hp).seq hs
    have gp : (upd H p (.dK [])) p = some (.dK []) := upd_same
    have s1 : L2.Same H (upd H p (.dK [])) := same_new hp
    generalize (upd H p (.dK [])) = H1 at hs1 gp s1 ⊢
    obtain ⟨cs, ec, lc⟩ := cut_ints ns
    refine ⟨_, rfl, _, rfl, s, _, rfl, hs1, fun a ha => ?_⟩
    rw [ec]
    have s2 : L2.Same H1 (upd H1 a (.lst (cs.map V.int))) := same_new ha
    have ga : (upd H1 a (.lst (cs.map V.int))) a = some (.lst (cs.map V.int)) := upd_same
    generalize (upd H1 a (.lst (cs.map V.int))) = H2 at s2 ga ⊢
    refine ⟨a, _, rfl, .inl (SqL.of ga), fun l hl => ?_⟩
    have s3 : L2.Same H2 (upd H2 l (.lst (cs.map V.int))) := same_new hl
    have gl : (upd H2 l (.lst (cs.map V.int))) l = some (.lst (cs.map V.int)) := upd_same
    generalize (upd H2 l (.lst (cs.map V.int))) = H3 at s3 gl ⊢
    have gp3 := s3 _ _ (s2 _ _ gp)
    have nlp : l ≠ p := ne_of gl gp3 (by intro z; cases z)
    refine ⟨gp3, pkv l 0 0, rfl, (by show 3 ≤ 15; decide), ?_⟩
    rw [merge_pen]
    refine q p l _ ⟨0, 0, cs, upd_same, by rw [upd_ne nlp]; exact gl, Nat.le_refl _, by omega, lc⟩ fun b o e => ?_
    rw [upd_ne (ne_of_none e hp)]
    exact s3 _ _ (s2 _ _ (s1 _ _ e))
theorem sc_pick : FnScope ["_law_pen_here", "_law_items"] ["_law_pen_here", "_law_items"] (defScope s_law_pick) := ⟨rfl, rfl, rfl, by decide +kernel, rfl, by decide +kernel, by decide +kernel⟩
theorem ok_pick (F : D K mg "_law_pick" s_law_pick []) (cD : C8.Cal P w K mg base 1 "_law_draw" spDraw []) (zl : mg "len" = none) : C8.Cal P w K mg base 2 "_law_pick" spPick [] := by
  refine F.cal (ps := ["_law_pen_here", "_law_items"]) sc_pick (fun f fd F => F.bindsN fun _ _ _ _ _ _ us hl => match us, hl with | [_, _], _ => rfl) (fun vs H Q E h => ?_) (fun f cdv A outer s H vs Q E hr h => ?_)
  · obtain ⟨p, c, l, m, xs, rfl, _⟩ := h
    rfl
  · obtain ⟨p, c, l, m, xs, rfl, hp, hm, hl, l0, l1, q⟩ := h
    refine ⟨_, pss_one (ps_ret (pe_ix ix_list (pv 1) (C8.pe_c cD hr (by decide) (by rfl) (pa_cons (pv 0) (pa_cons (pe_callB call_len_seq (by rfl) zl PySem.boot_len (pa_cons (pv 1) pa_nil)) pa_nil))) (fun _ _ => rfl))), ?_⟩
    refine ⟨_, rfl, _, rfl, _, rfl, l, _, rfl, .inl (SqL.of hl), p, c, m, xs.length, rfl, hp, l0, l1, hm, fun d H' hd hp' b => ?_⟩
    obtain ⟨pl, r, cs, h1, _⟩ := hp.ex
    have nlp : l ≠ p := ne_of hl h1 (by intro z; cases z)
    exact ⟨l, xs, _, xs[d], rfl, rfl, SqL.of (b _ _ nlp hl), atI_nat (List.getElem?_eq_getElem hd), q d _ _ (List.getElem?_eq_getElem hd) hp' b⟩
abbrev nShuf : List Str := ["_law_pen_here", "_law_items", "_law_left", "_law_found"]
def lenAt (σ : L2.St) (H : Hp) : Nat := match σ[2]? with
  | some (some (V.ref a)) => (match H a with | some (HO.lst xs) => xs.length | _ => 0)
  | _ => 0
theorem perm_pop {found left zs : List Nat} (d : Nat) (hd : d < left.length) (h : (found ++ left).Perm zs) : ((found ++ [left[d]]) ++ left.eraseIdx d).Perm zs := by
  refine List.Perm.trans ?_ h
  rw [List.append_assoc]
  refine List.Perm.append_left _ ?_
  have e : left = left.take d ++ left[d] :: left.drop (d + 1) := by
    rw [List.getElem_cons_drop, List.take_append_drop]
  rw [List.eraseIdx_eq_take_drop_succ]
  have z : (left[d] :: (left.take d ++ left.drop (d + 1))).Perm (left.take d ++ left[d] :: left.drop (d + 1)) := (List.perm_middle).symm
  exact z.trans (List.Perm.of_eq e.symm)
end
end TX
end
section
set_option maxRecDepth 100000
set_option maxHeartbeats 4000000
/-! the drawn table, pair by pair -/
namespace TX
open PySem PySem.Spec PyProof.Rows L2 SX CW
/-- the pair of a and b has had its turn ahead of (i, j) -/
def doneB (ks : List Nat) (i j a b : Nat) : Prop := ∃ i' j', i' < j' ∧ ks[i']? = some a ∧ ks[j']? = some b ∧ (i' < i ∨ (i' = i ∧ j' < j))
structure FlI (ks : List Nat) (i j : Nat) (X : Nat → Nat → Bool) : Prop where
  cr : Crossing X
  dn : ∀ a b, X a b = true → doneB ks i j a b ∨ doneB ks i j b a
theorem FlI.mono {ks : List Nat} {i j i2 j2 : Nat} {X : Nat → Nat → Bool} (h : FlI ks i j X) (l : ∀ i' j', i' < j' → j' < ks.length → (i' < i ∨ (i' = i ∧ j' < j)) → (i' < i2 ∨ (i' = i2 ∧ j' < j2))) : FlI ks i2 j2 X := by
  refine ⟨h.cr, fun a b x => ?_⟩
  have f : ∀ a b, doneB ks i j a b → doneB ks i2 j2 a b := fun a b ⟨i', j', h1, h2, h3, h4⟩ => ⟨i', j', h1, h2, h3, l i' j' h1 (List.getElem?_eq_some_iff.mp h3).1 h4⟩
  exact (h.dn a b x).imp (f a b) (f b a)
/-- the pair a b crosses, too -/
def addX (X : Nat → Nat → Bool) (a b : Nat) : Nat → Nat → Bool := fun x y => X x y || (x == a && y == b) || (x == b && y == a)
theorem idx_inj {ks : List Nat} (nd : ks.Nodup) {i j a : Nat} (h1 : ks[i]? = some a) (h2 : ks[j]? = some a) : i = j := by
  obtain ⟨l1, e1⟩ := List.getElem?_eq_some_iff.mp h1
  obtain ⟨l2, e2⟩ := List.getElem?_eq_some_iff.mp h2
  have pw := List.pairwise_iff_getElem.mp nd
  rcases Nat.lt_trichotomy i j with c | c | c
  · exact absurd (e1.trans e2.symm) (pw i j l1 l2 c)
  · exact c
  · exact absurd (e2.trans e1.symm) (pw j i l2 l1 c)
theorem FlI.add {ks : List Nat} (nd : ks.Nodup) {i j a b : Nat} {X : Nat → Nat → Bool} (h : FlI ks i j X) (hij : i < j) (ha : ks[i]? = some a) (hb : ks[j]? = some b) : FlI ks i (j + 1) (addX X a b) := by
  have nab : a ≠ b := fun e => by
    subst e
    exact absurd (idx_inj nd ha hb) (by omega)
  refine ⟨⟨fun x y => ?_, fun x => ?_⟩, fun x y e => ?_⟩
  · unfold addX
    rw [h.cr.sym x y]
    cases X y x <;> cases (x == a) <;> cases (y == b) <;> cases (x == b) <;> cases (y == a) <;> rfl
  · unfold addX
    rw [h.cr.irr]
    by_cases c : x = a
    · subst c
      simp [nab]
    · simp [c]
  · unfold addX at e
    rw [Bool.or_eq_true, Bool.or_eq_true, Bool.and_eq_true, Bool.and_eq_true, beq_iff_eq, beq_iff_eq, beq_iff_eq, beq_iff_eq] at e
    rcases e with (e | ⟨rfl, rfl⟩) | ⟨rfl, rfl⟩
    · have f : ∀ a b, doneB ks i j a b → doneB ks i (j + 1) a b := fun a b ⟨i', j', h1, h2, h3, h4⟩ => ⟨i', j', h1, h2, h3, by omega⟩
      exact (h.dn x y e).imp (f x y) (f y x)
    · exact .inl ⟨i, j, hij, ha, hb, .inr ⟨rfl, by omega⟩⟩
    · exact .inr ⟨i, j, hij, ha, hb, .inr ⟨rfl, by omega⟩⟩
theorem filter_snoc {ks : List Nat} {j b : Nat} {F F' : Nat → Bool} (nd : ks.Nodup) (hb : ks[j]? = some b) (h : ∀ x ∈ ks, F' x = (F x || x == b)) (h2 : ∀ l x, j ≤ l → ks[l]? = some x → F x = false) : ks.filter F' = ks.filter F ++ [b] := by
  obtain ⟨lj, ej⟩ := List.getElem?_eq_some_iff.mp hb
  have e : ks = ks.take j ++ b :: ks.drop (j + 1) := by
    rw [← ej, List.getElem_cons_drop, List.take_append_drop]
  have t1 : (ks.take j).filter F' = (ks.take j).filter F := List.filter_congr fun x hx => by
    rw [h x (List.mem_of_mem_take hx)]
    have : x ≠ b := fun z => by
      subst z
      obtain ⟨l, hl, el⟩ := List.getElem_of_mem hx
      rw [List.length_take] at hl
      rw [List.getElem_take] at el
      have z2 : ks[l]? = some x := List.getElem?_eq_some_iff.mpr ⟨by omega, el⟩
      have := idx_inj nd z2 hb
      omega
    simp [this]
  have dr : ∀ x ∈ ks.drop (j + 1), F x = false ∧ x ≠ b := fun x hx => by
    obtain ⟨l, hl, el⟩ := List.getElem_of_mem hx
    rw [List.length_drop] at hl
    rw [List.getElem_drop] at el
    have z2 : ks[j + 1 + l]? = some x := List.getElem?_eq_some_iff.mpr ⟨by omega, el⟩
    refine ⟨h2 _ _ (by omega) z2, fun z => ?_⟩
    subst z
    have := idx_inj nd z2 hb
    omega
  have t2 : (ks.drop (j + 1)).filter F' = [] := List.filter_eq_nil_iff.mpr fun x hx => by
    rw [h x (List.mem_of_mem_drop hx), (dr x hx).1]
    simp [(dr x hx).2]
  have t3 : (ks.drop (j + 1)).filter F = [] := List.filter_eq_nil_iff.mpr fun x hx => by
    rw [(dr x hx).1]
    simp
  have fb : F' b = true := by
    rw [h b (List.mem_of_getElem? hb)]
    simp
  have fb2 : F b = false := h2 j b (Nat.le_refl _) hb
  have c1 : (b :: ks.drop (j + 1)).filter F' = [b] := by
    rw [List.filter_cons_of_pos fb, t2]
  have c2 : (b :: ks.drop (j + 1)).filter F = [] := by
    rw [List.filter_cons_of_neg (by rw [fb2]; simp), t3]
  calc ks.filter F' = (ks.take j ++ b :: ks.drop (j + 1)).filter F' := by rw [← e]
    _ = (ks.take j).filter F ++ [b] := by rw [List.filter_append, t1, c1]
    _ = (ks.take j ++ b :: ks.drop (j + 1)).filter F ++ [b] := by rw [List.filter_append, c2, List.append_nil]
    _ = ks.filter F ++ [b] := by rw [← e]
theorem acr_far {ks : List Nat} (nd : ks.Nodup) {i j a b : Nat} {X : Nat → Nat → Bool} (h : FlI ks i j X) (hij : i < j) (ha : ks[i]? = some a) (hb : ks[j]? = some b) : acr ks (addX X a b) a = acr ks X a ++ [b] := by
  have nab : a ≠ b := fun e => by
    subst e
    exact absurd (idx_inj nd ha hb) (by omega)
  refine filter_snoc nd hb (fun x _ => ?_) fun l x hl hx => ?_
  · unfold addX
    simp [nab]
  · cases e : X a x with
    | false => rfl
    | true =>
      rcases h.dn a x e with ⟨i', j', h1, h2, h3, h4⟩ | ⟨i', j', h1, h2, h3, h4⟩
      · have := idx_inj nd h2 ha
        have := idx_inj nd h3 hx
        omega
      · have := idx_inj nd h3 ha
        have := idx_inj nd h2 hx
        omega
theorem acr_at {ks : List Nat} (nd : ks.Nodup) {i j a b : Nat} {X : Nat → Nat → Bool} (h : FlI ks i j X) (hij : i < j) (ha : ks[i]? = some a) (hb : ks[j]? = some b) : acr ks (addX X a b) b = acr ks X b ++ [a] := by
  have nab : b ≠ a := fun e => by
    subst e
    exact absurd (idx_inj nd ha hb) (by omega)
  refine filter_snoc nd ha (fun x _ => ?_) fun l x hl hx => ?_
  · have e1 : (b == a) = false := beq_eq_false_iff_ne.mpr nab
    show (X b x || (b == a && x == b) || (b == b && x == a)) = (X b x || x == a)
    rw [e1]
    simp
  · cases e : X b x with
    | false => rfl
    | true =>
      rcases h.dn b x e with ⟨i', j', h1, h2, h3, h4⟩ | ⟨i', j', h1, h2, h3, h4⟩
      · have := idx_inj nd h2 hb
        have := idx_inj nd h3 hx
        omega
      · have := idx_inj nd h3 hb
        have := idx_inj nd h2 hx
        omega
theorem acr_else {ks : List Nat} {a b k : Nat} {X : Nat → Nat → Bool} (h1 : k ≠ a) (h2 : k ≠ b) : acr ks (addX X a b) k = acr ks X k := by
  refine List.filter_congr fun x _ => ?_
  have e1 : (k == a) = false := beq_eq_false_iff_ne.mpr h1
  have e2 : (k == b) = false := beq_eq_false_iff_ne.mpr h2
  show (X k x || (k == a && x == b) || (k == b && x == a)) = X k x
  rw [e1, e2]
  simp
theorem put_kv {ks : List Nat} {f : Nat → List Nat} {a : Nat} {l : List Nat} (ha : a ∈ ks) : putK (kvK ks f) (Sum.inr (S [a])) (.str (S l)) = kvK ks (fun k => if k = a then l else f k) := by
  unfold putK
  have e : ((kvK ks f).any fun kv => decide (kv.1 = Sum.inr (S [a]))) = true := by
    rw [List.any_eq_true]
    exact ⟨(Sum.inr (S [a]), V.str (S (f a))), List.mem_map.mpr ⟨a, ha, rfl⟩, decide_eq_true rfl⟩
  rw [if_pos e]
  unfold kvK
  rw [List.map_map]
  refine List.map_congr_left fun k _ => ?_
  show (if (Sum.inr (S [k]) : Key) = Sum.inr (S [a]) then _ else _) = _
  by_cases c : k = a
  · subst c
    rw [if_pos rfl]
    simp
  · rw [if_neg fun z => c (sk_inj z)]
    simp [c]
theorem kv_add {ks : List Nat} (nd : ks.Nodup) {i j a b : Nat} {X : Nat → Nat → Bool} (h : FlI ks i j X) (hij : i < j) (ha : ks[i]? = some a) (hb : ks[j]? = some b) :
    kvK ks (fun k => if k = b then acr ks X b ++ [a] else if k = a then acr ks X a ++ [b] else acr ks X k) = kvK ks (acr ks (addX X a b)) := by
  refine List.map_congr_left fun k _ => ?_
  show (Sum.inr (S [k]), V.str (S (if k = b then _ else _))) = (Sum.inr (S [k]), V.str (S (acr ks (addX X a b) k)))
  by_cases c : k = b
  · rw [if_pos c, c, acr_at nd h hij ha hb]
  · rw [if_neg c]
    by_cases c2 : k = a
    · rw [if_pos c2, c2, acr_far nd h hij ha hb]
    · rw [if_neg c2, acr_else c2 c]
def zeroX : Nat → Nat → Bool := fun _ _ => false
theorem FlI.zero (ks : List Nat) : FlI ks 0 0 zeroX := ⟨⟨fun _ _ => rfl, fun _ => rfl⟩, fun _ _ e => by cases e⟩
theorem kv_zero (ks : List Nat) : kvK ks (acr ks zeroX) = kvK ks fun _ => [] := by
  refine List.map_congr_left fun k _ => ?_
  have : acr ks zeroX k = [] := List.filter_eq_nil_iff.mpr fun x _ => by simp [zeroX]
  rw [this]
end TX
end
section
set_option maxRecDepth 100000
set_option maxHeartbeats 8000000
/-! the drawn table -/
namespace TX
open PySem PySem.Spec PyProof.Rows L2 SX CW
/-- a table of kinds stands at t -/
structure TabAt (H : Hp) (t : Addr) (ks : List Nat) (X : Nat → Nat → Bool) : Prop where
  l0 : 0 < ks.length
  l8 : ks.length ≤ 8
  up : ks.Pairwise (· < ·)
  abc : ∀ k ∈ ks, 97 ≤ k ∧ k ≤ 122
  cr : Crossing X
  at_ : H t = some (.dK (kvK ks (acr ks X)))
def spFloor : Sp := fun vs H Q _ => ∃ (p c : Addr) (m n : Nat), vs = [.ref p, .int n] ∧ PenAt H p c m ∧ m ≤ 1000000 ∧ 0 < n ∧ n ≤ 8 ∧
  ∀ (t : Addr) (ks : List Nat) (X : Nat → Nat → Bool) (H' : Hp), ks.length ≤ n → (n ≤ 6 → ∀ k ∈ ks, k < 122) → (∀ k ∈ ks, k ≠ 113) → TabAt H' t ks X → PenAt H' p c (m + 200) → But p H H' → H t = none → Q (.ref t) H'
section
variable {P : Program} {w : World} {K : PySem.W.Frag} {mg : Str → Option Value} {base : Heap}
abbrev nFloor : List Str := ["_law_pen_here", "_law_number", "_law_letters", "_law_sort", "_law_table", "_law_item", "_law_at", "_law_far", "_law_is_side", "_law_is_drawn", "_law_is_often", "_law_peer"]
def eight1 : List Nat := [97, 98, 99, 100, 101, 102, 103, 104]
def eight2 : List Nat := [98, 100, 102, 104, 106, 108, 110, 112]
def eight3 : List Nat := [115, 116, 117, 118, 119, 120, 121, 122]
theorem eights {i : Nat} {x : V} (h : ([V.str "abcdefgh", V.str "bdfhjlnp", V.str "stuvwxyz"] : List V)[i]? = some x) : ∃ e : List Nat, x = .str (S e) ∧ e.length = 8 ∧ e.Pairwise (· < ·) ∧ (∀ k ∈ e, 97 ≤ k ∧ k ≤ 122) ∧ (∀ k ∈ e.take 6, k < 122) ∧ ∀ k ∈ e, k ≠ 113 := by
  have e1 : ("abcdefgh" : Str) = S eight1 := by decide +kernel
  have e2 : ("bdfhjlnp" : Str) = S eight2 := by decide +kernel
  have e3 : ("stuvwxyz" : Str) = S eight3 := by decide +kernel
  rw [e1, e2, e3] at h
  match i, h with
  | 0, h => exact ⟨eight1, (Option.some.inj h).symm, by decide, by decide, by decide, by decide, by decide⟩
  | 1, h => exact ⟨eight2, (Option.some.inj h).symm, by decide, by decide, by decide, by decide, by decide⟩
  | 2, h => exact ⟨eight3, (Option.some.inj h).symm, by decide, by decide, by decide, by decide, by decide⟩
  | n + 3, h => cases h
theorem rIx6 {K : PySem.W.Frag} {e : Addr} {sd : Nat} {b1 b2 b3 b4 b5 b6 : Bool} {G : Hp} {Q : VK} (h : sd < 6) (he : G e = some (.lst [.bl b1, .bl b2, .bl b3, .bl b4, .bl b5, .bl b6])) (q : ∀ b, Q (.bl b) G) : rIxL K (.ref e) (.int (sd : Int)) G Q := by
  have : ∃ b, ([.bl b1, .bl b2, .bl b3, .bl b4, .bl b5, .bl b6] : List V)[sd]? = some (.bl b) := by
    match sd, h with
    | 0, _ => exact ⟨_, rfl⟩
    | 1, _ => exact ⟨_, rfl⟩
    | 2, _ => exact ⟨_, rfl⟩
    | 3, _ => exact ⟨_, rfl⟩
    | 4, _ => exact ⟨_, rfl⟩
    | 5, _ => exact ⟨_, rfl⟩
    | n + 6, h => exact absurd h (by omega)
  obtain ⟨b, hb⟩ := this
  exact ⟨e, _, _, .bl b, rfl, rfl, SqL.of he, atI_nat hb, q b⟩
theorem get_kv {G : Hp} {t : Addr} {ks : List Nat} {f : Nat → List Nat} {k : Nat} (h : G t = some (.dK (kvK ks f))) (hk : k ∈ ks) : DGet G t (.str (S [k])) (some (.str (S (f k)))) := by
  have z := DGet.k (k := Sum.inr (S [k])) h
  rw [valV_kv hk] at z
  exact z
theorem get_kv2 {G : Hp} {t : Addr} {ks : List Nat} {f : Nat → List Nat} {a k : Nat} {l : List Nat} (h : G t = some (.dK (kvK ks fun k => if k = a then l else f k))) (hk : k ∈ ks) (ne : k ≠ a) : DGet G t (.str (S [k])) (some (.str (S (f k)))) := by
  have z := get_kv h hk
  rw [if_neg ne] at z
  exact z
theorem kv_len (ks : List Nat) (f : Nat → List Nat) : (kvK ks f).length = ks.length := List.length_map ..
end
end TX
end
section
set_option maxRecDepth 100000
set_option maxHeartbeats 8000000
/-! a plan is made: by two arguments, by one; the plan of a table -/
namespace TX
open PySem PySem.Spec PyProof.Rows L2 SX CW
section
variable {P : Program} {w : World} {K : PySem.W.Frag} {mg : Str → Option Value} {base : Heap} {C : Addr}
theorem ok_plan2 {f : Addr} {fd : FuncData} {d : V} (F : FunD K "__init__" "Plan.__init__" (defArgs s_Plan_init) (defBody s_Plan_init) (defScope s_Plan_init) [d] [] f fd) (M : Mk K C f) (gP : mg "Plan" = some (.ref C))
    (ok : FnOk P w K mg base C8.CX0 3 f fd ["self", "kinds", "crossing"] (spPlanInit K C)) : C8.Mak P w K mg base 3 "Plan" C (spPlanInit K C) [] := by
  obtain ⟨ds, vd, b⟩ := F.binds1 (ps := ["self", "kinds", "crossing"]) 3 1 (by simp) rfl (fun T kV doc pm an cdv ct us its hu hi => match us, hu, its, hi with | [_, _, _], _, [_], _ => ⟨_, rfl, rfl⟩)
  cases vd
  exact ⟨f, fd, _, [], M, ok, gP, b, .nil⟩
theorem ok_plan1 {f : Addr} {fd : FuncData} {d : V} (F : FunD K "__init__" "Plan.__init__" (defArgs s_Plan_init) (defBody s_Plan_init) (defScope s_Plan_init) [d] [] f fd) (M : Mk K C f) (gP : mg "Plan" = some (.ref C))
    (ok : FnOk P w K mg base C8.CX0 3 f fd ["self", "kinds", "crossing"] (spPlanInit K C)) : C8.Mak P w K mg base 3 "Plan" C (spPlanInit K C) [d] := by
  obtain ⟨ds, vd, b⟩ := F.binds1 (ps := ["self", "kinds", "crossing"]) 2 0 (by simp) rfl (fun T kV doc pm an cdv ct us its hu hi => match us, hu, its, hi with | [_, _], _, [_], _ => ⟨_, rfl, rfl⟩)
  exact ⟨f, fd, _, ds, M, ok, gP, b, vd⟩
end
/-- _law_made(pen, table) -/
def spMade (C : Addr) : Sp := fun vs H Q _ => ∃ (p c t : Addr) (m : Nat) (ks : List Nat) (X : Nat → Nat → Bool), vs = [.ref p, .ref t] ∧ PenAt H p c m ∧ m ≤ 900000 ∧ TabAt H t ks X ∧
  ∀ (r : Addr) (H' : Hp), PlanAt C H' r ks X → PenAt H' p c (m + 100) → But p H H' → Q (.ref r) H'
theorem TabAt.ne {H : Hp} {t p c : Addr} {m : Nat} {ks : List Nat} {X : Nat → Nat → Bool} (h : TabAt H t ks X) (hp : PenAt H p c m) : t ≠ p ∧ t ≠ c := by
  obtain ⟨pl, r, cs, h1, h2, _⟩ := hp.ex
  constructor
  · refine ne_of h.at_ h1 fun e => ?_
    have e2 := HO.dK.inj e
    have l0 := h.l0
    cases ks with
    | nil => exact absurd l0 (by simp)
    | cons k ks =>
      have e3 := (List.cons.inj e2).1
      have e4 : (Sum.inr (S [k]) : Key) = Sum.inr ("cells" : Str) := congrArg Prod.fst e3
      have e5 := congrArg Str.length (Sum.inr.inj e4)
      rw [S_len] at e5
      have e6 : ("cells" : Str).length = 5 := by decide +kernel
      rw [e6] at e5
      simp at e5
  · exact ne_of h.at_ h2 (by intro z; cases z)
theorem acr_lt {ks : List Nat} {X : Nat → Nat → Bool} (cr : Crossing X) {k : Nat} (hk : k ∈ ks) : (acr ks X k).length + 1 ≤ ks.length := by
  refine Nat.lt_of_le_of_ne (List.length_filter_le _ _) fun e => ?_
  have z : acr ks X k = ks := (List.filter_sublist).eq_of_length e
  have z2 : k ∈ acr ks X k := by rw [z]; exact hk
  have z3 := (List.mem_filter.mp z2).2
  rw [cr.irr] at z3
  cases z3
theorem kv_idx {ks : List Nat} {f : Nat → List Nat} {i : Nat} {k : Key} {v : V} (h : (kvK ks f)[i]? = some (k, v)) : ∃ a, ks[i]? = some a ∧ k = Sum.inr (S [a]) ∧ v = .str (S (f a)) := by
  unfold kvK at h
  rw [List.getElem?_map] at h
  cases e : ks[i]? with
  | none => rw [e] at h; cases h
  | some a =>
    rw [e] at h
    have z := Option.some.inj h
    exact ⟨a, rfl, (congrArg Prod.fst z).symm, (congrArg Prod.snd z).symm⟩
theorem get_frz {G : Hp} {t : Addr} {od : Obj} {ks : List Nat} {f : Nat → List Nat} {k : Nat} (h : G t = some (.frz od (.dK (kvK ks f)))) (hk : k ∈ ks) : DGet G t (.str (S [k])) (some (.str (S (f k)))) :=
  .inl ⟨kvK ks f, Sum.inr (S [k]), .inr ⟨od, h⟩, rfl, (valV_kv hk).symm⟩
/-- what stood but at p and t stands -/
def But2 (p t : Addr) (H H' : Hp) : Prop := ∀ b o, b ≠ p → b ≠ t → H b = some o → H' b = some o
theorem But2.step {p t : Addr} {H H1 H2 : Hp} (a : But2 p t H H1) (b : But p H1 H2) : But2 p t H H2 := fun c o n1 n2 e => b c o n1 (a c o n1 n2 e)
theorem But2.fresh {p t q : Addr} {H H' : Hp} {o : HO} (a : But2 p t H H') (hq : H q = none) : But2 p t H (upd H' q o) := fun c u n1 n2 h => by
  rw [upd_ne (ne_of_none h hq)]
  exact a c u n1 n2 h
/-- a new object and its dict -/
theorem same_born {G : Hp} {x dx : Addr} {u o : HO} (hx : G x = none) (hdx : G dx = none) : L2.Same G (upd (upd G dx u) x o) := fun b v e => by
  rw [upd_ne (ne_of_none e hx), upd_ne (ne_of_none e hdx)]
  exact e
theorem born_same {G H' : Hp} {x dx : Addr} {u o : HO} (hx : G x = none) (hdx : G dx = none) (b : But x (upd (upd G dx u) x o) H') : L2.Same G H' := fun c v e =>
  b c v (ne_of_none e hx) (same_born hx hdx c v e)
/-- the law's list of pairs -/
def PairsOk (ks : List Nat) (X : Nat → Nat → Bool) (es : List Str) : Prop := ∀ e ∈ es, ∃ a b, e = S [a, b] ∧ a ∈ ks ∧ b ∈ ks ∧ X a b = true
theorem PairsOk.snoc {ks : List Nat} {X : Nat → Nat → Bool} {es : List Str} {a b : Nat} (h : PairsOk ks X es) (ha : a ∈ ks) (hb : b ∈ ks) (hX : X a b = true) : PairsOk ks X (es ++ [S [a, b]]) := fun e he => by
  rcases List.mem_append.mp he with z | z
  · exact h e z
  · exact ⟨a, b, List.mem_singleton.mp z, ha, hb, hX⟩
theorem str_snoc (es : List Str) (x : Str) : es.map V.str ++ [V.str x] = (es ++ [x]).map V.str := by
  rw [List.map_append]
  rfl
section
variable {P : Program} {w : World} {K : PySem.W.Frag} {mg : Str → Option Value} {base : Heap} {C : Addr}
abbrev nMade : List Str := ["_law_pen_here", "_law_table", "_law_pairs", "_law_item", "_law_peer"]
end
end TX
end
section
set_option maxRecDepth 100000
set_option maxHeartbeats 4000000
/-! comparisons, sums, items, lengths by a class's own methods -/
namespace TX
open PySem PySem.Spec PyProof.Rows L2
theorem inst_of {X : Cx} {pins : List (Addr × Obj)} {σ : L2.St} {H : Hp} {s : Shared} {a C dx : Addr} {fs : List (Str × V)} (I : L2.Inv X pins σ H s) (h : H a = some (.ins C dx fs)) : ∃ od, PySem.W.InstAt s.heap a (PySem.W.instObj C dx) C (some od) := by
  have q := I.hok a _ h
  unfold ObjOk at q
  obtain ⟨_, _, _, h1, mA, ⟨o, es, ep, ho, rest⟩, _⟩ := q
  exact ⟨o, h1, rfl, rfl, ho⟩
theorem not_ni {v : V} {u : Value} {Q : Value → Shared → Prop} {s : Shared} (r : L2.RelV v u) (q : Q u s) : PySem.W.CmpBack Q u s := by
  cases v with
  | non => have e : u = .none := r; subst e; exact q
  | bl b => have e : u = .bool b := r; subst e; exact q
  | int i => obtain ⟨t, e⟩ := r; subst e; exact q
  | str x => obtain ⟨t, e⟩ := r; subst e; exact q
  | byt b => obtain ⟨t, e⟩ := r; subst e; exact q
  | flt b => obtain ⟨t, e⟩ := r; subst e; exact q
  | ref a => have e : u = .ref a := r; subst e; exact q
  | ty n => have e : u = .type n := r; subst e; exact q
/-- a method under its name, which lets nothing out -/
structure Dun (P : Program) (w : World) (K : PySem.W.Frag) (mg : Str → Option Value) (base : Heap) (k : Nat) (C : Addr) (nm : Str) (sp : Sp) : Prop where
  ex : ∃ f fd ps, FnOk P w K mg base C8.CX0 k f fd ps sp ∧ PySem.W.findIn K (.ref C) nm = some (some (.ref f)) ∧ PySem.W.isFn K (.ref f) = true ∧ L2.Binds K fd ps []
section
variable {X : Cx} {pins : List (Addr × Obj)} {σ : L2.St} {H : Hp} {s : Shared} {n : Nat} {A : Around} {f : Addr} {fd : FuncData} {ps : List Str} {sp : Sp} {Q : VK} {E' : Value → Shared → Prop} {us : List Value} {vs : List V}
theorem run_sub (hA : L2.Sub X n A) (F : FnOk X.prog X.w X.K X.mg X.base C8.CX0 n f fd ps sp) (b : L2.Binds X.K fd ps []) (I : L2.Inv X pins σ H s) (r : Vals vs us) (h : sp vs H Q C8.E0) : wpAny (model X.prog X.w) A (call (.ref f) us) (EP X pins σ Q) E' s := by
  refine PySem.wpAny_call ?_
  have e0 := I.env0
  have e1 : Env0 X.prog X.w X.K X.mg X.base A X.stack s H := ⟨by rw [hA.fr]; exact e0.frames, e0.mod, e0.bs, e0.bsz, e0.funs, e0.frf, e0.hok, e0.bare⟩
  have len : us.length = ps.length := by
    rw [← F.len _ _ _ _ h]
    have gen : ∀ {vs : List V} {us : List Value}, Vals vs us → us.length = vs.length := by
      intro vs us r
      induction r with
      | nil => rfl
      | cons _ _ ih => rw [List.length_cons, List.length_cons, ih]
    exact gen r
  have b1 : BindsTo s fd { pos := us } (List.zip ps us) := by
    have z := b s us I.kIn (by rw [List.append_nil]; exact len)
    rw [List.append_nil] at z
    exact z
  refine codeAny_mono (F.run A X.stack s H { pos := us } us vs Q C8.E0 hA.room e1 b1 r h) fun r s' q => ?_
  cases r with
  | ok fl =>
    cases fl with
    | ret u => exact I.after q
    | _ => exact False.elim q
  | error e => exact False.elim q
end
theorem sub_self {X : Cx} {n : Nat} (hr : Room n X.A) : L2.Sub X n X.A := ⟨hr, rfl⟩
section
variable {X : Cx} {k : Nat} {C : Addr} {sp : Sp}
/-- a < b and the like, two instances of one own class -/
theorem op_cmpOwn {op : CmpOp} (hop : ∀ a b, compareOp op a b = richCompare op a b) (D : Dun X.prog X.w X.K X.mg X.base k C (cmpInfo op).2.1 sp) (hr : Room k X.A) :
    OpR X (compareOp op) (fun x y H Q => ∃ a dx fs b dy gs, x = .ref a ∧ y = .ref b ∧ H a = some (.ins C dx fs) ∧ H b = some (.ins C dy gs) ∧ sp [x, y] H Q C8.E0) := by
  intro pins s σ H x y v u Q I rx ry h
  obtain ⟨a, dx, fs, b, dy, gs, rfl, rfl, ha, hb, h⟩ := h
  obtain ⟨f, fd, ps, F, hs, hf, bi⟩ := D.ex
  have ev : v = .ref a := rx
  have eu : u = .ref b := ry
  subst ev
  subst eu
  obtain ⟨oa, ia⟩ := inst_of I ha
  obtain ⟨ob, ib⟩ := inst_of I hb
  obtain ⟨m, fr⟩ := I.fr
  rw [hop]
  refine PySem.W.cmp_K (by have := hr.un; omega) fr I.ok.mod.kin ia ib.type (by unfold PySem.W.notFirst; simp) hs hf ?_
  exact thn (run_sub (sub_self hr) F bi I (.cons rx (.cons ry .nil)) h) fun u s' ⟨v, H', I', r, q⟩ => not_ni r ⟨v, H', I', r, q⟩
/-- a + b, a * b, two instances of one own class -/
theorem op_binOwn {op : Operator} (D : Dun X.prog X.w X.K X.mg X.base k C (dunder op.info.2) sp) (sf : PySem.W.selfFirst X.K C = true) (hr : Room k X.A) :
    OpR X (binaryOp op) (fun x y H Q => ∃ a dx fs b dy gs, x = .ref a ∧ y = .ref b ∧ H a = some (.ins C dx fs) ∧ H b = some (.ins C dy gs) ∧ sp [x, y] H Q C8.E0) := by
  intro pins s σ H x y v u Q I rx ry h
  obtain ⟨a, dx, fs, b, dy, gs, rfl, rfl, ha, hb, h⟩ := h
  obtain ⟨f, fd, ps, F, hs, hf, bi⟩ := D.ex
  have ev : v = .ref a := rx
  have eu : u = .ref b := ry
  subst ev
  subst eu
  obtain ⟨oa, ia⟩ := inst_of I ha
  obtain ⟨ob, ib⟩ := inst_of I hb
  obtain ⟨m, fr⟩ := I.fr
  refine PySem.W.binop_K fr I.ok.mod.kin ia ib.type sf hs hf ?_
  exact thn (run_sub (sub_self hr) F bi I (.cons rx (.cons ry .nil)) h) fun u s' ⟨v, H', I', r, q⟩ => not_ni r ⟨v, H', I', r, q⟩
/-- a + text, a * number: an instance and a value of a built-in class -/
theorem op_binOwnT {op : Operator} {T : String} (D : Dun X.prog X.w X.K X.mg X.base k C (dunder op.info.2) sp) (sf : PySem.W.selfFirst X.K C = true) {rc fo ro : Option Value}
    (h1 : PySem.W.findIn X.K (.ref C) (dunderR op.info.2) = some rc) (h2 : rc = none ∨ ∃ g, rc = some (.ref g)) (h3 : PySem.W.findIn X.K (.type T) (dunder op.info.2) = some fo) (h4 : PySem.W.findIn X.K (.type T) (dunderR op.info.2) = some ro)
    (h5 : PySem.W.subIn X.K (.type T) (.ref C) = some false) (hr : Room k X.A) :
    OpR X (binaryOp op) (fun x y H Q => ∃ a dx fs, x = .ref a ∧ H a = some (.ins C dx fs) ∧ (∀ u, L2.RelV y u → typeOf u = pure (.type T)) ∧ sp [x, y] H Q C8.E0) := by
  intro pins s σ H x y v u Q I rx ry h
  obtain ⟨a, dx, fs, rfl, ha, ty, h⟩ := h
  obtain ⟨f, fd, ps, F, hs, hf, bi⟩ := D.ex
  have ev : v = .ref a := rx
  subst ev
  obtain ⟨oa, ia⟩ := inst_of I ha
  obtain ⟨m, fr⟩ := I.fr
  refine PySem.W.ksp_binT fr I.ok.mod.kin ia (ty u ry) sf hs hf h1 h2 h3 h4 h5 ?_
  exact thn (run_sub (sub_self hr) F bi I (.cons rx (.cons ry .nil)) h) fun u s' ⟨v, H', I', r, q⟩ => not_ni r ⟨v, H', I', r, q⟩
/-- len(a) -/
theorem call_lenOwn (D : Dun X.prog X.w X.K X.mg X.base k C "__len__" sp) (hr : Room (k + 1) X.A) :
    CallR X (.builtin "len") (fun xs H Q => ∃ a dx fs, xs = [.ref a] ∧ H a = some (.ins C dx fs) ∧ sp [.ref a] H (fun v H' => ∃ i : Int, v = .int i ∧ 0 ≤ i ∧ i < 2 ^ 63 ∧ Q v H') C8.E0) := by
  intro pins s σ H xs us Q I rx h
  obtain ⟨a, dx, fs, rfl, ha, h⟩ := h
  obtain ⟨f, fd, ps, F, hs, hf, bi⟩ := D.ex
  obtain ⟨oa, ia⟩ := inst_of I ha
  obtain ⟨m, fr⟩ := I.fr
  match us, rx with
  | [u], .cons r .nil =>
    have eu : u = .ref a := r
    subst eu
    refine PySem.W.len_K fr I.ok.mod.kin ia hs hf ?_
    refine thn (run_sub (L2.Sub.in1 (sub_self hr)) F bi I (.cons r .nil) h) fun u s' ⟨v, H', I', r, q⟩ => ?_
    obtain ⟨i, rfl, i0, i1, q⟩ := q
    obtain ⟨t, e⟩ := r
    subst e
    exact ⟨⟨i0, i1⟩, .int i, H', I'.tok _, ⟨_, rfl⟩, q⟩
end
end TX
end
section
set_option maxRecDepth 100000
set_option maxHeartbeats 4000000
/-! a != b by an own __eq__ alone; a[k] by an own method -/
namespace TX
open PySem PySem.Spec PyProof.Rows L2
def strKeysB (es : Array DictEntry) : Bool := es.toList.all fun e => match e.key with | .str _ _ => true | _ => false
/-- does the class C stand just over object, with __eq__ the def f, and no __ne__? -/
def neB (K : PySem.W.Frag) (C f : Addr) : Bool := match K.lookup C with
  | some ⟨.type t, _, .cls cd, sl⟩ => decide (t = "type") && (cd.mro == [.ref C, .type "object"]) && !cd.hasDel && (match sl.toList with | [_, _, _, _, some (.builtin _), _] => true | _ => false) &&
      (match K.lookup cd.ns with
        | some ⟨_, _, .dict es _, _⟩ => strKeysB es && (nsFind es "__eq__" == some (.ref f)) && (nsFind es "__ne__" == none)
        | _ => false)
  | _ => false
theorem strKeysB_ok {es : Array DictEntry} (h : strKeysB es = true) : StrKeys es := fun e he => by
  have z := List.all_eq_true.mp h e (by simpa using he)
  revert z
  cases e.key with
  | str n t => exact fun _ => ⟨n, t, rfl⟩
  | _ => exact fun z => by cases z
theorem ownEq_of {K : PySem.W.Frag} {C f : Addr} (c : neB K C f = true) (hf : PySem.W.isFn K (.ref f) = true) {h : Heap} (X : K.In h) {x : Addr} {o : Obj} (hx : h.get? x = some o) (hc : o.cls = .ref C) : h.OwnEqNoNe x C f "object" [.type "object"] := by
  unfold neB at c
  split at c
  · rename_i t dd cd sl e
    simp only [Bool.and_eq_true, decide_eq_true_eq] at c
    obtain ⟨⟨⟨⟨h1, h2⟩, h3⟩, h4⟩, h5⟩ := c
    subst h1
    split at h4
    · rename_i k0 k1 k2 k3 nid k5 es
      split at h5
      · rename_i c2 d2 en ep sl2 e2
        simp only [Bool.and_eq_true] at h5
        obtain ⟨⟨g1, g2⟩, g3⟩ := h5
        have z1 := X _ _ e
        have z2 := X _ _ e2
        have esl : sl = #[k0, k1, k2, k3, some (.builtin nid), k5] := by
          apply Array.toList_inj.mp
          exact es
        subst esl
        obtain ⟨nm, bs, mr, nsA, qn, hdct, sn, sub, ab, col, hd⟩ := cd
        have em : mr = [.ref C, .type "object"] := by simpa using h2
        have eh : hd = false := by simpa using h3
        subst em
        subst eh
        have g2' : nsFind en "__eq__" = some (.ref f) := by simpa using g2
        have g3' : nsFind en "__ne__" = none := by simpa using g3
        have hfn : ∃ of, h.get? f = some of ∧ of.cls = .type "function" := by
          unfold PySem.W.isFn at hf
          have hf2 : PySem.W.typeIn K (.ref f) = some (.type "function") := by simpa using hf
          have hf3 : (K.lookup f).map Obj.cls = some (.type "function") := hf2
          cases z : K.lookup f with
          | none => rw [z] at hf3; cases hf3
          | some of =>
            rw [z] at hf3
            exact ⟨of, X _ _ z, Option.some.inj hf3⟩
        obtain ⟨of, of1, of2⟩ := hfn
        exact ⟨o, of, nm, qn, nsA, bs, hdct, sn, sub, ab, col, dd, k0, k1, k2, k3, k5, nid, nsFind en, _, hx, hc, z1, ⟨_, en, ep, z2, rfl, strKeysB_ok g1, fun _ => rfl⟩, g2', of1, of2, PySem.F.cmp_object.mro, PySem.F.cmp_object.eq.lookup, g3'⟩
      · cases h5
    · cases h4
  · cases c
section
variable {X : Cx} {k : Nat} {C : Addr} {sp : Sp}
/-- a != b, two instances of one own class that has an __eq__ and no __ne__ -/
theorem op_neOwn {f : Addr} {fd : FuncData} {ps : List Str} (F : FnOk X.prog X.w X.K X.mg X.base C8.CX0 k f fd ps sp) (hf : PySem.W.isFn X.K (.ref f) = true) (bi : L2.Binds X.K fd ps []) (ne : neB X.K C f = true) (hr : Room (k + 1) X.A) :
    OpR X (compareOp .NotEq) (fun x y H Q => ∃ a dx fs b dy gs, x = .ref a ∧ y = .ref b ∧ H a = some (.ins C dx fs) ∧ H b = some (.ins C dy gs) ∧ sp [x, y] H (fun v H' => ∃ z, v = .bl z ∧ Q (.bl !z) H') C8.E0) := by
  intro pins s σ H x y v u Q I rx ry h
  obtain ⟨a, dx, fs, b, dy, gs, rfl, rfl, ha, hb, h⟩ := h
  have ev : v = .ref a := rx
  have eu : u = .ref b := ry
  subst ev
  subst eu
  obtain ⟨oa, ia⟩ := inst_of I ha
  obtain ⟨ob, ib⟩ := inst_of I hb
  refine PySem.W.cmp_ofNotEq ?_
  refine PySem.richCompare_ne_ownEq PySem.F.cmp_object (ownEq_of ne hf I.kIn ia.at_ ia.cls) ib.at_ ib.cls (by have := hr.un; omega) ?_
  refine thn (run_sub (L2.Sub.in1 (sub_self hr)) F bi I (.cons rx (.cons ry .nil)) h) fun u s' ⟨v, H', I', r, q⟩ => ?_
  obtain ⟨z, rfl, q⟩ := q
  have e : u = .bool z := r
  subst e
  exact ⟨z, rfl, .bl !z, H', I', rfl, q⟩
end
end TX
end
section
set_option maxRecDepth 100000
set_option maxHeartbeats 4000000
/-! pairs of a number and a text, compared -/
namespace TX
open PySem PySem.Spec PyProof.Rows L2
abbrev sLt (x y : Str) : Bool := decide (x.cps.toList < y.cps.toList)
theorem rc_lt (A : Around) (s : Shared) (x y : Str) (t u : Tok) : Ob.RcOp .Lt A s (.str x t) (.str y u) (sLt x y) := fun _ _ _ _ q =>
  richCompare_gives (typeIs_str _ _ _) (typeIs_str _ _ _) PySem.F.slot_str_lt PySem.F.entry_str_lt (PySem.F.args_str_lt_2 _ _) (gives_str_lt x y t u) (by intro z; cases z) q
theorem rc_le (A : Around) (s : Shared) (x y : Str) (t u : Tok) : Ob.RcOp .LtE A s (.str x t) (.str y u) (!sLt y x) := fun _ _ _ _ q =>
  richCompare_gives (typeIs_str _ _ _) (typeIs_str _ _ _) PySem.F.slot_str_le PySem.F.entry_str_le (PySem.F.args_str_le_2 _ _) (gives_str_le x y t u) (by intro z; cases z) q
theorem rc_gt (A : Around) (s : Shared) (x y : Str) (t u : Tok) : Ob.RcOp .Gt A s (.str x t) (.str y u) (sLt y x) := fun _ _ _ _ q =>
  richCompare_gives (typeIs_str _ _ _) (typeIs_str _ _ _) PySem.F.slot_str_gt PySem.F.entry_str_gt (PySem.F.args_str_gt_2 _ _) (gives_str_gt x y t u) (by intro z; cases z) q
theorem rc_ge (A : Around) (s : Shared) (x y : Str) (t u : Tok) : Ob.RcOp .GtE A s (.str x t) (.str y u) (!sLt x y) := fun _ _ _ _ q =>
  richCompare_gives (typeIs_str _ _ _) (typeIs_str _ _ _) PySem.F.slot_str_ge PySem.F.entry_str_ge (PySem.F.args_str_ge_2 _ _) (gives_str_ge x y t u) (by intro z; cases z) q
/-- what a comparison of two such pairs gives -/
def cmpIS (rI : Int → Int → Bool) (rS : Str → Str → Bool) (z : Bool) (i j : Int) (p q : Str) : Bool := if (i == j) = true then (if (p == q) = true then z else rS p q) else rI i j
theorem op_tupIS {X : Cx} {op : CmpOp} {rI : Int → Int → Bool} {rS : Str → Str → Bool} {z : Bool} (hop : ∀ a b, compareOp op a b = richCompare op a b)
    (hI : ∀ (A : Around) (s : Shared) (a b : Int) (t u : Tok), Ob.RcOp op A s (.int a t) (.int b u) (rI a b)) (hS : ∀ (A : Around) (s : Shared) (x y : Str) (t u : Tok), Ob.RcOp op A s (.str x t) (.str y u) (rS x y))
    (hT : ∀ (A : Around) (s : Shared) (l b : Addr) (v1 v2 w1 w2 : Value) (e0 e1 r0 r1 : Bool), s.heap.IsTuple l #[v1, v2] → s.heap.IsTuple b #[w1, w2] → A.units < cLine → SeqAt.EqAt A.in1 s v1 w1 e0 → SeqAt.EqAt A.in1 s v2 w2 e1 →
      Ob.RcOp op A.in1 s v1 w1 r0 → Ob.RcOp op A.in1 s v2 w2 r1 → Ob.RcOp op A s (.ref l) (.ref b) (if e0 = true then (if e1 = true then z else r1) else r0)) (hu : X.A.units < cLine) :
    OpR X (compareOp op) (fun x y H Q => ∃ a b i j p q, x = .ref a ∧ y = .ref b ∧ SqT X.K H a [.int i, .str p] ∧ SqT X.K H b [.int j, .str q] ∧ Q (.bl (cmpIS rI rS z i j p q)) H) := by
  intro pins s σ H x y v u Q I rx ry h
  obtain ⟨a, b, i, j, p, q, rfl, rfl, h1, h2, h⟩ := h
  have ev : v = .ref a := rx
  have eu : u = .ref b := ry
  subst ev
  subst eu
  rw [hop]
  obtain ⟨its, vi, ti, _⟩ := I.tuple h1
  obtain ⟨jts, vj, tj, _⟩ := I.tuple h2
  have two : ∀ {i : Int} {p : Str} {its : List Value}, Vals [.int i, .str p] its → ∃ t1 t2, its = [.int i t1, .str p t2] := by
    intro i p its r
    cases r with
    | cons r1 r =>
      cases r with
      | cons r2 r =>
        cases r
        obtain ⟨t1, e1⟩ := r1
        obtain ⟨t2, e2⟩ := r2
        exact ⟨t1, t2, by rw [e1, e2]⟩
  obtain ⟨t1, t2, rfl⟩ := two vi
  obtain ⟨t3, t4, rfl⟩ := two vj
  have e := hT X.A s a b _ _ _ _ _ _ _ _ ti tj hu (SeqAt.EqAt.int_int i t1 j t3) (SeqAt.EqAt.str_str p t2 q t4) (hI X.A.in1 s i j t1 t3) (hS X.A.in1 s p q t2 t4)
  have k : EP X pins σ Q (.bool (cmpIS rI rS z i j p q)) s := ⟨.bl (cmpIS rI rS z i j p q), H, I, rfl, h⟩
  exact e _ _ _ _ k
theorem two_all {v1 v2 w1 w2 : Value} {P : Value → Value → Nat → Prop} (h0 : P v1 w1 0) (h1 : P v2 w2 1) : ∀ (j : Nat) (a : j < (#[v1, v2] : Array Value).size) (b : j < (#[w1, w2] : Array Value).size), P (#[v1, v2] : Array Value)[j] (#[w1, w2] : Array Value)[j] j := by
  intro j a b
  match j, a, b with
  | 0, _, _ => exact h0
  | 1, _, _ => exact h1
  | n + 2, a, _ => exact absurd a (by simp)
def pick2 (a b : Bool) : Nat → Bool := fun k => if k = 0 then a else b
theorem lex2 (e0 e1 r0 r1 z : Bool) : Ob.lexAt (pick2 e0 e1) (pick2 r0 r1) z 0 2 = (if e0 = true then (if e1 = true then z else r1) else r0) := by
  rw [Ob.lexAt_succ, Ob.lexAt_succ, Ob.lexAt_zero]
  rfl
theorem tup_lt (A : Around) (s : Shared) (l b : Addr) (v1 v2 w1 w2 : Value) (e0 e1 r0 r1 : Bool) (h1 : s.heap.IsTuple l #[v1, v2]) (h2 : s.heap.IsTuple b #[w1, w2]) (hu : A.units < cLine) (q0 : SeqAt.EqAt A.in1 s v1 w1 e0) (q1 : SeqAt.EqAt A.in1 s v2 w2 e1) (c0 : Ob.RcOp .Lt A.in1 s v1 w1 r0) (c1 : Ob.RcOp .Lt A.in1 s v2 w2 r1) :
    Ob.RcOp .Lt A s (.ref l) (.ref b) (if e0 = true then (if e1 = true then false else r1) else r0) := by
  have e := Ob.RcOp.tuples_lt (e := pick2 e0 e1) (r := pick2 r0 r1) h1 h2 hu (two_all (P := fun v w k => SeqAt.EqAt A.in1 s v w (pick2 e0 e1 k)) q0 q1) (fun j a b _ => two_all (P := fun v w k => Ob.RcOp .Lt A.in1 s v w (pick2 r0 r1 k)) c0 c1 j a b)
  have m : min (#[v1, v2] : Array Value).size (#[w1, w2] : Array Value).size = 2 := rfl
  have d : decide ((#[v1, v2] : Array Value).size < (#[w1, w2] : Array Value).size) = false := rfl
  rw [m, d, lex2] at e
  exact e
theorem op_ltIS {X : Cx} (hu : X.A.units < cLine) : OpR X (compareOp .Lt) (fun x y H Q => ∃ a b i j p q, x = .ref a ∧ y = .ref b ∧ SqT X.K H a [.int i, .str p] ∧ SqT X.K H b [.int j, .str q] ∧ Q (.bl (cmpIS (fun i j => decide (i < j)) (sLt) false i j p q)) H) :=
  op_tupIS (fun _ _ => rfl) (fun _ _ a b t u => Ob.RcOp.lt_int a b t u) (fun A s x y t u => rc_lt A s x y t u) tup_lt hu
theorem tup_le (A : Around) (s : Shared) (l b : Addr) (v1 v2 w1 w2 : Value) (e0 e1 r0 r1 : Bool) (h1 : s.heap.IsTuple l #[v1, v2]) (h2 : s.heap.IsTuple b #[w1, w2]) (hu : A.units < cLine) (q0 : SeqAt.EqAt A.in1 s v1 w1 e0) (q1 : SeqAt.EqAt A.in1 s v2 w2 e1) (c0 : Ob.RcOp .LtE A.in1 s v1 w1 r0) (c1 : Ob.RcOp .LtE A.in1 s v2 w2 r1) :
    Ob.RcOp .LtE A s (.ref l) (.ref b) (if e0 = true then (if e1 = true then true else r1) else r0) := by
  have e := Ob.RcOp.tuples_le (e := pick2 e0 e1) (r := pick2 r0 r1) h1 h2 hu (two_all (P := fun v w k => SeqAt.EqAt A.in1 s v w (pick2 e0 e1 k)) q0 q1) (fun j a b _ => two_all (P := fun v w k => Ob.RcOp .LtE A.in1 s v w (pick2 r0 r1 k)) c0 c1 j a b)
  have m : min (#[v1, v2] : Array Value).size (#[w1, w2] : Array Value).size = 2 := rfl
  have d : decide ((#[v1, v2] : Array Value).size ≤ (#[w1, w2] : Array Value).size) = true := rfl
  rw [m, d, lex2] at e
  exact e
theorem op_leIS {X : Cx} (hu : X.A.units < cLine) : OpR X (compareOp .LtE) (fun x y H Q => ∃ a b i j p q, x = .ref a ∧ y = .ref b ∧ SqT X.K H a [.int i, .str p] ∧ SqT X.K H b [.int j, .str q] ∧ Q (.bl (cmpIS (fun i j => decide (i ≤ j)) (fun x y => !sLt y x) true i j p q)) H) :=
  op_tupIS (fun _ _ => rfl) (fun _ _ a b t u => Ob.RcOp.le_int a b t u) (fun A s x y t u => rc_le A s x y t u) tup_le hu
theorem tup_gt (A : Around) (s : Shared) (l b : Addr) (v1 v2 w1 w2 : Value) (e0 e1 r0 r1 : Bool) (h1 : s.heap.IsTuple l #[v1, v2]) (h2 : s.heap.IsTuple b #[w1, w2]) (hu : A.units < cLine) (q0 : SeqAt.EqAt A.in1 s v1 w1 e0) (q1 : SeqAt.EqAt A.in1 s v2 w2 e1) (c0 : Ob.RcOp .Gt A.in1 s v1 w1 r0) (c1 : Ob.RcOp .Gt A.in1 s v2 w2 r1) :
    Ob.RcOp .Gt A s (.ref l) (.ref b) (if e0 = true then (if e1 = true then false else r1) else r0) := by
  have e := Ob.RcOp.tuples_gt (e := pick2 e0 e1) (r := pick2 r0 r1) h1 h2 hu (two_all (P := fun v w k => SeqAt.EqAt A.in1 s v w (pick2 e0 e1 k)) q0 q1) (fun j a b _ => two_all (P := fun v w k => Ob.RcOp .Gt A.in1 s v w (pick2 r0 r1 k)) c0 c1 j a b)
  have m : min (#[v1, v2] : Array Value).size (#[w1, w2] : Array Value).size = 2 := rfl
  have d : decide ((#[v1, v2] : Array Value).size > (#[w1, w2] : Array Value).size) = false := rfl
  rw [m, d, lex2] at e
  exact e
theorem op_gtIS {X : Cx} (hu : X.A.units < cLine) : OpR X (compareOp .Gt) (fun x y H Q => ∃ a b i j p q, x = .ref a ∧ y = .ref b ∧ SqT X.K H a [.int i, .str p] ∧ SqT X.K H b [.int j, .str q] ∧ Q (.bl (cmpIS (fun i j => decide (j < i)) (fun x y => sLt y x) false i j p q)) H) :=
  op_tupIS (fun _ _ => rfl) (fun _ _ a b t u => Ob.RcOp.gt_int a b t u) (fun A s x y t u => rc_gt A s x y t u) tup_gt hu
theorem tup_ge (A : Around) (s : Shared) (l b : Addr) (v1 v2 w1 w2 : Value) (e0 e1 r0 r1 : Bool) (h1 : s.heap.IsTuple l #[v1, v2]) (h2 : s.heap.IsTuple b #[w1, w2]) (hu : A.units < cLine) (q0 : SeqAt.EqAt A.in1 s v1 w1 e0) (q1 : SeqAt.EqAt A.in1 s v2 w2 e1) (c0 : Ob.RcOp .GtE A.in1 s v1 w1 r0) (c1 : Ob.RcOp .GtE A.in1 s v2 w2 r1) :
    Ob.RcOp .GtE A s (.ref l) (.ref b) (if e0 = true then (if e1 = true then true else r1) else r0) := by
  have e := Ob.RcOp.tuples_ge (e := pick2 e0 e1) (r := pick2 r0 r1) h1 h2 hu (two_all (P := fun v w k => SeqAt.EqAt A.in1 s v w (pick2 e0 e1 k)) q0 q1) (fun j a b _ => two_all (P := fun v w k => Ob.RcOp .GtE A.in1 s v w (pick2 r0 r1 k)) c0 c1 j a b)
  have m : min (#[v1, v2] : Array Value).size (#[w1, w2] : Array Value).size = 2 := rfl
  have d : decide ((#[v1, v2] : Array Value).size ≥ (#[w1, w2] : Array Value).size) = true := rfl
  rw [m, d, lex2] at e
  exact e
theorem op_geIS {X : Cx} (hu : X.A.units < cLine) : OpR X (compareOp .GtE) (fun x y H Q => ∃ a b i j p q, x = .ref a ∧ y = .ref b ∧ SqT X.K H a [.int i, .str p] ∧ SqT X.K H b [.int j, .str q] ∧ Q (.bl (cmpIS (fun i j => decide (j ≤ i)) (fun x y => !sLt x y) true i j p q)) H) :=
  op_tupIS (fun _ _ => rfl) (fun _ _ a b t u => Ob.RcOp.ge_int a b t u) (fun A s x y t u => rc_ge A s x y t u) tup_ge hu
end TX
end
section
set_option maxRecDepth 100000
set_option maxHeartbeats 4000000
/-! plans and rooms compared, put together -/
namespace TX
open PySem PySem.Spec PyProof.Rows L2 SX CW
structure RoomAt (C CR : Addr) (H : Hp) (a p : Addr) (ks : List Nat) (X : Nat → Nat → Bool) (n : List Nat) : Prop where
  pl : PlanAt C H p ks X
  ex : ∃ dx, H a = some (.ins CR dx (rflds p n))
def spPlanEq (C : Addr) : Sp := fun vs H Q _ => ∃ (p q : Addr) (ks : List Nat) (X : Nat → Nat → Bool), vs = [.ref p, .ref q] ∧ PlanAt C H p ks X ∧ PlanAt C H q ks X ∧ Q (.bl true) H
theorem sh_pairs (ks : List Nat) (X : Nat → Nat → Bool) (h : ∀ k ∈ ks, 97 ≤ k ∧ k ≤ 122) : PySem.SeqAt.shaped (.tuple ((prs ks X).map PyData.str)) = true ∧ PyData.canLay0 (.tuple ((prs ks X).map PyData.str)) = true := by
  have a := sh_flat ((prs ks X).map PyData.str) fun d hd => by
    obtain ⟨x, hx, rfl⟩ := List.mem_map.mp hd
    refine ⟨?_, by show (0 : Nat) ≤ 60; omega⟩
    unfold prs at hx
    obtain ⟨a, ha, hx⟩ := List.mem_flatMap.mp hx
    obtain ⟨b, hb, rfl⟩ := List.mem_map.mp hx
    have h1 := h a ha
    have h2 := h b (List.mem_filter.mp hb).1
    show ([a, b].toArray.all fun x => decide (x < 1114112)) = true
    simp
    omega
  have b : PySem.SeqAt.shaped (.tuple ((prs ks X).map PyData.str)) = true := a
  refine ⟨b, ?_⟩
  unfold PySem.SeqAt.shaped at b
  rw [Bool.and_eq_true] at b
  exact b.1
section
variable {P : Program} {w : World} {K : PySem.W.Frag} {mg : Str → Option Value} {base : Heap} {C CR : Addr}
theorem sc_planeq : FnScope ["self", "other"] ["self", "other"] (defScope s_Plan_eq) := ⟨rfl, rfl, rfl, by decide +kernel, rfl, by decide +kernel, by decide +kernel⟩
theorem ok_planeq {f : Addr} {fd : FuncData} (F : FunD K "__eq__" "Plan.__eq__" (defArgs s_Plan_eq) (defBody s_Plan_eq) (defScope s_Plan_eq) [] [] f fd) (T : PlanT K C) (nI : C8.InsC K C) (zi : mg "isinstance" = none) (gP : mg "Plan" = some (.ref C)) :
    FnOk P w K mg base C8.CX0 1 f fd ["self", "other"] (spPlanEq C) := by
  refine F.ok sc_planeq (fun vs H Q E h => ?_) (fun cdv A outer s H vs Q E hr h => ?_)
  · obtain ⟨p, q, ks, X, rfl, _⟩ := h
    rfl
  · obtain ⟨p, q, ks, X, rfl, hp, hq, k⟩ := h
    refine ⟨_, PSs.nox (pss_one (ps_ret (pe_and (pe_callB call_isi (by rfl) zi PyProof.Rows.boot_isinstance (pa_cons (pv 1) (pa_cons (C8.pe_gc (v := .ref C) (by rfl) ⟨_, gP, rfl⟩) pa_nil)))
      (pe_and (pe_cmpR op_eq (pe_fld (pv 0) rfl) (pe_fld (pv 1) rfl) (nomark _)) (pe_one (pe_cmpR (op_eqD hr.units) (pe_fld (pv 0) rfl) (pe_fld (pv 1) rfl) (nomark _))))))), ?_⟩
    obtain ⟨dx, tp, da, dl, h1, h2, h3, h4⟩ := hp.ex
    obtain ⟨dx', tp', da', dl', g1, g2, g3, g4⟩ := hq.ex
    refine ⟨_, rfl, _, _, .ref C, .ref C, true, rfl, .own _, .base (.ins g1 nI.cl nI.ha nI.hn nI.htk nI.hm), nI.me, _, rfl, iteT ?_⟩
    refine ⟨_, rfl, p, C, dx, _, _, rfl, h1, T.cl, T.nk, pf_kinds _ _ _ _, _, rfl, q, C, dx', _, _, rfl, g1, T.cl, T.nk, pf_kinds _ _ _ _, rfl, _, rfl, ?_⟩
    rw [decide_eq_true rfl]
    refine iteT ?_
    refine ⟨_, rfl, p, C, dx, _, _, rfl, h1, T.cl, T.np, pf_pairs _ _ _ _, _, rfl, q, C, dx', _, _, rfl, g1, T.cl, T.np, pf_pairs _ _ _ _, _, _, .tup (SqT.of h2) (dp_strs _), .tup (SqT.of g2) (dp_strs _), (sh_pairs ks X hp.abc).1, (sh_pairs ks X hp.abc).1, ?_⟩
    rw [SeqAt.eqv_refl _ (sh_pairs ks X hp.abc).2]
    exact k
/-- check_same_plan(one, other), where the plans are equal -/
def spSamePlan (C CR : Addr) : Sp := fun vs H Q _ => ∃ (a b p q : Addr) (ks : List Nat) (X : Nat → Nat → Bool) (n m : List Nat), vs = [.ref a, .ref b] ∧ RoomAt C CR H a p ks X n ∧ RoomAt C CR H b q ks X m ∧ Q .non H
theorem rf_plan (p : Addr) (n : List Nat) : (rflds p n).lookup ("plan" : Str) = some (.ref p) := by
  unfold rflds
  rw [List.lookup_cons, show (("plan" : Str) == ("plan" : Str)) = true from by decide +kernel]
theorem rf_nameV (p : Addr) (n : List Nat) : (rflds p n).lookup ("name" : Str) = some (.str (S n)) := by
  unfold rflds
  rw [List.lookup_cons, show (("name" : Str) == ("plan" : Str)) = false from by decide +kernel]
  dsimp only
  rw [List.lookup_cons, show (("name" : Str) == ("name" : Str)) = true from by decide +kernel]
end
end TX
end
section
set_option maxRecDepth 100000
set_option maxHeartbeats 4000000
namespace TX
open PySem PySem.Spec PyProof.Rows L2 SX CW
def spRoomEq (C CR : Addr) : Sp := fun vs H Q _ => ∃ (a b p q : Addr) (ks : List Nat) (X : Nat → Nat → Bool) (n m : List Nat), vs = [.ref a, .ref b] ∧ RoomAt C CR H a p ks X n ∧ RoomAt C CR H b q ks X m ∧ Q (.bl (decide (n = m))) H
def spRoomNamed (C CR : Addr) : Sp := fun vs H Q _ => ∃ (p : Addr) (ks : List Nat) (X : Nat → Nat → Bool) (n : List Nat), vs = [.ref p, .str (S n)] ∧ PlanAt C H p ks X ∧ n.length ≤ 2000 ∧ ∀ (a : Addr) (H' : Hp), RoomAt C CR H' a p ks X n → L2.Same H H' → Q (.ref a) H'
def spRoomAdd (C CR : Addr) : Sp := fun vs H Q _ => ∃ (a p : Addr) (ks : List Nat) (X : Nat → Nat → Bool) (n way : List Nat), vs = [.ref a, .str (S way)] ∧ RoomAt C CR H a p ks X n ∧ (∀ c ∈ way, c ∈ ks) ∧ way.length ≤ 2000 ∧ n.length ≤ 2000 ∧ (fol ks X n way).length ≤ 2000 ∧
  ∀ (r : Addr) (H' : Hp), RoomAt C CR H' r p ks X (fol ks X n way) → L2.Same H H' → Q (.ref r) H'
def spWayTo (C CR : Addr) : Sp := fun vs H Q _ => ∃ (a b p q : Addr) (ks : List Nat) (X : Nat → Nat → Bool) (n m : List Nat), vs = [.ref a, .ref b] ∧ RoomAt C CR H a p ks X n ∧ RoomAt C CR H b q ks X m ∧ (∀ c ∈ n, c ∈ ks) ∧ (∀ c ∈ m, c ∈ ks) ∧ n.length ≤ 2000 ∧ m.length ≤ 2000 ∧
  Q (.str (S (fol ks X [] (n.reverse ++ m)))) H
def spDist (C CR : Addr) : Sp := fun vs H Q _ => ∃ (a b p q : Addr) (ks : List Nat) (X : Nat → Nat → Bool) (n m : List Nat), vs = [.ref a, .ref b] ∧ RoomAt C CR H a p ks X n ∧ RoomAt C CR H b q ks X m ∧ (∀ c ∈ n, c ∈ ks) ∧ (∀ c ∈ m, c ∈ ks) ∧ n.length ≤ 2000 ∧ m.length ≤ 2000 ∧
  Q (.int ((fol ks X [] (n.reverse ++ m)).length : Int)) H
theorem put_nameV (p : Addr) (n m : List Nat) : putF "name" (.str (S m)) (rflds p n) = rflds p m := by
  show (if ("plan" : Str) = "name" then _ else (("plan" : Str), V.ref p) :: (if ("name" : Str) = "name" then _ else _)) = _
  rw [if_neg (by decide +kernel), if_pos rfl]
  rfl
section
variable {P : Program} {w : World} {K : PySem.W.Frag} {mg : Str → Option Value} {base : Heap} {C CR : Addr}
end
end TX
end
section
set_option maxRecDepth 100000
set_option maxHeartbeats 4000000
namespace TX
open PySem PySem.Spec PyProof.Rows L2 SX CW
/-- what the sum of an instance and a text asks of the class -/
structure AddT (K : PySem.W.Frag) (C : Addr) : Prop where
  sf : PySem.W.selfFirst K C = true
  ex : ∃ rc fo ro : Option Value, PySem.W.findIn K (.ref C) (dunderR Operator.Add.info.2) = some rc ∧ (rc = none ∨ ∃ g, rc = some (.ref g)) ∧ PySem.W.findIn K (.type "str") (dunder Operator.Add.info.2) = some fo ∧ PySem.W.findIn K (.type "str") (dunderR Operator.Add.info.2) = some ro ∧ PySem.W.subIn K (.type "str") (.ref C) = some false
theorem tyS {x : Str} : ∀ u, L2.RelV (V.str x) u → typeOf u = pure (.type "str") := fun u r => by
  obtain ⟨t, rfl⟩ := r
  rfl
theorem noF (f : Str) (p : Addr) (n : List Nat) (h1 : (f == ("plan" : Str)) = false) (h2 : (f == ("name" : Str)) = false) : (rflds p n).lookup f = none := by
  unfold rflds
  rw [List.lookup_cons, h1]
  dsimp only
  rw [List.lookup_cons, h2]
  rfl
def addB (K : PySem.W.Frag) (C : Addr) : Bool := PySem.W.selfFirst K C && (decide (PySem.W.findIn K (.ref C) (dunderR Operator.Add.info.2) = some none) && ((PySem.W.findIn K (.type "str") (dunder Operator.Add.info.2)).isSome && ((PySem.W.findIn K (.type "str") (dunderR Operator.Add.info.2)).isSome && decide (PySem.W.subIn K (.type "str") (.ref C) = some false))))
theorem addB_ok {K : PySem.W.Frag} {C : Addr} (h : addB K C = true) : AddT K C := by
  unfold addB at h
  simp only [Bool.and_eq_true, decide_eq_true_eq, Option.isSome_iff_exists] at h
  obtain ⟨h1, h2, ⟨fo, h3⟩, ⟨ro, h4⟩, h5⟩ := h
  exact ⟨h1, none, fo, ro, h2, .inl rfl, h3, h4, h5⟩
end TX
end
section
set_option maxRecDepth 100000
set_option maxHeartbeats 0
/-! the head: what is asked of the top's end -/
namespace TX
open PySem PySem.Spec PyProof.Rows L2 SX CW
def mkD (x : Str) (st : Stmt) : He.DefD := ⟨(x, none), x, x, defArgs st, defBody st, defScope st, [], []⟩
def mkM (C m q : Str) (st : Stmt) : He.DefD := ⟨(C, some m), m, q, defArgs st, defBody st, defScope st, [], []⟩
def dPlan : He.DefD := ⟨("Plan", some "__init__"), "__init__", "Plan.__init__", defArgs s_Plan_init, defBody s_Plan_init, defScope s_Plan_init, [.adr (He.dflAt ("Plan", some "__init__") 0)], []⟩
def insB (K : PySem.W.Frag) (C : Addr) : Bool :=
  He.eqO (PySem.W.findIn K (.ref C) "__class__") (some (some (.builtin "object.__class__"))) && (He.eqO (PySem.W.specialIn K (.builtin "object.__class__") "__get__") (some (some (.builtin "getset_descriptor.__get__"))) &&
  (decide (PySem.W.takesIn K (.builtin "object.__class__") = some true) && (decide (PySem.W.mroIn K C (.type "object") = some true) && decide (PySem.W.kitOne K (.ref C) (.type "str") = some false))))
theorem insB_c {K : PySem.W.Frag} {C : Addr} (cl : Cls K C) (h : insB K C = true) : C8.InsC K C ∧ PySem.W.kitOne K (.ref C) (.type "str") = some false := by
  unfold insB at h
  simp only [Bool.and_eq_true, decide_eq_true_eq] at h
  obtain ⟨h1, h2, h3, h4, h5⟩ := h
  refine ⟨⟨cl, He.eqO_ok h1, He.eqO_ok h2, h3, h4, ?_⟩, h5⟩
  unfold PySem.W.kitOne
  rw [if_pos (by simp)]
def tupAt (K : PySem.W.Frag) (a : Addr) : Bool := match K.lookup a with
  | some ⟨.type c, _, .seq its _, _⟩ => decide (c = "tuple") && its.isEmpty
  | _ => false
theorem tupAt_ok {K : PySem.W.Frag} {a : Addr} (h : tupAt K a = true) (H : Hp) : SqT K H a [] := by
  unfold tupAt at h
  split at h
  · rename_i c d its n sl e
    rw [Bool.and_eq_true, decide_eq_true_eq] at h
    obtain ⟨h1, h2⟩ := h
    have e0 : its = #[] := Array.isEmpty_iff.mp h2
    subst e0
    subst h1
    exact .inr ⟨_, #[], n, e, rfl, rfl, Nat.zero_le _, .nil⟩
  · cases h
/-- a method of the class C, as Dun asks it -/
theorem dun_of {P : Program} {w : World} {K : PySem.W.Frag} {mg : Str → Option Value} {base : Heap} {k : Nat} {C f : Addr} {nm : Str} {sp : Sp} {fd : FuncData} {ps : List Str} (F : FnOk P w K mg base C8.CX0 k f fd ps sp) (M : Meth K C nm f) (b : L2.Binds K fd ps []) : Dun P w K mg base k C nm sp :=
  ⟨⟨f, fd, ps, F, M.at_, M.fn, b⟩⟩
end TX
end
section
set_option maxRecDepth 100000
set_option maxHeartbeats 0
namespace TX
open PySem PySem.Spec PyProof.Rows L2 SX CW
def rwB (K : PySem.W.Frag) (R W : Addr) : Bool := decide (PySem.W.kitOne K (.ref R) (.ref W) = some false) && decide (PySem.W.subIn K (.ref R) (.ref W) = some false)
theorem rwB_ok {K : PySem.W.Frag} {R W : Addr} (h : rwB K R W = true) : PySem.W.kitOne K (.ref R) (.ref W) = some false ∧ PySem.W.subIn K (.ref R) (.ref W) = some false := by
  unfold rwB at h
  rwa [Bool.and_eq_true, decide_eq_true_eq, decide_eq_true_eq] at h
end TX
end
section
set_option maxRecDepth 100000
set_option maxHeartbeats 0
namespace TX
open PySem PySem.Spec PyProof.Rows L2 SX CW
/-- a class over FloorError, over ValueError, with an __init__ of its own -/
def oexT (C : Addr) (cd : ClassData) : List (Option Value) → Bool
  | [_, _, _, _, some (.builtin n), _] => decide (n = "ValueError.__new__") && (!cd.hasDel && (cd.hasDict && (match cd.mro with
    | .ref D :: bm => decide (D = C) && PySem.HandSPX.refsVE bm
    | _ => false)))
  | _ => false
def oexA (K : PySem.W.Frag) (C : Addr) : Bool := match K.lookup C with
  | some ⟨.type t, _, .cls cd, sl⟩ => decide (t = "type") && oexT C cd sl.toList
  | _ => false
/-- how fields of an error are read, and isinstance of it -/
def excB (K : PySem.W.Frag) (D : Addr) : Bool :=
  He.eqO (PySem.W.findIn K (.ref D) "__getattribute__") (some (some (.builtin "BaseException.__getattribute__"))) && (He.eqO (PySem.W.findIn K (.ref D) "__getattr__") (some none) && (decide (PySem.W.subIn K (.ref D) (.type "BaseException") = some true) && (decide (PySem.W.hasDictIn K D = true) &&
  (He.eqO (PySem.W.findIn K (.ref D) "__class__") (some (some (.builtin "object.__class__"))) && (He.eqO (PySem.W.specialIn K (.builtin "object.__class__") "__get__") (some (some (.builtin "getset_descriptor.__get__"))) &&
  (decide (PySem.W.takesIn K (.builtin "object.__class__") = some true) && decide (PySem.W.mroIn K D (.type "object") = some true)))))))
/-- an error that is raised with nothing -/
def errB (K : PySem.W.Frag) (D : Addr) : Bool :=
  PySem.W.excIn K D [.type "ValueError", .type "Exception", .type "BaseException", .type "object"] "ValueError.__new__" && (PySem.W.keepIn K (.ref D) && (decide (PySem.W.subIn K (.ref D) (.type "BaseException") = some true) && decide (PySem.W.typeIn K (.ref D) = some (.type "type"))))
def rfB (K : PySem.W.Frag) (NC OP NW FE : Addr) : Bool :=
  oexA K NC && (He.eqO (PySem.W.findIn K (.ref NC) "__setattr__") (some (some (.builtin "object.__setattr__"))) && (decide (PySem.W.typeIn K (.ref NC) = some (.type "type")) && (PySem.W.keepIn K (.ref NC) && (He.eqO (PySem.W.findIn K (.ref NC) "one") (some none) && (He.eqO (PySem.W.findIn K (.ref NC) "other") (some none) &&
  (excB K NC && (decide (PySem.W.kitOne K (.ref NC) (.ref FE) = some true) && (decide (PySem.W.exmOne K (.ref NC) (.ref NC) = some true) &&
  (errB K OP && (excB K OP && (decide (PySem.W.kitOne K (.ref OP) (.ref FE) = some true) && (decide (PySem.W.exmOne K (.ref OP) (.ref NC) = some false) && (decide (PySem.W.exmOne K (.ref OP) (.ref OP) = some true) &&
  (errB K NW && (excB K NW && (decide (PySem.W.kitOne K (.ref NW) (.ref FE) = some true) && (decide (PySem.W.exmOne K (.ref NW) (.ref NC) = some false) && (decide (PySem.W.exmOne K (.ref NW) (.ref OP) = some false) && decide (PySem.W.exmOne K (.ref NW) (.ref NW) = some true)))))))))))))))))))
end TX
end
section
set_option maxRecDepth 100000
set_option maxHeartbeats 0
namespace TX
open PySem PySem.Spec PyProof.Rows L2 SX CW
/-- an error with one field: how it is made, raised, read -/
def xfB (K : PySem.W.Frag) (D FE : Addr) (fl : Str) : Bool :=
  oexA K D && (He.eqO (PySem.W.findIn K (.ref D) "__setattr__") (some (some (.builtin "object.__setattr__"))) && (decide (PySem.W.typeIn K (.ref D) = some (.type "type")) && (PySem.W.keepIn K (.ref D) && (He.eqO (PySem.W.findIn K (.ref D) fl) (some none) && (excB K D && decide (PySem.W.kitOne K (.ref D) (.ref FE) = some true))))))
def adB (K : PySem.W.Frag) (R : Addr) (T : String) : Bool := (PySem.W.findIn K (.type T) (dunder Operator.Add.info.2)).isSome && ((PySem.W.findIn K (.type T) (dunderR Operator.Add.info.2)).isSome && decide (PySem.W.subIn K (.type T) (.ref R) = some false))
def ownB (K : PySem.W.Frag) (R C : Addr) : Bool := decide (C ≠ R) && (PySem.W.selfFirst K C && ((match PySem.W.findIn K (.ref C) (dunder Operator.Add.info.2) with
  | some (some (.ref _)) => true
  | _ => false) && (decide (PySem.W.findIn K (.ref C) (dunderR Operator.Add.info.2) = some none) && decide (PySem.W.subIn K (.ref C) (.ref R) = some false))))
def ty10B (K : PySem.W.Frag) (R C : Addr) : Bool := (["NoneType", "int", "bool", "list", "tuple", "dict", "str"] : List String).all (adB K R) && ownB K R C
def ex10B (K : PySem.W.Frag) (IW IK TL : Addr) : Bool :=
  decide (PySem.W.exmOne K (.ref IW) (.ref IW) = some true) && (decide (PySem.W.exmOne K (.ref IK) (.ref IW) = some false) && (decide (PySem.W.exmOne K (.ref IK) (.ref IK) = some true) && (decide (PySem.W.exmOne K (.ref TL) (.ref IW) = some false) && (decide (PySem.W.exmOne K (.ref TL) (.ref IK) = some false) && decide (PySem.W.exmOne K (.ref TL) (.ref TL) = some true)))))
def rm10B (K : PySem.W.Frag) (R : Addr) : Bool := PySem.W.selfFirst K R && (decide (PySem.W.findIn K (.ref R) (dunderR Operator.Add.info.2) = some none) && PySem.W.fnIn K (He.ma K R "__getitem__"))
/-- the tables of two defs are not the same -/
def twoB (K : PySem.W.Frag) (p q : He.Defn) : Bool := decide ((He.cT K p).2 ≠ (He.cT K q).2)
end TX
end
section
set_option maxRecDepth 100000
set_option maxHeartbeats 0
namespace TX
open PySem PySem.Spec PyProof.Rows L2 SX CW
def fnAt (K : PySem.W.Frag) (a : Addr) : He.FnW := match List.lookup a K with
  | some ⟨_, _, .func fd, _⟩ => some (fd.name, fd.qualname, fd.params, fd.body, fd.scope, fd.globals, fd.closure, fd.builtins)
  | _ => none
def okAt (K : PySem.W.Frag) (a : Addr) (q : Str) : Bool := PySem.W.keepIn K (.ref a) && (match List.lookup a K with
  | some ⟨_, _, .func fd, _⟩ => PySem.W.codeIn K fd.code q && (He.dflB K fd.defaults [] && He.kwdB K fd.kwdefaults [])
  | _ => false)
theorem funAt {K : PySem.W.Frag} {d : He.DefD} {a : Addr} (e : fnAt K a = He.DefD.val d) (c : okAt K a d.qual = true) : ∃ fd, FunD K d.name d.qual d.params d.body d.scope [] [] a fd := by
  unfold okAt at c
  rw [Bool.and_eq_true] at c
  obtain ⟨kp, c2⟩ := c
  unfold fnAt He.DefD.val at e
  cases lk : List.lookup a K with
  | none => rw [lk] at e; cases e
  | some o =>
    rw [lk] at e c2
    obtain ⟨oc, od, dt, osl⟩ := o
    cases dt with
    | func fd =>
      obtain ⟨f1, f2, f3, f4, f5, f6, f7, f8, f9, f10, f11, f12, f13, f14, f15⟩ := fd
      simp only [Bool.and_eq_true] at c2
      simp only [Option.some.injEq, Prod.mk.injEq] at e
      obtain ⟨e1, e2, e3, e4, e5, e6, e7, e8⟩ := e
      subst e1 e2 e3 e4 e5 e6 e7 e8
      exact ⟨_, ⟨_, _, _, _, _, _, _, _, _, _, rfl, lk, c2.1, He.dflB_ok c2.2.1, He.kwdB_ok c2.2.2⟩, kp⟩
    | _ => cases e
/-- the staticmethod's record, the def in it -/
def stP (K : PySem.W.Frag) : Addr := He.ma K (He.ga K "Plan") "ring"
def stG (K : PySem.W.Frag) : Addr := match PySem.W.recIn K (stP K) "staticmethod" with
  | some (.ref g :: _) => g
  | _ => 0
def dRing : He.DefD := mkM "Plan" "ring" "Plan.ring" s_Plan_ring
def cstB (K : PySem.W.Frag) : Bool :=
  PySem.W.readsIn K (He.ga K "Plan") (.type "type") && (He.eqO (PySem.W.specialIn K (.ref (He.ga K "Plan")) "__getattribute__") (some (some (.builtin "type.__getattribute__"))) && ((match PySem.W.findCls K (.ref (He.ga K "Plan")) (.type "type") "ring" with
    | some (.get (.builtin b) (.ref p) .none (.ref c)) => decide (b = "staticmethod.__get__") && (decide (p = stP K) && decide (c = He.ga K "Plan"))
    | _ => false) && ((match PySem.W.recIn K (stP K) "staticmethod" with
    | some (.ref _ :: _) => true
    | _ => false) && okAt K (stG K) "Plan.ring")))
def ex02B (K : PySem.W.Frag) (IP SK TM IK : Addr) : Bool :=
  decide (PySem.W.exmOne K (.ref IP) (.ref IP) = some true) && (decide (PySem.W.exmOne K (.ref SK) (.ref IP) = some false) && (decide (PySem.W.exmOne K (.ref SK) (.ref SK) = some true) && (decide (PySem.W.exmOne K (.ref TM) (.ref IP) = some false) && (decide (PySem.W.exmOne K (.ref TM) (.ref SK) = some false) && (decide (PySem.W.exmOne K (.ref TM) (.ref TM) = some true) && (decide (PySem.W.exmOne K (.ref IK) (.ref IP) = some false) && (decide (PySem.W.exmOne K (.ref IK) (.ref SK) = some false) && (decide (PySem.W.exmOne K (.ref IK) (.ref TM) = some false) && decide (PySem.W.exmOne K (.ref IK) (.ref IK) = some true)))))))))
def op02B (K : PySem.W.Frag) (C : Addr) : Bool := PySem.W.selfFirst K C && (decide (PySem.W.findIn K (.ref C) (dunderR Operator.Add.info.2) = some none) && decide (PySem.W.findIn K (.ref C) (dunderR Operator.Mult.info.2) = some none))
end TX
end
section
set_option maxRecDepth 100000
set_option maxHeartbeats 0
/-! the head, with less memory: what the names reach is gathered breadth first, a number keeping which addresses were seen -/
namespace TX
open PySem PySem.Spec PyProof.Rows L2
def seenN (m a : Nat) : Bool := Nat.beq (Nat.land (Nat.shiftRight m a) 1) 1
/-- those that were not seen yet, each once -/
def newN : List Addr → Nat → List Addr → (List Addr → Nat → List Addr) → List Addr
  | [], m, acc, k => k acc m
  | a :: r, m, acc, k => match seenN m a with
    | true => newN r m acc k
    | false => newN r (Nat.lor m (Nat.shiftLeft 1 a)) (a :: acc) k
def reachN (g : Addr → Option Obj) : Nat → List Addr → Nat → List Addr
  | 0, fr, _ => fr
  | n + 1, fr, m => fr ++ newN (fr.flatMap fun a => (match g a with
    | some o => He.refsD o
    | none => [])) m [] fun nf m' => reachN g n nf m'
def asY (g : Addr → Option Obj) (n : Nat) : List Addr := reachN g n [mainGlobals] (Nat.shiftLeft 1 mainGlobals)
def obsY (n : Nat) (fa : List He.Fa) (fn : List He.DefD) (ex : PySem.W.Frag → Bool) (g : Addr → Option Obj) : He.AlX := (He.obsT fa fn [] (He.frT g (asY g n)), ex (He.frT g (asY g n)))
theorem saysY {n : Nat} {fa : List He.Fa} {fn : List He.DefD} {ex : PySem.W.Frag → Bool} {w : World} {h : Heap} (e : obsY n fa fn ex h.get? = He.valX fn [] w) : He.SaysX fa fn [] [] ex w h (He.frT h.get? (asY h.get? n)) :=
  ⟨congrArg Prod.fst e, congrArg Prod.snd e, (fun _ z => nomatch z), (fun _ z => nomatch z), (fun _ z => nomatch z)⟩
def hookY (n : Nat) (fa : List He.Fa) (fn : List He.DefD) (ex : PySem.W.Frag → Bool) : PySem.W.Hook where
  α := He.AlX
  obs s := obsY n fa fn ex s.heap.get?
  val w := He.valX fn [] w
  says w h := ∃ L : PySem.W.Frag, L.In h ∧ He.SaysX fa fn [] [] ex w h L
  of _ _ e := ⟨_, He.frT_in, saysY e⟩
  keeps _ _ _ z k := by
    obtain ⟨L, i, c⟩ := z
    exact ⟨L, PySem.W.Frag.In.keeps i k, c.t, c.more, c.hd, c.out, fun _ y => nomatch y⟩
theorem obsY_eq {n : Nat} {fa : List He.Fa} {fn : List He.DefD} {ex : PySem.W.Frag → Bool} {g : Addr → Option Obj} {s : PySem.Shared} (h : ∀ a, g a = s.heap.get? a) : obsY n fa fn ex g = (hookY n fa fn ex).obs s := by
  rw [show g = s.heap.get? from funext h]
  rfl
end TX
end
section
set_option maxRecDepth 100000
set_option maxHeartbeats 0
/-! the head, with the tables of some defs -/
namespace TX
open PySem PySem.Spec PyProof.Rows L2
def obsZ (n : Nat) (fa : List He.Fa) (fn : List He.DefD) (tf : List He.Defn) (ex : PySem.W.Frag → Bool) (g : Addr → Option Obj) : He.AlX := (He.obsT fa fn [] (He.frT g (asY g n)), ex (He.frT g (asY g n)) && He.tabsB g tf (He.frT g (asY g n)))
theorem saysZ {n : Nat} {fa : List He.Fa} {fn : List He.DefD} {tf : List He.Defn} {ex : PySem.W.Frag → Bool} {w : World} {h : Heap} (e : obsZ n fa fn tf ex h.get? = He.valX fn [] w) : He.SaysX fa fn [] tf ex w h (He.frT h.get? (asY h.get? n)) := by
  have e2 : (ex (He.frT h.get? (asY h.get? n)) && He.tabsB h.get? tf (He.frT h.get? (asY h.get? n))) = true := congrArg Prod.snd e
  obtain ⟨x1, x2⟩ := Bool.and_eq_true_iff.mp e2
  generalize hL : He.frT h.get? (asY h.get? n) = L at x1 x2
  have each : ∀ p ∈ tf, PySem.W.codeHdIn L (He.cT L p).1 (He.cT L p).2 = true ∧ ∃ o, h.get? (He.cT L p).2 = some o ∧ He.emptyTab o = true := fun p hp => by
    have z := List.all_eq_true.mp x2 p hp
    obtain ⟨z1, z2⟩ := Bool.and_eq_true_iff.mp z
    refine ⟨z1, ?_⟩
    cases y : h.get? (He.cT L p).2 with
    | none => rw [y] at z2; cases z2
    | some o => rw [y] at z2; exact ⟨o, rfl, z2⟩
  refine ⟨by rw [← hL]; exact congrArg Prod.fst e, x1, fun p hp => (each p hp).1, fun p hp => ?_, fun p hp => ?_⟩
  · obtain ⟨_, o, y, t⟩ := each p hp
    rw [← hL] at y ⊢
    exact He.frT_none y t
  · obtain ⟨_, o, y, t⟩ := each p hp
    rw [y, He.emptyTab_eq t]
def hookZ (n : Nat) (fa : List He.Fa) (fn : List He.DefD) (tf : List He.Defn) (ex : PySem.W.Frag → Bool) : PySem.W.Hook where
  α := He.AlX
  obs s := obsZ n fa fn tf ex s.heap.get?
  val w := He.valX fn [] w
  says w h := ∃ L : PySem.W.Frag, L.In h ∧ He.SaysX fa fn [] tf ex w h L
  of _ _ e := ⟨_, He.frT_in, saysZ e⟩
  keeps _ _ _ z k := by
    obtain ⟨L, i, c⟩ := z
    exact ⟨L, PySem.W.Frag.In.keeps i k, c.t, c.more, c.hd, c.out, fun p hp => k _ _ (c.empty p hp)⟩
theorem obsZ_eq {n : Nat} {fa : List He.Fa} {fn : List He.DefD} {tf : List He.Defn} {ex : PySem.W.Frag → Bool} {g : Addr → Option Obj} {s : PySem.Shared} (h : ∀ a, g a = s.heap.get? a) : obsZ n fa fn tf ex g = (hookZ n fa fn tf ex).obs s := by
  rw [show g = s.heap.get? from funext h]
  rfl
end TX
end
section
set_option maxRecDepth 100000
set_option maxHeartbeats 0
/-! the head, with the def in a staticmethod -/
namespace TX
open PySem PySem.Spec PyProof.Rows L2
def asR (g : Addr → Option Obj) (n : Nat) : List Addr := cStatics :: asY g n
def obsR0 (n : Nat) (fa : List He.Fa) (fn : List He.DefD) (tf : List He.Defn) (ex : PySem.W.Frag → Bool) (g : Addr → Option Obj) : He.AlX := (He.obsT fa fn [] (He.frT g (asR g n)), ex (He.frT g (asR g n)) && He.tabsB g tf (He.frT g (asR g n)))
theorem saysR {n : Nat} {fa : List He.Fa} {fn : List He.DefD} {tf : List He.Defn} {ex : PySem.W.Frag → Bool} {w : World} {h : Heap} (e : obsR0 n fa fn tf ex h.get? = He.valX fn [] w) : He.SaysX fa fn [] tf ex w h (He.frT h.get? (asR h.get? n)) := by
  have e2 : (ex (He.frT h.get? (asR h.get? n)) && He.tabsB h.get? tf (He.frT h.get? (asR h.get? n))) = true := congrArg Prod.snd e
  obtain ⟨x1, x2⟩ := Bool.and_eq_true_iff.mp e2
  generalize hL : He.frT h.get? (asR h.get? n) = L at x1 x2
  have each : ∀ p ∈ tf, PySem.W.codeHdIn L (He.cT L p).1 (He.cT L p).2 = true ∧ ∃ o, h.get? (He.cT L p).2 = some o ∧ He.emptyTab o = true := fun p hp => by
    have z := List.all_eq_true.mp x2 p hp
    obtain ⟨z1, z2⟩ := Bool.and_eq_true_iff.mp z
    refine ⟨z1, ?_⟩
    cases y : h.get? (He.cT L p).2 with
    | none => rw [y] at z2; cases z2
    | some o => rw [y] at z2; exact ⟨o, rfl, z2⟩
  refine ⟨by rw [← hL]; exact congrArg Prod.fst e, x1, fun p hp => (each p hp).1, fun p hp => ?_, fun p hp => ?_⟩
  · obtain ⟨_, o, y, t⟩ := each p hp
    rw [← hL] at y ⊢
    exact He.frT_none y t
  · obtain ⟨_, o, y, t⟩ := each p hp
    rw [y, He.emptyTab_eq t]
def obsR (n : Nat) (fa : List He.Fa) (fn : List He.DefD) (tf : List He.Defn) (ex : PySem.W.Frag → Bool) (g : Addr → Option Obj) : He.AlX × He.FnW := (obsR0 n fa fn tf ex g, fnAt (He.frT g (asR g n)) (stG (He.frT g (asR g n))))
def hookR (n : Nat) (fa : List He.Fa) (fn : List He.DefD) (tf : List He.Defn) (ex : PySem.W.Frag → Bool) : PySem.W.Hook where
  α := He.AlX × He.FnW
  obs s := obsR n fa fn tf ex s.heap.get?
  val w := (He.valX fn [] w, He.DefD.val dRing)
  says w h := ∃ L : PySem.W.Frag, L.In h ∧ He.SaysX fa fn [] tf ex w h L ∧ fnAt L (stG L) = He.DefD.val dRing
  of _ _ e := ⟨_, He.frT_in, saysR (congrArg Prod.fst e), congrArg Prod.snd e⟩
  keeps _ _ _ z k := by
    obtain ⟨L, i, c, r⟩ := z
    exact ⟨L, PySem.W.Frag.In.keeps i k, ⟨c.t, c.more, c.hd, c.out, fun p hp => k _ _ (c.empty p hp)⟩, r⟩
theorem obsR_eq {n : Nat} {fa : List He.Fa} {fn : List He.DefD} {tf : List He.Defn} {ex : PySem.W.Frag → Bool} {g : Addr → Option Obj} {s : PySem.Shared} (h : ∀ a, g a = s.heap.get? a) : obsR n fa fn tf ex g = (hookR n fa fn tf ex).obs s := by
  rw [show g = s.heap.get? from funext h]
  rfl
end TX
end
section
set_option maxRecDepth 100000
set_option maxHeartbeats 0
/-! the head -/
namespace TX
open PySem PySem.Spec PyProof.Rows L2 SX CW
def fn1 : List He.DefD := [mkD "check_kind" s_check_kind, mkD "are_letters" s_are_letters, mkD "is_pair" s_is_pair, mkD "upright" s_upright, mkD "kinds_across" s_kinds_across, mkD "kinds_before" s_kinds_before, mkD "check_no_common_kind" s_check_no_common_kind, mkD "_law_pen" s_law_pen, mkD "_law_draw" s_law_draw, mkD "_law_pick" s_law_pick]
def fn2 : List He.DefD := [mkD "_law_plan" s_law_plan, mkD "_law_way" s_law_way, mkD "_law_told" s_law_told, mkD "_law_like" s_law_like, mkD "_law_put_together" s_law_put_together, mkD "law" s_law, dPlan, mkM "Plan" "__add__" "Plan.__add__" s_Plan_add, mkM "Plan" "__mul__" "Plan.__mul__" s_Plan_mul]
def fn3 : List He.DefD := [mkM "Plan" "crosses" "Plan.crosses" s_Plan_crosses, mkM "InvalidPlan" "__init__" "InvalidPlan.__init__" s_InvalidPlan_init, mkM "InvalidKind" "__init__" "InvalidKind.__init__" s_InvalidKind_init, mkM "SameKind" "__init__" "SameKind.__init__" s_SameKind_init, mkM "TooMany" "__init__" "TooMany.__init__" s_TooMany_init]
def fn : List He.DefD := fn1 ++ (fn2 ++ (fn3))
def fa1 : List He.Fa := [.glo "check_kind", .glo "are_letters", .glo "is_pair", .glo "upright", .glo "kinds_across", .glo "kinds_before", .glo "check_no_common_kind", .glo "_law_pen", .glo "_law_draw", .glo "_law_pick"]
def fa2 : List He.Fa := [.glo "_law_plan", .glo "_law_way", .glo "_law_told", .glo "_law_like", .glo "_law_put_together", .glo "law", .glo "Plan", .glo "InvalidPlan", .glo "InvalidKind", .glo "SameKind"]
def fa3 : List He.Fa := [.glo "TooMany", .glo "FloorError", .free "len", .free "set", .free "sorted", .free "tuple", .free "isinstance", .free "str", .free "all", .free "int"]
def fa4 : List He.Fa := [.free "range", .free "list", .free "min", .free "max", .free "bool", .free "zip", .int "MOST_KINDS" 8, .int "LEAST_RING" 4, .cls "Plan", .noat "Plan" "kinds"]
def fa5 : List He.Fa := [.noat "Plan" "pairs", .noat "Plan" "across", .noat "Plan" "lesser", .mkr "Plan", .meth "Plan" "__add__", .meth "Plan" "__mul__", .meth "Plan" "crosses", .meth "InvalidPlan" "__init__", .meth "InvalidKind" "__init__", .meth "SameKind" "__init__"]
def fa6 : List He.Fa := [.meth "TooMany" "__init__"]
def fa : List He.Fa := fa1 ++ (fa2 ++ (fa3 ++ (fa4 ++ (fa5 ++ (fa6)))))
def ex (K : PySem.W.Frag) : Bool := insB K (He.ga K "Plan") && ((tupAt K (He.dflAt ("Plan", some "__init__") 0 K) && (xfB K (He.ga K "InvalidPlan") (He.ga K "FloorError") "value" && (xfB K (He.ga K "InvalidKind") (He.ga K "FloorError") "value" && (xfB K (He.ga K "SameKind") (He.ga K "FloorError") "kind" && (xfB K (He.ga K "TooMany") (He.ga K "FloorError") "most" && (ex02B K (He.ga K "InvalidPlan") (He.ga K "SameKind") (He.ga K "TooMany") (He.ga K "InvalidKind") && (op02B K (He.ga K "Plan") && (cstB K && (twoB K ("_law_put_together", none) ("law", none)))))))))))
def tf : List He.Defn := [("_law_put_together", none), ("law", none)]
abbrev R : PySem.W.OpenRow := PySem.W.OpenLaw.row PySem.Challenge.rw_crosswalls_k02_plans_refused
abbrev hk : PySem.W.Hook := hookR 6 fa fn tf ex
def ob (s : PySem.W.SharedT) : He.AlX × He.FnW := obsR 6 fa fn tf ex (HandSHeadRun.getT s)
theorem ob_eq (s : PySem.W.SharedT) : ob s = hk.obs s.abs := obsR_eq (HandSHeadRun.getT_eq s)
def names1 : List PySem.Str := ["_wall", "__name__", "FloorError", "InvalidPlan", "InvalidKind", "SameKind", "TooMany", "check_kind", "MOST_KINDS", "LEAST_RING"]
def names2 : List PySem.Str := ["Plan", "are_letters", "is_pair", "upright", "kinds_across", "kinds_before", "check_no_common_kind", "_law_pen", "_law_draw", "_law_pick"]
def names3 : List PySem.Str := ["_law_plan", "_law_way", "_law_told", "_law_like", "_law_put_together"]
def names : List PySem.Str := names1 ++ (names2 ++ (names3))
theorem run (w : World) : HandSHeadRun.RunEq R (PySem.W.view R.prog [28]) hk ob 20000 names w := by
  intro os
  kernel_rfl
end TX
end
section
set_option maxRecDepth 100000
set_option maxHeartbeats 4000000
/-! two lists of the same objects compared -/
namespace TX
open PySem PySem.Spec PyProof.Rows L2
theorem vals_refs : ∀ {rs : List Addr} {its : List Value}, Vals (rs.map V.ref) its → its = rs.map Value.ref
  | [], its, h => by cases h; rfl
  | a :: rs, its, h => by
    cases h with
    | cons r1 r2 =>
      have e : _ = Value.ref a := r1
      rw [e, vals_refs r2]
      rfl
def rNeSame (K : PySem.W.Frag) : R2 := fun x y H Q => ∃ (a b : Addr) (rs : List Addr), x = .ref a ∧ y = .ref b ∧ SqL K H a (rs.map V.ref) ∧ SqL K H b (rs.map V.ref) ∧ Q (.bl false) H
theorem op_neSame {X : Cx} (hu : X.A.units < cLine) : OpR X (compareOp .NotEq) (rNeSame X.K) := by
  intro pins s σ H x y v u Q I rx ry h
  obtain ⟨a, b, rs, rfl, rfl, h1, h2, q⟩ := h
  have ev : v = .ref a := rx
  have eu : u = .ref b := ry
  subst ev
  subst eu
  obtain ⟨its, vi, ti, _⟩ := I.list h1
  obtain ⟨jts, vj, tj, _⟩ := I.list h2
  have e1 := vals_refs vi
  have e2 := vals_refs vj
  subst e1
  subst e2
  have z := SeqAt.RcNeAt.lists (A := X.A) (e := fun _ => true) ti.isList tj.isList rfl hu fun j _ _ => SeqAt.EqAt.same _
  have al : ((List.range (rs.map Value.ref).toArray.size).all fun _ => true) = true := by
    rw [List.all_eq_true]
    intro _ _
    rfl
  rw [al] at z
  show wpAny (model X.prog X.w) X.A (richCompare .NotEq (.ref a) (.ref b)) (EP X pins σ Q) X.xe s
  exact z _ _ _ _ ⟨.bl false, H, I, rfl, q⟩
def rNeNil (K : PySem.W.Frag) : R2 := fun x y H Q => ∃ (a b : Addr) (xs : List V), x = .ref a ∧ y = .ref b ∧ SqL K H a xs ∧ SqL K H b [] ∧ Q (.bl (!xs.isEmpty)) H
theorem op_neNil {X : Cx} (hu : X.A.units < cLine) : OpR X (compareOp .NotEq) (rNeNil X.K) := by
  intro pins s σ H x y v u Q I rx ry h
  obtain ⟨a, b, xs, rfl, rfl, h1, h2, q⟩ := h
  have ev : v = .ref a := rx
  have eu : u = .ref b := ry
  subst ev
  subst eu
  obtain ⟨its, vi, ti, _⟩ := I.list h1
  obtain ⟨jts, vj, tj, _⟩ := I.list h2
  cases vj
  show wpAny (model X.prog X.w) X.A (richCompare .NotEq (.ref a) (.ref b)) (EP X pins σ Q) X.xe s
  cases vi with
  | nil =>
    have z := SeqAt.RcNeAt.lists (A := X.A) (e := fun _ => true) ti.isList tj.isList rfl hu fun j h _ => absurd h (by simp)
    exact z _ _ _ _ ⟨.bl false, H, I, rfl, q⟩
  | cons r1 r2 =>
    have z := SeqAt.RcNeAt.lists_lengths (A := X.A) ti.isList tj.isList (by simp) hu
    exact z _ _ _ _ ⟨.bl true, H, I, rfl, q⟩
def rEqNil (K : PySem.W.Frag) : R2 := fun x y H Q => ∃ (a b : Addr) (xs : List V), x = .ref a ∧ y = .ref b ∧ SqL K H a xs ∧ SqL K H b [] ∧ Q (.bl xs.isEmpty) H
theorem op_eqNil {X : Cx} (hu : X.A.units < cLine) : OpR X (compareOp .Eq) (rEqNil X.K) := by
  intro pins s σ H x y v u Q I rx ry h
  obtain ⟨a, b, xs, rfl, rfl, h1, h2, q⟩ := h
  have ev : v = .ref a := rx
  have eu : u = .ref b := ry
  subst ev
  subst eu
  obtain ⟨its, vi, ti, _⟩ := I.list h1
  obtain ⟨jts, vj, tj, _⟩ := I.list h2
  cases vj
  show wpAny (model X.prog X.w) X.A (richCompare .Eq (.ref a) (.ref b)) (EP X pins σ Q) X.xe s
  cases vi with
  | nil =>
    have z := SeqAt.RcAt.lists (A := X.A) (e := fun _ => true) ti.isList tj.isList rfl hu fun j h _ => absurd h (by simp)
    exact z _ _ _ _ ⟨.bl true, H, I, rfl, q⟩
  | cons r1 r2 =>
    have z := SeqAt.RcAt.lists_lengths (A := X.A) ti.isList tj.isList (by simp) hu
    exact z _ _ _ _ ⟨.bl false, H, I, rfl, q⟩
end TX
end
section
set_option maxRecDepth 100000
set_option maxHeartbeats 4000000
/-! two tuples of the same texts, truths and objects compared -/
namespace TX
open PySem PySem.Spec PyProof.Rows L2
def plainV : V → Bool
  | .str _ => true
  | .ref _ => true
  | .bl _ => true
  | .int _ => true
  | .non => true
  | _ => false
theorem eq_plain {A : Around} {s : Shared} {v : V} {u1 u2 : Value} (h : plainV v = true) (r1 : L2.RelV v u1) (r2 : L2.RelV v u2) : SeqAt.EqAt A s u1 u2 true := by
  cases v with
  | str x =>
    obtain ⟨t1, rfl⟩ := r1
    obtain ⟨t2, rfl⟩ := r2
    have z := SeqAt.EqAt.str_str (A := A) (s := s) x t1 x t2
    rw [show (x == x) = true from beq_self_eq_true x] at z
    exact z
  | ref a =>
    have e1 : u1 = .ref a := r1
    have e2 : u2 = .ref a := r2
    rw [e1, e2]
    exact SeqAt.EqAt.same _
  | int i =>
    obtain ⟨t1, rfl⟩ := r1
    obtain ⟨t2, rfl⟩ := r2
    have z := SeqAt.EqAt.int_int (A := A) (s := s) i t1 i t2
    rw [show (i == i) = true from beq_self_eq_true i] at z
    exact z
  | non =>
    have e1 : u1 = .none := r1
    have e2 : u2 = .none := r2
    rw [e1, e2]
    exact SeqAt.EqAt.same _
  | bl b =>
    have e1 : u1 = .bool b := r1
    have e2 : u2 = .bool b := r2
    rw [e1, e2]
    exact SeqAt.EqAt.same _
  | _ => cases h
theorem vals_at : ∀ {xs : List V} {its : List Value} {j : Nat} {u : Value}, Vals xs its → its[j]? = some u → ∃ v, xs[j]? = some v ∧ L2.RelV v u
  | [], its, j, u, h, e => by cases h; cases e
  | x :: xs, its, j, u, h, e => by
    cases h with
    | cons r rr =>
      cases j with
      | zero => cases e; exact ⟨x, rfl, r⟩
      | succ j => exact vals_at (j := j) rr e
theorem all_plain {A : Around} {s : Shared} {xs : List V} {its jts : List Value} (h : ∀ v ∈ xs, plainV v = true) (v1 : Vals xs its) (v2 : Vals xs jts) (j : Nat) (h1 : j < its.toArray.size) (h2 : j < jts.toArray.size) : SeqAt.EqAt A s its.toArray[j] jts.toArray[j] true := by
  have l1 : j < its.length := by simpa using h1
  have l2 : j < jts.length := by simpa using h2
  obtain ⟨v, e1, r1⟩ := vals_at v1 (List.getElem?_eq_getElem l1)
  obtain ⟨v', e2, r2⟩ := vals_at v2 (List.getElem?_eq_getElem l2)
  rw [e1] at e2
  cases e2
  have z := eq_plain (A := A) (s := s) (h v (List.mem_of_getElem? e1)) r1 r2
  simpa using z
def rTupNe (K : PySem.W.Frag) : R2 := fun x y H Q => ∃ (a b : Addr) (xs : List V), x = .ref a ∧ y = .ref b ∧ SqT K H a xs ∧ SqT K H b xs ∧ (∀ v ∈ xs, plainV v = true) ∧ Q (.bl false) H
def rTupEq (K : PySem.W.Frag) : R2 := fun x y H Q => ∃ (a b : Addr) (xs : List V), x = .ref a ∧ y = .ref b ∧ SqT K H a xs ∧ SqT K H b xs ∧ (∀ v ∈ xs, plainV v = true) ∧ Q (.bl true) H
theorem range_true (n : Nat) : ((List.range n).all fun _ => true) = true := by
  rw [List.all_eq_true]
  intro _ _
  rfl
theorem op_neTup {X : Cx} (hu : X.A.units < cLine) : OpR X (compareOp .NotEq) (rTupNe X.K) := by
  intro pins s σ H x y v u Q I rx ry h
  obtain ⟨a, b, xs, rfl, rfl, h1, h2, hp, q⟩ := h
  have ev : v = .ref a := rx
  have eu : u = .ref b := ry
  subst ev
  subst eu
  obtain ⟨its, vi, ti, _⟩ := I.tuple h1
  obtain ⟨jts, vj, tj, _⟩ := I.tuple h2
  have sz : its.toArray.size = jts.toArray.size := by
    have := vi.length
    have := vj.length
    simp
    omega
  have z := SeqAt.RcNeAt.tuples (A := X.A) (e := fun _ => true) ti tj hu fun j a1 a2 => all_plain hp vi vj j a1 a2
  show wpAny (model X.prog X.w) X.A (richCompare .NotEq (.ref a) (.ref b)) (EP X pins σ Q) X.xe s
  have k : EP X pins σ Q (.bool false) s := ⟨.bl false, H, I, rfl, q⟩
  simp only [sz, range_true, decide_true, Bool.and_self, Bool.and_true, beq_self_eq_true, Bool.not_true] at z
  exact z _ _ _ _ k
theorem op_eqTup {X : Cx} (hu : X.A.units < cLine) : OpR X (compareOp .Eq) (rTupEq X.K) := by
  intro pins s σ H x y v u Q I rx ry h
  obtain ⟨a, b, xs, rfl, rfl, h1, h2, hp, q⟩ := h
  have ev : v = .ref a := rx
  have eu : u = .ref b := ry
  subst ev
  subst eu
  obtain ⟨its, vi, ti, _⟩ := I.tuple h1
  obtain ⟨jts, vj, tj, _⟩ := I.tuple h2
  have sz : its.toArray.size = jts.toArray.size := by
    have := vi.length
    have := vj.length
    simp
    omega
  have z := SeqAt.RcAt.tuples (A := X.A) (e := fun _ => true) ti tj hu fun j a1 a2 => all_plain hp vi vj j a1 a2
  show wpAny (model X.prog X.w) X.A (richCompare .Eq (.ref a) (.ref b)) (EP X pins σ Q) X.xe s
  have k : EP X pins σ Q (.bool true) s := ⟨.bl true, H, I, rfl, q⟩
  simp only [sz, range_true, decide_true, Bool.and_self, Bool.and_true, beq_self_eq_true, Bool.not_true] at z
  exact z _ _ _ _ k
end TX
end
section
set_option maxRecDepth 100000
set_option maxHeartbeats 4000000
/-! an error with an __init__ of its own, made where nothing is handled: its context is None -/
namespace TX
open PySem PySem.Spec PyProof.Rows L2
theorem mk_endN {X : Cx} {pins : List (Addr × Obj)} {σ : L2.St} {H1 H2 : Hp} {Q : XK} {hp hp2 h2 : Heap} {g1 g2 : Array GenState} {d1 d2 : Drawn} {t1 t2 : Nat} {os1 os2 : OsState} {a C d : Addr} {fs : List (Str × V)}
    (T : L2.Raises X (.ref C)) (I1 : L2.Inv X pins σ H1 ⟨hp, g1, d1, t1, os1⟩) (ha : hp.objs.size ≤ a) (k : ∀ b o, hp.get? b = some o → hp2.get? b = some o) (un : L2.Un (L2.frs X.stack) [] (upd H1 a (exo a C none)) H2 hp2 h2) (hok : HOk X.prog X.w H2 h2) (ho : os2 = os1) (hb : AllBare g2)
    (ea : H2 a = some (exo a C (some d))) (ed : H2 d = some (exd d fs)) (hd1 : H1 d = none) (q : Q (.ref C) (some d) (upd (del H2 a) d (.xd fs))) : L2N.MkP X pins σ Q (.ref a) ⟨h2, g2, d2, t2, os2⟩ := by
  obtain ⟨t0, G, J, kG, ge, hoe, na⟩ := L2.mk_end0 I1 ha k un hok ho hb ea ed hd1
  exact ⟨a, _, _, ⟨G, g2, d2, t2, os2⟩, _, .ref C, some d, rfl, J, kG, ge, hoe, ⟨rfl, rfl, fun vs e => by cases e; rfl⟩, rfl, rfl, na, rfl, hb, T, q⟩
theorem pmk_oexN {X : Cx} {e : Expr} {es : List Expr} {ta : TA} {p pos : Pos} {CX : CXT} {x : Str} {C fI : Addr} {k : Nat} {fd : FuncData} {ps : List Str} {sp : Sp} {ds : List Value} {dvs : List V}
    (T : OexC X.K C) (iC : PySem.W.findIn X.K (.ref C) "__init__" = some (some (.ref fI))) (tI : PySem.W.typeIn X.K (.ref fI) = some (.type "function")) (F1 : FnOk X.prog X.w X.K X.mg X.base CX k fI fd ps sp) (hr : L2.Room (k + 1) X.A) (hb : L2.Binds X.K fd ps ds) (hd : Vals dvs ds) (hx : Passes CX X fun _ _ _ => False) (hg : Gl X x) (hm : X.mg x = some (.ref C)) (ha : PA X (e :: es) ta)
    (hdb : (x == ("__debug__" : Str)) = false := by rfl) (he : starEach (e :: es) X.env = (false, eval e X.env) :: starEach es X.env := by rfl) (hpl : (backTo pos (starEach es X.env)).any (·.1) = false := by rfl) :
    L2N.PMk X (.Call (.Name x p) (e :: es) [] pos) (tMkO C sp dvs ta) := by
  intro pins s σ H Q I h
  obtain ⟨nm, q, N, bs, bm, sn, sub, ab, col, dd, k0, k1, k2, k3, k5, hC, hbm⟩ := T.cls
  refine wpAny_Call_Name_kw (ld_glob I hg hm ?_ hdb)
  refine PySem.W.callWith_K (h₀ := X.base) I.ok.mod.kin T.kC (thn (ha.run pos pins s σ H _ I h) fun us s1 hh => ?_) he hpl
  obtain ⟨vs, H1, I1, r1, hz, q1⟩ := hh
  refine ⟨I1.kIn, ?_⟩
  obtain ⟨hp, g, dr, tk, os⟩ := s1
  have hsz := Nat.le_succ hp.objs.size
  have hn : H1 (hp.objs.size + 1) = none := I1.hok.fresh hsz
  have hq := q1 (hp.objs.size + 1) hn
  have kk : ∀ b o, hp.get? b = some o → ((hp.push (PySem.W.kdv_tup us)).push (HandSPX.excO C hp.objs.size)).get? b = some o := fun b o e => Heap.get?_push_of_some _ (Heap.get?_push_of_some _ e)
  have hget : ((hp.push (PySem.W.kdv_tup us)).push (HandSPX.excO C hp.objs.size)).get? (hp.objs.size + 1) = some (HandSPX.excO C hp.objs.size) := Heap.get?_push_at (by rw [Heap.size_push]) rfl
  have I2 := I1.laid (t' := tk) kk hsz (L2.exo_ok hget)
  have r2 : Vals (V.ref (hp.objs.size + 1) :: (vs ++ dvs)) (Value.ref (hp.objs.size + 1) :: (us ++ ds)) := .cons rfl (Vals.append r1 hd)
  have hl : (Value.ref (hp.objs.size + 1) :: (us ++ ds)).length = ps.length := by rw [← r2.length]; exact F1.len _ _ _ _ hq
  have hus : us.length ≤ sizeLine := by
    have := r1.length
    rw [sizeLine_eq]
    omega
  refine wpAny_call (HandSPX.call_own F.excBase_ValueError (fun Y => HandSPX.refsVE_contains Y bm hbm) (I1.kIn C _ hC) (PySem.W.looks_findIn I1.kIn iC) (fun self => PySem.W.bind_fn I1.kIn self tI) hus (codeAny_mono (F1.run (X.A.under (Code.builtin "type.__call__" ⟨.ref C :: us, []⟩)) X.stack ⟨(hp.push (PySem.W.kdv_tup us)).push (HandSPX.excO C hp.objs.size), g, dr, tk, os⟩ _ ⟨.ref (hp.objs.size + 1) :: us, []⟩ _ _ _ _ (hr.make C us []) (I2.env0.make C us []) (hb _ _ I2.kIn hl) r2 hq) fun r s' hq' => ?_))
  cases r with
  | error er => exact hx pins σ _ _ er s' I2 hq'
  | ok fl =>
    cases fl with
    | ret u =>
      obtain ⟨v, H2, os2, bare2, un2, hok2, rv, ev, d, fs, ea, ed, hd1, q2⟩ := hq'
      subst ev
      obtain ⟨h2, g2, d2, t2, os'⟩ := s'
      exact ⟨rv, mk_endN (L2.raises_own T.exC T.tyC) I1 hsz kk un2 hok2 os2 bare2 ea ed hd1 q2⟩
    | _ => exact hq'.elim
end TX
end
section
set_option maxRecDepth 100000
set_option maxHeartbeats 4000000
/-! defs that may raise an error of one own field; such errors made and raised -/
namespace TX
open PySem PySem.Spec PyProof.Rows L2
/-- a def under its name, which may let errors out -/
structure CalN (P : Program) (w : World) (K : PySem.W.Frag) (mg : Str → Option Value) (base : Heap) (k : Nat) (x : Str) (sp : Sp) : Prop where
  ex : ∃ (f : Addr) (fd : FuncData) (ps : List Str), FnOk P w K mg base (L2N.CX P w) k f fd ps sp ∧ mg x = some (.ref f) ∧ PySem.W.keepIn K (.ref f) = true ∧ L2.Binds K fd ps []
section
variable {P : Program} {w : World} {K : PySem.W.Frag} {mg : Str → Option Value} {base : Heap}
theorem D.calN {x : Str} {st : Stmt} {N ps : List Str} {k : Nat} {sp : Sp} (F : D K mg x st []) (Sc : FnScope N ps (defScope st))
    (hb : ∀ (f : Addr) (fd : FuncData), FunD K x x (defArgs st) (defBody st) (defScope st) [] [] f fd → L2.Binds K fd ps []) (len : ∀ vs H Q E, sp vs H Q E → vs.length = ps.length)
    (hbody : ∀ (f : Addr) (cdv : Value) (A : Around) (outer : List Env) (s : Shared) (H : Hp) (vs : List V) (Q : VK) (E : XK), L2.Room k (A.deeper (envOfC x (defScope st) s.heap.objs.size f cdv)) → sp vs H Q E →
      ∃ t, PSs (cxOf (L2N.CX P w) P w K mg base N x (defScope st) f cdv A outer s H E) (defBody st) t ∧ t { nx := fun _ H' => Q .non H', rt := Q } (L2.start N vs) H) : CalN P w K mg base (k + 1) x sp := by
  obtain ⟨f, fd, F, g⟩ := F.ex
  exact ⟨f, fd, ps, F.ok Sc len fun cdv A outer s H vs Q E hr h => hbody f cdv A outer s H vs Q E hr h, g, F.kp, hb f fd F⟩
end
section
variable {X : Cx} {k j : Nat} {x : Str} {sp : Sp} {W : WX} {p pos : Pos} {e : Expr} {es : List Expr} {t : TA}
/-- x(e, ..), in a def that takes what it lets out -/
theorem pe_cN (c : CalN X.prog X.w X.K X.mg X.base k x sp) (hr : L2.Room j X.A) (hk : k ≤ j) (hg : Gl X x) (tk : L2N.Takes X W) (ha : PA X (e :: es) t)
    (hdb : (x == ("__debug__" : Str)) = false := by decide) (he : starEach (e :: es) X.env = (false, eval e X.env) :: starEach es X.env := by rfl) (hpl : (backTo pos (starEach es X.env)).any (·.1) = false := by rfl) :
    PE X (.Call (.Name x p) (e :: es) [] pos) (tCallS sp (WE W) t) := by
  obtain ⟨f, fd, ps, F, hm, kp, b⟩ := c.ex
  exact pe_callS F (hr.mono hk) hg hm kp b (fun σ => L2N.passAt tk σ) ha hdb he hpl
end
/-- the __init__ of an error with one field -/
def spErr1 (D : Addr) (fl : Str) : Sp := fun vs H Q _ => ∃ (a : Addr) (v : V), vs = [.ref a, v] ∧ H a = some (exo a D none) ∧ ∀ d, H d = none → d ≠ a → Q .non (upd (upd H d (exd d [(fl, v)])) a (exo a D (some d)))
/-- an own class of an error with one field -/
structure ErrC (P : Program) (w : World) (K : PySem.W.Frag) (mg : Str → Option Value) (base : Heap) (nm fl : Str) (D : Addr) : Prop where
  ox : OexC K D
  nf : PySem.W.findIn K (.ref D) fl = some none
  g : mg nm = some (.ref D)
  ex : ∃ fI fdI q, FnOk P w K mg base C8.CX0 1 fI fdI ["self", q] (spErr1 D fl) ∧ Meth K D "__init__" fI ∧ L2.Binds K fdI ["self", q] []
theorem fnTy {K : PySem.W.Frag} {f : Addr} (h : PySem.W.isFn K (.ref f) = true) : PySem.W.typeIn K (.ref f) = some (.type "function") := by
  unfold PySem.W.isFn at h
  exact beq_iff_eq.mp h
theorem pmk_err1 {X : Cx} {nm fl : Str} {D : Addr} {e : Expr} {te : TE} {p pos : Pos} {j : Nat} (C : ErrC X.prog X.w X.K X.mg X.base nm fl D) (hr : L2.Room j X.A) (h2 : 2 ≤ j) (hg : Gl X nm) (he : PE X e te) (hdb : (nm == ("__debug__" : Str)) = false := by rfl)
    (h1 : starEach (e :: []) X.env = (false, eval e X.env) :: starEach [] X.env := by rfl) (hpl : (backTo pos (starEach [] X.env)).any (·.1) = false := by rfl) :
    L2N.PMk X (.Call (.Name nm p) [e] [] pos) (tMkO D (spErr1 D fl) [] (tCons te tNil)) := by
  obtain ⟨fI, fdI, q, F, M, b⟩ := C.ex
  exact pmk_oexN C.ox M.at_ (fnTy M.fn) F (hr.mono h2) b .nil pass0 hg C.g (pa_cons he pa_nil (hs := h1)) hdb h1 hpl
/-- the reading of an error that is made -/
theorem err1 {D : Addr} {fl : Str} {v : V} {H : Hp} {R : XK} (h : ∀ d H', H' d = some (.xd [(fl, v)]) → L2.Same H H' → R (.ref D) (some d) H') :
    [v].length ≤ 1000 ∧ ∀ a, H a = none → spErr1 D fl (.ref a :: ([v] ++ [])) (upd H a (exo a D none)) (fun u H2 => u = .non ∧ ∃ (d : Addr) (fs : List (Str × V)), H2 a = some (exo a D (some d)) ∧ H2 d = some (exd d fs) ∧ H d = none ∧ R (.ref D) (some d) (upd (del H2 a) d (.xd fs))) (fun _ _ _ => False) := by
  refine ⟨by show 1 ≤ 1000; decide, fun a ha => ⟨a, v, rfl, upd_same, fun d hd ne => ?_⟩⟩
  have hd' : H d = none := by
    rw [upd_ne ne] at hd
    exact hd
  refine ⟨rfl, d, [(fl, v)], upd_same, by rw [upd_ne ne]; exact upd_same, hd', h d _ upd_same fun b o q => ?_⟩
  have n1 : b ≠ a := ne_of_none q ha
  have n2 : b ≠ d := ne_of_none q hd'
  rw [upd_ne n2]
  show (if b = a then none else _) = _
  rw [if_neg n1, upd_ne n1, upd_ne n2, upd_ne n1]
  exact q
end TX
end
section
set_option maxRecDepth 100000
set_option maxHeartbeats 4000000
/-! are_letters, is_pair of any values -/
namespace TX
open PySem PySem.Spec PyProof.Rows L2 SX CW
theorem foldA_len : ∀ (xs l : List Str), (xs.foldl addT l).length ≤ l.length + xs.length
  | [], l => Nat.le_refl _
  | x :: xs, l => by
    have h := foldA_len xs (addT l x)
    have h2 : (addT l x).length ≤ l.length + 1 := addT_len l x
    simp only [List.foldl_cons, List.length_cons]
    omega
theorem fold_all : ∀ (xs l : List Str), (xs.foldl addT l).length = l.length + xs.length → xs.Nodup ∧ ∀ y ∈ xs, y ∉ l
  | [], l, _ => ⟨List.nodup_nil, fun y h => by cases h⟩
  | x :: xs, l, h => by
    have h1 := foldA_len xs (addT l x)
    simp only [List.foldl_cons, List.length_cons] at h
    by_cases hx : x ∈ l
    · have e : addT l x = l := by
        unfold addT
        simp [hx]
      rw [e] at h h1
      omega
    · have e : addT l x = x :: l := by
        unfold addT
        simp [hx]
      rw [e] at h
      obtain ⟨a, b⟩ := fold_all xs (x :: l) (by rw [h, List.length_cons]; omega)
      refine ⟨List.nodup_cons.mpr ⟨fun hm => b x hm List.mem_cons_self, a⟩, fun y hy => ?_⟩
      rcases List.mem_cons.mp hy with rfl | hy
      · exact hx
      · exact fun hl => b y hy (List.mem_cons_of_mem _ hl)
theorem nodup_ones {l : List Nat} (h : (signs (S l)).Nodup) : l.Nodup := by
  rw [signs_S] at h
  have h2 : List.Pairwise (fun a b => S [a] ≠ S [b]) l := by
    have h3 : List.Pairwise _ (l.map fun c => S [c]) := h
    rw [List.pairwise_map] at h3
    exact h3
  exact h2.imp fun hn e => hn (by rw [e])
theorem len_letters (l : List Nat) : decide (V.int ((allT (signs (S l))).length : Int) = V.int ((S l).length : Int)) = decide l.Nodup := by
  rw [decide_eq_decide]
  constructor
  · intro e
    have e2 := V.int.inj e
    have e3 : (allT (signs (S l))).length = ([] : List Str).length + (signs (S l)).length := by
      rw [signs_S, List.length_map, List.length_nil]
      rw [S_len] at e2
      have : (allT (signs (S l))).length = l.length := by omega
      rw [signs_S] at this
      omega
    exact nodup_ones (fold_all (signs (S l)) [] e3).1
  · intro nd
    rw [allT_length (nodup_signs nd), signs_S, List.length_map, S_len]
def inAZ (c : Nat) : Bool := decide (97 ≤ c) && decide (c ≤ 122)
def letB (l : List Nat) : Bool := decide l.Nodup && l.all inAZ
def pairB (zs : List Nat) : List Nat → Bool
  | [a, b] => a != b && (zs.contains a && zs.contains b)
  | _ => false
def spLetG (K : PySem.W.Frag) : Sp := fun vs H Q _ => ∃ y : V, vs = [y] ∧ ((∃ t, TyX K H y t ∧ PySem.W.kitOne K t (.type "str") = some false ∧ Q (.bl false) H) ∨ ∃ l : List Nat, y = .str (S l) ∧ l.length ≤ 1000 ∧ ∀ H', L2.Same H H' → Q (.bl (letB l)) H')
def spPairG (K : PySem.W.Frag) : Sp := fun vs H Q _ => ∃ (zs : List Nat) (y : V), vs = [.str (S zs), y] ∧ ((∃ t, TyX K H y t ∧ PySem.W.kitOne K t (.type "str") = some false ∧ Q (.bl false) H) ∨ ∃ l : List Nat, y = .str (S l) ∧ l.length ≤ 90000 ∧ Q (.bl (pairB zs l)) H)
section
variable {P : Program} {w : World} {K : PySem.W.Frag} {mg : Str → Option Value} {base : Heap}
theorem ok_lettersG (F : D K mg "are_letters" s_are_letters []) (zi : mg "isinstance" = none) (zs : mg "str" = none) (zl : mg "len" = none) (zt : mg "set" = none) (za : mg "all" = none) : C8.Cal P w K mg base 1 "are_letters" (spLetG K) [] := by
  refine F.cal (ps := ["value"]) sc_letters (fun f fd F => F.bindsN fun _ _ _ _ _ _ us hl => match us, hl with | [_], _ => rfl) (fun vs H Q E h => ?_) (fun f cdv A outer s H vs Q E hr h => ?_)
  · obtain ⟨y, rfl, _⟩ := h
    rfl
  · obtain ⟨y, rfl, h⟩ := h
    refine ⟨_, pss_cons (ps_if (pt_not (pt_val (pe_callB call_isi (by rfl) zi PyProof.Rows.boot_isinstance (pa_cons (pv 0) (pa_cons (pe_bltn (v := .ty "str") (by rfl) zs (by decide +kernel) rfl) pa_nil))))) (pss_one (ps_ret pe_bl)) pss_nil)
      (pss_one (ps_ret (pe_and (pe_cmpR op_eq (pe_callB cr_lenST (by rfl) zl PySem.boot_len (pa_cons (pe_callTy (cr_setTxt rfl) (by rfl) zt PyProof.Rows.boot_set (pa_cons (pv 0) pa_nil)) pa_nil)) (pe_callB call_len_str (by rfl) zl PySem.boot_len (pa_cons (pv 0) pa_nil)) (nomark _))
        (pe_one (pe_callB (cr_all rfl) (by rfl) za (by decide +kernel) (pa_cons (pe_lc (own := [("letter", 1)]) (g := gName 1) rfl sc_letters.nd (pi_str (pv 0)) (blkOk_by (own := [("letter", 1)]) (N := ["value", "letter"]) (sc := defScope s_are_letters) (by decide +kernel))
          (fun _ _ _ _ _ => pg_name (i := 1) sc_letters.nd rfl (.inl rfl)) (fun _ _ _ _ _ => pts_nil) (fun _ _ _ _ _ => pe_chain op_le_str op_le_str pe_str (pv 1) pe_str)) pa_nil)))))), ?_⟩
    rcases h with ⟨t, ty, kt, q⟩ | ⟨l, rfl, hn, q⟩
    · exact ⟨_, rfl, _, _, t, .type "str", false, rfl, .ty _, ty, kt, _, rfl, iteT q⟩
    refine ⟨_, rfl, _, _, .type "str", .type "str", true, rfl, .ty _, .base (.str _), kit_ty (by decide +kernel), _, rfl, iteF ?_⟩
    refine ⟨_, rfl, _, rfl, (by rw [S_len]; unfold scanBound; omega), fun p hp => ?_⟩
    refine ⟨_, _, rfl, upd_same, _, rfl, _, rfl, (by rw [S_len]; exact len_line (by omega)), rfl, _, rfl, ?_⟩
    rw [len_letters]
    have sm0 : L2.Same H (upd H p (STO w p (allT (signs (S l))))) := fun a o e => by
      rw [upd_ne (ne_of_none e hp)]
      exact e
    unfold letB at q
    cases nd : decide l.Nodup with
    | false =>
      rw [nd] at q
      exact iteF (q _ sm0)
    | true =>
    rw [nd, Bool.true_and] at q
    refine iteT ?_
    refine ⟨_, rfl, _, rfl, fun D hD => ?_⟩
    refine lc_it walk_str (fun i H' => H' D = some (.lst (((l.take i).map inAZ).map V.bl)) ∧ L2.Same H H' ∧ i ≤ l.length) ⟨upd_same, fun a o e => ?_, Nat.zero_le _⟩ (fun _ _ _ _ => trivial) ?_ ?_
    · rw [upd_ne (ne_of_none (sm0 a o e) hD)]
      exact sm0 a o e
    · rintro i x H' H2 hi ⟨hl, sm, hil⟩ ⟨rfl, c, hc, rfl⟩
      have hc' := getS hc
      have ea : ("a" : Str) = S [97] := by decide +kernel
      have ez : ("z" : Str) = S [122] := by decide +kernel
      rw [sizeS] at hi
      have put : ∀ b : Bool, b = inAZ c → ∀ G, G = H2 → ∃ ys : List V, G D = some (.lst ys) ∧ ys.length < sizeLine ∧ ((upd G D (.lst (ys ++ [V.bl b]))) D = some (.lst (((l.take (i + 1)).map inAZ).map V.bl)) ∧ L2.Same H (upd G D (.lst (ys ++ [V.bl b]))) ∧ i + 1 ≤ l.length) := fun b eb G eG => by
        subst eG
        refine ⟨_, hl, (by rw [List.length_map, List.length_map, List.length_take]; exact len_lt (by omega)), ?_, fun a o e => ?_, hi⟩
        · rw [upd_same, take_one hc', List.map_append, List.map_append, eb]
          rfl
        · rw [upd_ne (ne_of_none e (sm0.free hD))]
          exact sm a o e
      refine ⟨rfl, _, rfl, _, _, rfl, rfl, _, rfl, ?_⟩
      have t1 : (!decide ((⟨#[c]⟩ : Str).cps.toList < ("a" : Str).cps.toList)) = decide (97 ≤ c) := by
        rw [ea]
        show (!decide ((S [c]).cps.toList < (S [97]).cps.toList)) = _
        rw [lt_one, ← decide_not]
        exact decide_eq_decide.mpr (by omega)
      have t2 : (!decide (("z" : Str).cps.toList < (⟨#[c]⟩ : Str).cps.toList)) = decide (c ≤ 122) := by
        rw [ez]
        show (!decide ((S [122]).cps.toList < (S [c]).cps.toList)) = _
        rw [lt_one, ← decide_not]
        exact decide_eq_decide.mpr (by omega)
      rw [t1]
      cases c1 : decide (97 ≤ c) with
      | false =>
        refine iteF ?_
        exact put false (by unfold inAZ; rw [c1]; rfl) _ rfl
      | true =>
        refine iteT ?_
        refine ⟨_, _, rfl, rfl, ?_⟩
        rw [t2]
        exact put _ (by unfold inAZ; rw [c1, Bool.true_and]) _ rfl
    · rintro H' ⟨hl, sm, _⟩
      rw [sizeS, List.take_length] at hl
      refine ⟨D, _, rfl, SqL.of hl, ?_⟩
      have e2 : (l.map inAZ).all id = l.all inAZ := by rw [List.all_map]; rfl
      rw [e2]
      exact q H' sm
theorem ok_ispairG (F : D K mg "is_pair" s_is_pair []) (zi : mg "isinstance" = none) (zs : mg "str" = none) (zl : mg "len" = none) : C8.Cal P w K mg base 1 "is_pair" (spPairG K) [] := by
  refine F.cal (ps := ["kinds", "value"]) sc_ispair (fun f fd F => F.bindsN fun _ _ _ _ _ _ us hl => match us, hl with | [_, _], _ => rfl) (fun vs H Q E h => ?_) (fun f cdv A outer s H vs Q E hr h => ?_)
  · obtain ⟨zs, y, rfl, _⟩ := h
    rfl
  · obtain ⟨ks, y, rfl, h⟩ := h
    refine ⟨_, pss_cons (ps_if (PW.pt (pw_or (pt_not (pt_val (pe_callB call_isi (by rfl) zi PyProof.Rows.boot_isinstance (pa_cons (pv 1) (pa_cons (pe_bltn (v := .ty "str") (by rfl) zs (by decide +kernel) rfl) pa_nil)))))
        (pw_or1 (pt_cmpR op_ne (pe_callB call_len_str (by rfl) zl PySem.boot_len (pa_cons (pv 1) pa_nil)) pe_int (nomark _))))) (pss_one (ps_ret pe_bl)) pss_nil)
      (pss_one (ps_ret (pe_and (pe_cmpR op_ne (pe_ix ix_str (pv 1) pe_int (fun _ _ => rfl)) (pe_ix ix_str (pv 1) pe_int (fun _ _ => rfl)) (nomark _))
        (pe_and (pe_cmpR op_in_sign (pe_ix ix_str (pv 1) pe_int (fun _ _ => rfl)) (pv 0) (by rfl)) (pe_one (pe_cmpR op_in_sign (pe_ix ix_str (pv 1) pe_int (fun _ _ => rfl)) (pv 0) (by rfl))))))), ?_⟩
    rcases h with ⟨t, ty, kt, q⟩ | ⟨l, rfl, ll, q⟩
    · exact ⟨_, rfl, _, _, t, .type "str", false, rfl, .ty _, ty, kt, _, rfl, iteT q⟩
    refine ⟨_, rfl, _, _, .type "str", .type "str", true, rfl, .ty _, .base (.str _), kit_ty (by decide +kernel), _, rfl, iteF ?_⟩
    refine ⟨_, rfl, _, rfl, (by rw [S_len]; exact len_line (by omega)), rfl, _, rfl, ?_⟩
    rw [S_len]
    match l, ll, q with
    | [], _, q => exact iteT q
    | [a], _, q => exact iteT q
    | a :: b :: c :: r, _, q =>
      rw [show (!decide (V.int (((a :: b :: c :: r).length : Nat) : Int) = V.int 2)) = true from by
        have z : ¬ (V.int (((a :: b :: c :: r).length : Nat) : Int) = V.int 2) := fun e => by
          have e2 := V.int.inj e
          simp only [List.length_cons] at e2
          omega
        rw [decide_eq_false z]
        rfl]
      exact iteT q
    | [a, b], _, q =>
      refine iteF ?_
      have l2 : (S [a, b]).length ≤ sizeLine := by rw [S_len]; exact len_line (by simp)
      refine ⟨_, rfl, _, _, a, rfl, rfl, l2, atI_nat (j := 0) rfl, _, rfl, _, _, b, rfl, rfl, l2, atI_nat (j := 1) rfl, rfl, _, rfl, ?_⟩
      have e1 : (!decide (V.str (S [a]) = V.str (S [b]))) = (a != b) := by rw [eq_one]; rfl
      show if (!decide (V.str (S [a]) = V.str (S [b]))) = true then _ else _
      rw [e1]
      replace q : Q (.bl (a != b && (ks.contains a && ks.contains b))) H := q
      cases ab : a != b with
      | false =>
        rw [ab] at q
        exact iteF q
      | true =>
        rw [ab, Bool.true_and] at q
        refine iteT ?_
        refine ⟨_, rfl, _, _, a, rfl, rfl, l2, atI_nat (j := 0) rfl, _, rfl, a, _, rfl, rfl, _, rfl, ?_⟩
        rw [mem_S]
        cases ka : ks.contains a with
        | false =>
          rw [ka] at q
          exact iteF q
        | true =>
          rw [ka, Bool.true_and] at q
          refine iteT ?_
          refine ⟨_, rfl, _, _, b, rfl, rfl, l2, atI_nat (j := 1) rfl, _, rfl, b, _, rfl, rfl, ?_⟩
          rw [mem_S]
          exact q
end
theorem TyX.same {K : PySem.W.Frag} {H H' : Hp} {y : V} {t : Value} (h : TyX K H y t) (s : L2.Same H H') : TyX K H' y t := by
  cases h with
  | base b => cases b with
    | non => exact .base .non
    | bl y => exact .base (.bl y)
    | int i => exact .base (.int i)
    | str y => exact .base (.str y)
    | flt y => exact .base (.flt y)
    | lst e => exact .base (.lst (s _ _ e))
    | frz e => exact .base (.frz (s _ _ e))
    | tup e => exact .base (.tup (s _ _ e))
    | dK e => exact .base (.dK (s _ _ e))
    | dT e => exact .base (.dT (s _ _ e))
    | ins e a b c d f => exact .base (.ins (s _ _ e) a b c d f)
  | byt b => exact .byt b
  | set e => exact .set (s _ _ e)
  | kList e c => exact .kList e c
  | kTuple e c => exact .kTuple e c
  | kDict e c => exact .kDict e c
  | fTuple e => exact .fTuple (s _ _ e)
  | fDict e => exact .fDict (s _ _ e)
def PairV (zs : List Nat) (x : V) : Prop := ∃ l : List Nat, x = .str (S l) ∧ l.length ≤ 90000 ∧ pairB zs l = true
def NoPair (K : PySem.W.Frag) (H : Hp) (zs : List Nat) (y : V) : Prop := (∃ t, TyX K H y t ∧ PySem.W.kitOne K t (.type "str") = some false) ∨ ∃ l : List Nat, y = .str (S l) ∧ l.length ≤ 90000 ∧ pairB zs l = false
def NoLet (K : PySem.W.Frag) (H : Hp) (y : V) : Prop := (∃ t, TyX K H y t ∧ PySem.W.kitOne K t (.type "str") = some false) ∨ ∃ l : List Nat, y = .str (S l) ∧ l.length ≤ 1000 ∧ letB l = false
theorem NoPair.same {K : PySem.W.Frag} {H H' : Hp} {zs : List Nat} {y : V} (h : NoPair K H zs y) (s : L2.Same H H') : NoPair K H' zs y := h.elim (fun ⟨t, a, b⟩ => .inl ⟨t, TyX.same a s, b⟩) .inr
theorem NoLet.same {K : PySem.W.Frag} {H H' : Hp} {y : V} (h : NoLet K H y) (s : L2.Same H H') : NoLet K H' y := h.elim (fun ⟨t, a, b⟩ => .inl ⟨t, TyX.same a s, b⟩) .inr
/-- how a plan is refused -/
def PlanBad (K : PySem.W.Frag) (IP TM : Addr) (kv : V) (c : Addr) (H : Hp) (E : XK) : Prop :=
  (NoLet K H kv ∧ ∀ d H', H' d = some (.xd [("value", kv)]) → L2.Same H H' → E (.ref IP) (some d) H') ∨
  ∃ (zs : List Nat) (ys : List V), kv = .str (S zs) ∧ zs.length ≤ 1000 ∧ letB zs = true ∧ (SqL K H c ys ∨ SqT K H c ys) ∧
    ((∃ (n : Nat) (y : V), ys[n]? = some y ∧ (∀ (i : Nat) (x : V), i < n → ys[i]? = some x → PairV zs x) ∧ NoPair K H zs y ∧ ∀ d H', H' d = some (.xd [("value", y)]) → L2.Same H H' → E (.ref IP) (some d) H') ∨
     ((∀ x ∈ ys, PairV zs x) ∧ 8 < zs.length ∧ ∀ d H', H' d = some (.xd [("most", .int 8)]) → L2.Same H H' → E (.ref TM) (some d) H'))
def spPlanBad (K : PySem.W.Frag) (C IP TM : Addr) : Sp := fun vs H Q E => ∃ (r dx c : Addr) (kv : V), vs = [.ref r, kv, .ref c] ∧ H r = some (.ins C dx []) ∧ PlanBad K IP TM kv c H E
section
variable {P : Program} {w : World} {K : PySem.W.Frag} {mg : Str → Option Value} {base : Heap} {C IP TM : Addr}
theorem ok_planbad {f : Addr} {fd : FuncData} {dv : List V} (F : FunD K "__init__" "Plan.__init__" (defArgs s_Plan_init) (defBody s_Plan_init) (defScope s_Plan_init) dv [] f fd) (zl : mg "len" = none) (gM : ∃ t, mg "MOST_KINDS" = some (.int 8 t))
    (cL : C8.Cal P w K mg base 1 "are_letters" (spLetG K) []) (cP : C8.Cal P w K mg base 1 "is_pair" (spPairG K) []) (EI : ErrC P w K mg base "InvalidPlan" "value" IP) (EM : ErrC P w K mg base "TooMany" "most" TM) :
    FnOk P w K mg base (L2N.CX P w) 3 f fd ["self", "kinds", "crossing"] (spPlanBad K C IP TM) := by
  obtain ⟨tM, gM⟩ := gM
  refine F.ok sc_planinit (fun vs H Q E h => ?_) (fun cdv A outer s H vs Q E hr h => ?_)
  · obtain ⟨r, dx, c, kv, rfl, _⟩ := h
    rfl
  · obtain ⟨r, dx, c, kv, rfl, hr0, h⟩ := h
    refine ⟨_, pss_cons (ps_if (pt_not (pt_val (C8.pe_c cL hr (by decide) (by rfl) (pa_cons (pv 1) pa_nil)))) (pss_one (L2N.ps_raise rfl (L2N.takes_of rfl rfl rfl rfl) (pmk_err1 EI hr (by decide) (by rfl) (pv 1)))) pss_nil)
      (pss_cons (ps_for PassesOwn.leaving rfl (pi_or (pi_list (pv 2)) (pi_tup (pv 2))) (pg_name (i := 3) sc_planinit.nd rfl (.inl rfl))
        (pss_one (ps_if (pt_not (pt_val (C8.pe_c cP hr (by decide) (by rfl) (pa_cons (pv 1) (pa_cons (pv 3) pa_nil))))) (pss_one (L2N.ps_raise rfl (L2N.takes_of rfl rfl rfl rfl) (pmk_err1 EI hr (by decide) (by rfl) (pv 3)))) pss_nil)))
      (pss_cons (ps_if (pt_cmpR op_gt (pe_callB call_len_str (by rfl) zl PySem.boot_len (pa_cons (pv 1) pa_nil)) (C8.pe_gc (v := .int 8) (by rfl) ⟨_, gM, ⟨tM, rfl⟩⟩) (nomark _)) (pss_one (L2N.ps_raise rfl (L2N.takes_of rfl rfl rfl rfl) (pmk_err1 EM hr (by decide) (by rfl) (C8.pe_gc (v := .int 8) (by rfl) ⟨_, gM, ⟨tM, rfl⟩⟩)))) pss_nil)
      (pss_cons ps_never (pss_cons ps_never (pss_cons ps_never (pss_one ps_never)))))), ?_⟩
    rcases h with ⟨nl, q⟩ | ⟨zs, ys, rfl, lz, lt, hs, h⟩
    · rcases nl with ⟨t, ty, kt⟩ | ⟨l, rfl, ll, lf⟩
      · exact ⟨_, rfl, _, rfl, .inl ⟨t, ty, kt, _, rfl, iteT ⟨_, rfl, err1 q⟩⟩⟩
      · refine ⟨_, rfl, _, rfl, .inr ⟨l, rfl, ll, fun H1 s1 => ⟨_, rfl, ?_⟩⟩⟩
        rw [lf]
        exact iteT ⟨_, rfl, err1 fun d H' g s => q d H' g (s1.trans s)⟩
    · refine ⟨_, rfl, _, rfl, .inr ⟨zs, rfl, lz, fun H1 s1 => ⟨_, rfl, ?_⟩⟩⟩
      rw [lt]
      refine iteF ?_
      have hs1 : SqL K H1 c ys ∨ SqT K H1 c ys := hs.imp (s1.seq) (sameT s1)
      refine iter_seq rfl hs1 fun J wk => ?_
      rcases h with ⟨n, y, hn, all, np, q⟩ | ⟨all, gt, q⟩
      · refine for_it wk (fun i σ H' => i ≤ n ∧ ∃ v, σ = [some (.ref r), some (.str (S zs)), some (.ref c), v, none] ∧ H' = H1) ⟨Nat.zero_le _, none, rfl, rfl⟩ (fun i σ H' _ ⟨_, v, _, e⟩ => by subst e; exact ⟨id, id⟩) ?_ ?_
        · rintro i x σ H' H2 hi ⟨hin, v, rfl, rfl⟩ ⟨rfl, hx⟩
          by_cases e : i = n
          · subst e
            rw [hn] at hx
            cases hx
            have np1 := NoPair.same np s1
            rcases np1 with ⟨t, ty, kt⟩ | ⟨l, rfl, ll, lf⟩
            · exact ⟨_, rfl, _, rfl, zs, _, rfl, .inl ⟨t, ty, kt, _, rfl, iteT ⟨_, rfl, err1 fun d H' g s => q d H' g (s1.trans s)⟩⟩⟩
            · refine ⟨_, rfl, _, rfl, zs, _, rfl, .inr ⟨l, rfl, ll, _, rfl, ?_⟩⟩
              rw [lf]
              exact iteT ⟨_, rfl, err1 fun d H' g s => q d H' g (s1.trans s)⟩
          · obtain ⟨l, rfl, ll, lp⟩ := all i x (by omega) hx
            refine ⟨_, rfl, _, rfl, zs, _, rfl, .inr ⟨l, rfl, ll, _, rfl, ?_⟩⟩
            rw [lp]
            exact iteF ⟨by omega, _, rfl, rfl⟩
        · rintro σ H' ⟨hin, _⟩
          have := (List.getElem?_eq_some_iff.mp hn).1
          omega
      · refine for_it wk (fun i σ H' => ∃ v, σ = [some (.ref r), some (.str (S zs)), some (.ref c), v, none] ∧ H' = H1) ⟨none, rfl, rfl⟩ (fun i σ H' _ ⟨v, _, e⟩ => by subst e; exact ⟨id, id⟩) ?_ ?_
        · rintro i x σ H' H2 hi ⟨v, rfl, rfl⟩ ⟨rfl, hx⟩
          obtain ⟨l, rfl, ll, lp⟩ := all x (List.mem_of_getElem? hx)
          refine ⟨_, rfl, _, rfl, zs, _, rfl, .inr ⟨l, rfl, ll, _, rfl, ?_⟩⟩
          rw [lp]
          exact iteF ⟨_, rfl, rfl⟩
        · rintro σ H' ⟨v, rfl, rfl⟩
          refine ⟨_, rfl, _, rfl, (by rw [S_len]; exact len_line (by omega)), _, _, rfl, rfl, _, rfl, ?_⟩
          rw [S_len, decide_eq_true (by omega : (8 : Int) < (zs.length : Int))]
          exact iteT (err1 fun d H' g s => q d H' g (s1.trans s))
end
end TX
end
section
set_option maxRecDepth 100000
set_option maxHeartbeats 4000000
/-! a comprehension with two fors, turn by turn -/
namespace TX
open PySem PySem.Spec PyProof.Rows L2
section
variable {J J1 : It} {n n1 : Nat} {G G1 : Hp → Prop} {Y Y1 : Nat → Hp → V → Hp → Prop}
/-- the inner for -/
theorem in_it (w : L2.Walk J1 n1 G1 Y1) {g1 : TG} {tt1 : TT} {te : TE} {vs1 : List Nat} {σ2 : L2.St} {H4 : Hp} {D : Addr} {Nx : Hp → Prop} (Pv : Nat → Hp → Prop) (h0 : Pv 0 H4) (hG : ∀ i H, i ≤ n1 → Pv i H → G1 H)
    (hs : ∀ j x H H', j < n1 → Pv j H → Y1 j H x H' → g1 x (wipe σ2 vs1) H' fun σ3 H5 => wipe σ3 vs1 = wipe σ2 vs1 ∧ tt1 σ3 H5 fun b H6 =>
      if b = true then te σ3 H6 fun y H7 => ∃ acc, H7 D = some (.lst acc) ∧ acc.length < sizeLine ∧ Pv (j + 1) (upd H7 D (.lst (acc ++ [y]))) else Pv (j + 1) H6) (hd : ∀ H, Pv n1 H → Nx H) :
    ∃ W1 : Nat → Nat → Hp → Prop, (∃ m, W1 0 m H4) ∧ ∀ j k H, W1 j k H →
      (J1.stop j H ∧ Nx H) ∨ (J1.go j H ∧ ∃ Nx1 : Hp → Prop, (∀ H', Nx1 H' → ∃ k', k' < k ∧ W1 (j + 1) k' H') ∧ ∀ x H', J1.yld j H x H' → g1 x (wipe σ2 vs1) H' fun σ3 H5 => wipe σ3 vs1 = wipe σ2 vs1 ∧ tt1 σ3 H5 fun b H6 =>
        if b = true then te σ3 H6 fun y H7 => ∃ acc, H7 D = some (.lst acc) ∧ acc.length < sizeLine ∧ Nx1 (upd H7 D (.lst (acc ++ [y]))) else Nx1 H6) := by
  refine ⟨fun i m H => m = n1 - i ∧ i ≤ n1 ∧ Pv i H, ⟨n1, by simp, Nat.zero_le _, h0⟩, ?_⟩
  rintro i m H ⟨rfl, hi, p⟩
  have q := hG i H hi p
  by_cases lt : i < n1
  · exact .inr ⟨w.goes i H lt q, Pv (i + 1), fun H' p' => ⟨n1 - (i + 1), by omega, rfl, lt, p'⟩, fun x H' y => hs i x H H' lt p (w.yields i H x H' lt q y)⟩
  · have e : i = n1 := by omega
    subst e
    exact .inl ⟨w.stops H q, hd H p⟩
/-- the outer for; B: what is made of a turn -/
theorem out_it (w : L2.Walk J n G Y) {B : L2.St → Hp → (Hp → Prop) → Prop} {g : TG} {tt : TT} {vs : List Nat} {σ : L2.St} {H1 : Hp} {D : Addr} {Qd : Hp → Prop} (Pv : Nat → Hp → Prop) (h0 : Pv 0 (upd H1 D (.lst []))) (hG : ∀ i H, i ≤ n → Pv i H → G H)
    (hs : ∀ i x H H', i < n → Pv i H → Y i H x H' → g x (wipe σ vs) H' fun σ2 H2 => wipe σ2 vs = wipe σ vs ∧ tt σ2 H2 fun b H3 => if b = true then B σ2 H3 (Pv (i + 1)) else Pv (i + 1) H3) (hd : ∀ H, Pv n H → Qd H) :
    ∃ W : Nat → Nat → Hp → Prop, (∃ m, W 0 m (upd H1 D (.lst []))) ∧ ∀ i m H, W i m H →
      (J.stop i H ∧ Qd H) ∨ (J.go i H ∧ ∃ Nx : Hp → Prop, (∀ H', Nx H' → ∃ m', m' < m ∧ W (i + 1) m' H') ∧ ∀ x H', J.yld i H x H' → g x (wipe σ vs) H' fun σ2 H2 => wipe σ2 vs = wipe σ vs ∧ tt σ2 H2 fun b H3 => if b = true then B σ2 H3 Nx else Nx H3) := by
  refine ⟨fun i m H => m = n - i ∧ i ≤ n ∧ Pv i H, ⟨n, by simp, Nat.zero_le _, h0⟩, ?_⟩
  rintro i m H ⟨rfl, hi, p⟩
  have q := hG i H hi p
  by_cases lt : i < n
  · exact .inr ⟨w.goes i H lt q, Pv (i + 1), fun H' p' => ⟨n - (i + 1), by omega, rfl, lt, p'⟩, fun x H' y => hs i x H H' lt p (w.yields i H x H' lt q y)⟩
  · have e : i = n := by omega
    subst e
    exact .inl ⟨w.stops H q, hd H p⟩
end
end TX
end
section
set_option maxRecDepth 100000
set_option maxHeartbeats 4000000
/-! plans made or refused; sums and products of plans -/
namespace TX
open PySem PySem.Spec PyProof.Rows L2 SX CW
section
variable {P : Program} {w : World} {K : PySem.W.Frag} {mg : Str → Option Value} {base : Heap} {k : Nat} {f : Addr} {fd : FuncData} {ps : List Str} {sp sp' : Sp}
theorem FnOk.lift0 (F : FnOk P w K mg base C8.CX0 k f fd ps sp) (h0 : ∀ vs H Q E, sp vs H Q E → sp vs H Q C8.E0) : FnOk P w K mg base (L2N.CX P w) k f fd ps sp :=
  ⟨F.len, fun A outer s H args us vs Q E hr e0 hb hv h => codeAny_mono (F.run A outer s H args us vs Q C8.E0 hr e0 hb hv (h0 _ _ _ _ h)) fun r s' q => by
    cases r with
    | ok fl => cases fl <;> exact q
    | error e => exact (show False from q).elim⟩
theorem FnOk.or (F : FnOk P w K mg base (L2N.CX P w) k f fd ps sp) (F' : FnOk P w K mg base (L2N.CX P w) k f fd ps sp') : FnOk P w K mg base (L2N.CX P w) k f fd ps (fun vs H Q E => sp vs H Q E ∨ sp' vs H Q E) :=
  ⟨fun vs H Q E h => h.elim (F.len _ _ _ _) (F'.len _ _ _ _), fun A outer s H args us vs Q E hr e0 hb hv h => h.elim (F.run A outer s H args us vs Q E hr e0 hb hv) (F'.run A outer s H args us vs Q E hr e0 hb hv)⟩
end
/-! ### what a plan is made of -/
theorem sorted_of (zs : List Nat) (nd : zs.Nodup) : ∃ ks : List Nat, zs.Perm ks ∧ ks.Pairwise (· < ·) := by
  refine ⟨zs.mergeSort, (List.mergeSort_perm zs _).symm, ?_⟩
  have h1 : (zs.mergeSort).Pairwise (fun a b => decide (a ≤ b) = true) := List.pairwise_mergeSort (fun a b c h1 h2 => by simp at *; omega) (fun a b => by simp; omega) zs
  have h2 : (zs.mergeSort).Nodup := (List.mergeSort_perm zs _).nodup_iff.mpr nd
  have h3 : (zs.mergeSort).Pairwise (fun a b => a ≠ b) := h2
  exact (h1.and h3).imp fun ⟨a, b⟩ => by
    have a := of_decide_eq_true a
    omega
theorem pair_of {zs l : List Nat} (h : pairB zs l = true) : ∃ a b, l = [a, b] ∧ a ≠ b ∧ a ∈ zs ∧ b ∈ zs := by
  match l, h with
  | [a, b], h =>
    have h2 : (a != b && (zs.contains a && zs.contains b)) = true := h
    simp only [Bool.and_eq_true, bne_iff_ne, List.contains_iff_mem] at h2
    exact ⟨a, b, rfl, h2.1, h2.2.1, h2.2.2⟩
theorem let_of {zs : List Nat} (h : letB zs = true) : zs.Nodup ∧ ∀ k ∈ zs, 97 ≤ k ∧ k ≤ 122 := by
  unfold letB at h
  rw [Bool.and_eq_true] at h
  refine ⟨of_decide_eq_true h.1, fun k hk => ?_⟩
  have z := List.all_eq_true.mp h.2 k hk
  unfold inAZ at z
  rw [Bool.and_eq_true] at z
  exact ⟨of_decide_eq_true z.1, of_decide_eq_true z.2⟩
/-- which letters cross, by the pairs -/
def xOf (es : List Str) (a b : Nat) : Bool := decide (S [a, b] ∈ es) || decide (S [b, a] ∈ es)
theorem pair_inj {a b c d : Nat} (h : S [a, b] = S [c, d]) : a = c ∧ b = d := by
  have e := S_inj h
  exact ⟨(List.cons.inj e).1, (List.cons.inj (List.cons.inj e).2).1⟩
/-- all is right: the plan is made -/
theorem plan_ok {K : PySem.W.Frag} {C r dx c : Addr} {zs : List Nat} {es : List Str} {H : Hp} {Q : VK} {E : XK} (hr : H r = some (.ins C dx [])) (lt : letB zs = true) (l8 : zs.length ≤ 8) (hs : SqL K H c (es.map V.str) ∨ SqT K H c (es.map V.str)) (h64 : es.length < 64)
    (pr : ∀ e ∈ es, ∃ l, e = S l ∧ pairB zs l = true) (q : ∀ ks H', zs.Perm ks → ks.Pairwise (· < ·) → But r H H' → PlanAt C H' r ks (xOf es) → Q .non H') : spPlanInit K C [.ref r, .str (S zs), .ref c] H Q E := by
  obtain ⟨nd, abc⟩ := let_of lt
  obtain ⟨ks, pm, up⟩ := sorted_of zs nd
  refine ⟨r, dx, c, zs, ks, xOf es, es, rfl, hr, pm, up, fun k hk => abc k (pm.mem_iff.mpr hk), by rw [← pm.length_eq]; exact l8, ⟨fun a b => by unfold xOf; rw [Bool.or_comm], fun a => ?_⟩, hs, h64, fun e he => ?_, fun a b ha hb _ x => ?_, fun H' b pl => q ks H' pm up b pl⟩
  · unfold xOf
    rw [Bool.or_self, decide_eq_false_iff_not]
    intro h
    obtain ⟨l, e, p⟩ := pr _ h
    obtain ⟨a', b', rfl, ne, _⟩ := pair_of p
    obtain ⟨h1, h2⟩ := pair_inj e
    exact ne (h1.symm.trans h2)
  · obtain ⟨l, rfl, p⟩ := pr e he
    obtain ⟨a, b, rfl, ne, ha, hb⟩ := pair_of p
    refine ⟨a, b, rfl, pm.mem_iff.mp ha, pm.mem_iff.mp hb, ?_⟩
    unfold xOf
    rw [decide_eq_true he, Bool.true_or]
  · unfold xOf at x
    rw [Bool.or_eq_true, decide_eq_true_iff, decide_eq_true_iff] at x
    exact x
/-- the pairs of a plan, as they are told -/
theorem prs_pair {ks : List Nat} {X : Nat → Nat → Bool} {zs : List Nat} (hz : ∀ k ∈ ks, k ∈ zs) : ∀ e ∈ prs ks X, ∃ l, e = S l ∧ pairB zs l = true := fun e he => by
  unfold prs at he
  obtain ⟨a, ha, h2⟩ := List.mem_flatMap.mp he
  obtain ⟨b, hb, rfl⟩ := List.mem_map.mp h2
  obtain ⟨hb1, hb2⟩ := List.mem_filter.mp hb
  rw [Bool.and_eq_true] at hb2
  have lt := of_decide_eq_true hb2.1
  refine ⟨[a, b], rfl, ?_⟩
  show (a != b && (zs.contains a && zs.contains b)) = true
  rw [List.contains_iff_mem.mpr (hz a ha), List.contains_iff_mem.mpr (hz b hb1), bne_iff_ne.mpr (by omega)]
  rfl
theorem prs_len (ks : List Nat) (X : Nat → Nat → Bool) : (prs ks X).length ≤ ks.length * (ks.length - 1) := by
  unfold prs
  have gen : ∀ l : List Nat, (∀ a ∈ l, a ∈ ks) → (l.flatMap fun a => (ks.filter fun b => decide (a < b) && X a b).map fun b => S [a, b]).length ≤ l.length * (ks.length - 1) := by
    intro l
    induction l with
    | nil => intro _; simp
    | cons a l ih =>
      intro h
      have h1 := ih fun x hx => h x (List.mem_cons_of_mem _ hx)
      have ha := h a List.mem_cons_self
      have h2 : (ks.filter fun b => decide (a < b) && X a b).length < ks.length := by
        refine List.length_filter_lt_length_iff_exists.mpr ⟨a, ha, ?_⟩
        simp
      rw [List.flatMap_cons, List.length_append, List.length_map, List.length_cons, Nat.succ_mul]
      omega
  exact gen ks fun _ h => h
theorem cat_tup {K : PySem.W.Frag} {H : Hp} {a b : Addr} {xs ys : List V} {Q : VK} (ha : SqT K H a xs) (hb : SqT K H b ys) (len : xs.length + ys.length ≤ sizeLine) (q : ∀ p H', SqT K H' p (xs ++ ys) → L2.Same H H' → Q (.ref p) H') : rCatA K (.ref a) (.ref b) H Q := by
  refine ⟨a, b, xs, ys, rfl, rfl, ha, hb, len, fun e => ?_, fun _ e => ?_, fun _ _ p hp => q p _ (SqT.of upd_same) (same_new hp)⟩
  · subst e
    exact q b H (by rw [List.nil_append]; exact hb) (L2.Same.refl _)
  · subst e
    exact q a H (by rw [List.append_nil]; exact ha) (L2.Same.refl _)
/-! ### sums and products -/
def spNoCom (C SK : Addr) : Sp := fun vs H Q E => ∃ (a b : Addr) (ks ks' : List Nat) (X X' : Nat → Nat → Bool), vs = [.ref a, .ref b] ∧ PlanAt C H a ks X ∧ PlanAt C H b ks' X' ∧
  (((∀ k ∈ ks, k ∉ ks') ∧ Q .non H) ∨ ∃ (n k : Nat), ks[n]? = some k ∧ k ∈ ks' ∧ (∀ i c, i < n → ks[i]? = some c → c ∉ ks') ∧ ∀ d H', H' d = some (.xd [("kind", .str (S [k]))]) → L2.Same H H' → E (.ref SK) (some d) H')
/-- a sum, a product: the first kind that both have; too many; or a plan -/
def spSumE (C SK TM : Addr) : Sp := fun vs H Q E => ∃ (a b : Addr) (ks ks' : List Nat) (X X' : Nat → Nat → Bool), vs = [.ref a, .ref b] ∧ PlanAt C H a ks X ∧ PlanAt C H b ks' X' ∧ ks.length ≤ 8 ∧ ks'.length ≤ 8 ∧
  ((∃ (n k : Nat), ks[n]? = some k ∧ k ∈ ks' ∧ (∀ i c, i < n → ks[i]? = some c → c ∉ ks') ∧ ∀ d H', H' d = some (.xd [("kind", .str (S [k]))]) → L2.Same H H' → E (.ref SK) (some d) H') ∨
   ((∀ k ∈ ks, k ∉ ks') ∧ 8 < ks.length + ks'.length ∧ ∀ d H', H' d = some (.xd [("most", .int 8)]) → L2.Same H H' → E (.ref TM) (some d) H') ∨
   ((∀ k ∈ ks, k ∉ ks') ∧ ks.length + ks'.length ≤ 8 ∧ ∀ (r : Addr) (H' : Hp), L2.Same H H' → Q (.ref r) H'))
/-- a plan told by kinds and pairs, or refused: what its making asks -/
abbrev spPlanE (K : PySem.W.Frag) (C IP TM : Addr) : Sp := fun vs H Q E => spPlanInit K C vs H Q E ∨ spPlanBad K C IP TM vs H Q E
structure MkPl (P : Program) (w : World) (K : PySem.W.Frag) (mg : Str → Option Value) (base : Heap) (C IP TM : Addr) : Prop where
  ex : ∃ f fd, Mk K C f ∧ FnOk P w K mg base (L2N.CX P w) 3 f fd ["self", "kinds", "crossing"] (spPlanE K C IP TM) ∧ L2.Binds K fd ["self", "kinds", "crossing"] []
  g : mg "Plan" = some (.ref C)
section
variable {P : Program} {w : World} {K : PySem.W.Frag} {mg : Str → Option Value} {base : Heap} {C IP TM SK IK : Addr}
theorem sc_nocom : FnScope ["one", "other", "kind"] ["one", "other"] (defScope s_check_no_common_kind) := ⟨rfl, rfl, rfl, by decide +kernel, rfl, by decide +kernel, by decide +kernel⟩
theorem ok_nocom (F : D K mg "check_no_common_kind" s_check_no_common_kind []) (T : PlanT K C) (ES : ErrC P w K mg base "SameKind" "kind" SK) : CalN P w K mg base 3 "check_no_common_kind" (spNoCom C SK) := by
  refine F.calN (ps := ["one", "other"]) sc_nocom (fun f fd F => F.bindsN fun _ _ _ _ _ _ us hl => match us, hl with | [_, _], _ => rfl) (fun vs H Q E h => ?_) (fun f cdv A outer s H vs Q E hr h => ?_)
  · obtain ⟨a, b, ks, ks', X, X', rfl, _⟩ := h
    rfl
  · obtain ⟨a, b, ks, ks', X, X', rfl, pa, pb, h⟩ := h
    refine ⟨_, pss_one (ps_for PassesOwn.leaving rfl (pi_str (pe_fld (pv 0) rfl)) (pg_name (i := 2) sc_nocom.nd rfl (.inl rfl)) (pss_one (ps_if (pt_cmpR op_in_sign (pv 2) (pe_fld (pv 1) rfl) (by rfl)) (pss_one (L2N.ps_raise rfl (L2N.takes_of rfl rfl rfl rfl) (pmk_err1 ES hr (by decide) (by rfl) (pv 2)))) pss_nil))), ?_⟩
    obtain ⟨dx, _, _, _, h1, _⟩ := pa.ex
    obtain ⟨dy, _, _, _, g1, _⟩ := pb.ex
    refine ⟨_, rfl, a, C, dx, _, _, rfl, h1, T.cl, T.nk, pf_kinds _ _ _ _, _, rfl, ?_⟩
    have step : ∀ (i : Nat) (x : V), (∃ c, (S ks).cps[i]? = some c ∧ x = .str ⟨#[c]⟩) → ∃ c, ks[i]? = some c ∧ x = .str (S [c]) := fun i x ⟨c, h, e⟩ => ⟨c, getS h, e⟩
    rcases h with ⟨no, q⟩ | ⟨n, k, hn, hk, all, q⟩
    · refine for_it walk_str (fun i σ G => ∃ u, σ = [some (.ref a), some (.ref b), u] ∧ G = H) ⟨none, rfl, rfl⟩ (fun _ _ _ _ _ => trivial) ?_ ?_
      · rintro i x σ G G2 hi ⟨u, rfl, rfl⟩ ⟨rfl, c, hc, rfl⟩
        have hc' := getS hc
        refine ⟨_, rfl, _, rfl, b, C, dy, _, _, rfl, g1, T.cl, T.nk, pf_kinds _ _ _ _, c, _, rfl, rfl, _, rfl, ?_⟩
        rw [mem_S, show ks'.contains c = false from by
          cases z : ks'.contains c with
          | false => rfl
          | true => exact absurd (List.contains_iff_mem.mp z) (no c (List.mem_of_getElem? hc'))]
        exact iteF ⟨_, rfl, rfl⟩
      · rintro σ G ⟨u, rfl, rfl⟩
        exact q
    · refine for_it walk_str (fun i σ G => i ≤ n ∧ ∃ u, σ = [some (.ref a), some (.ref b), u] ∧ G = H) ⟨Nat.zero_le _, none, rfl, rfl⟩ (fun _ _ _ _ _ => trivial) ?_ ?_
      · rintro i x σ G G2 hi ⟨hin, u, rfl, rfl⟩ ⟨rfl, c, hc, rfl⟩
        have hc' := getS hc
        refine ⟨_, rfl, _, rfl, b, C, dy, _, _, rfl, g1, T.cl, T.nk, pf_kinds _ _ _ _, c, _, rfl, rfl, _, rfl, ?_⟩
        rw [mem_S]
        by_cases e : i = n
        · subst e
          rw [hn] at hc'
          cases hc'
          rw [List.contains_iff_mem.mpr hk]
          exact iteT ⟨_, rfl, err1 q⟩
        · rw [show ks'.contains c = false from by
            cases z : ks'.contains c with
            | false => rfl
            | true => exact absurd (List.contains_iff_mem.mp z) (all i c (by omega) hc')]
          exact iteF ⟨by omega, _, rfl, rfl⟩
      · rintro σ G ⟨hin, _⟩
        have := (List.getElem?_eq_some_iff.mp hn).1
        rw [sizeS] at hin
        omega
/-- the end of a sum: the plan is made, or there are too many -/
theorem sum_go {H H1 : Hp} {c : Addr} {ks ks' : List Nat} {es : List Str} {Q : VK} {E : XK} (s1 : L2.Same H H1) (up : ks.Pairwise (· < ·)) (up' : ks'.Pairwise (· < ·)) (abc : ∀ k ∈ ks, 97 ≤ k ∧ k ≤ 122) (abc' : ∀ k ∈ ks', 97 ≤ k ∧ k ≤ 122) (l8 : ks.length ≤ 8) (l8' : ks'.length ≤ 8) (no : ∀ k ∈ ks, k ∉ ks')
    (hs : SqT K H1 c (es.map V.str)) (h64 : ks.length + ks'.length ≤ 8 → es.length < 64) (pr : ∀ e ∈ es, ∃ l, e = S l ∧ pairB (ks ++ ks') l = true)
    (h : (8 < ks.length + ks'.length ∧ ∀ d H', H' d = some (.xd [("most", .int 8)]) → L2.Same H H' → E (.ref TM) (some d) H') ∨ (ks.length + ks'.length ≤ 8 ∧ ∀ (r : Addr) (H' : Hp), L2.Same H H' → Q (.ref r) H')) :
    ∀ x dx, H1 x = none → H1 dx = none → dx ≠ x → spPlanE K C IP TM (.ref x :: ([.str (S (ks ++ ks')), .ref c] ++ [])) (upd (upd H1 dx (.own x)) x (.ins C dx [])) (fun v H2 => v = .non ∧ Q (.ref x) H2) E := by
  intro x dx hx hdx nd
  have s2 : L2.Same H1 (upd (upd H1 dx (.own x)) x (.ins C dx [])) := fun b o e => by
    rw [upd_ne (ne_of_none e hx), upd_ne (ne_of_none e hdx)]
    exact e
  have lt : letB (ks ++ ks') = true := by
    unfold letB
    rw [Bool.and_eq_true, decide_eq_true_iff]
    refine ⟨List.nodup_append.mpr ⟨nodup_up up, nodup_up up', fun a ha b hb e => no a ha (e ▸ hb)⟩, List.all_eq_true.mpr fun k hk => ?_⟩
    have z : 97 ≤ k ∧ k ≤ 122 := (List.mem_append.mp hk).elim (abc k) (abc' k)
    unfold inAZ
    rw [decide_eq_true z.1, decide_eq_true z.2]
    rfl
  have hs2 := sameT s2 hs
  rcases h with ⟨gt, q⟩ | ⟨le, q⟩
  · refine .inr ⟨x, dx, c, _, rfl, upd_same, .inr ⟨ks ++ ks', _, rfl, by rw [List.length_append]; omega, lt, .inr hs2, .inr ⟨fun y hy => ?_, by rw [List.length_append]; omega, fun d H' g s => q d H' g (s1.trans (s2.trans s))⟩⟩⟩
    obtain ⟨e, he, rfl⟩ := List.mem_map.mp hy
    obtain ⟨l, rfl, p⟩ := pr e he
    obtain ⟨a, b, rfl, _⟩ := pair_of p
    exact ⟨[a, b], rfl, by simp, p⟩
  · refine .inl (plan_ok upd_same lt (by rw [List.length_append]; omega) (.inr hs2) (h64 le) pr fun ks2 H' pm up2 b pl => ⟨rfl, q x H' fun b2 o e => ?_⟩)
    have e1 := s1 _ _ e
    exact b _ _ (ne_of_none e1 hx) (s2 _ _ e1)
theorem mul7 {n : Nat} (h : n ≤ 8) : n * (n - 1) ≤ n * 7 := Nat.mul_le_mul_left _ (by omega)
theorem sc_padd : FnScope ["self", "other"] ["self", "other"] (defScope s_Plan_add) := ⟨rfl, rfl, rfl, by decide +kernel, rfl, by decide +kernel, by decide +kernel⟩
theorem ok_planadd {f : Addr} {fd : FuncData} (F : FunD K "__add__" "Plan.__add__" (defArgs s_Plan_add) (defBody s_Plan_add) (defScope s_Plan_add) [] [] f fd) (T : PlanT K C) (nI : C8.InsC K C) (zi : mg "isinstance" = none) (cN : CalN P w K mg base 3 "check_no_common_kind" (spNoCom C SK)) (M : MkPl P w K mg base C IP TM) :
    FnOk P w K mg base (L2N.CX P w) 5 f fd ["self", "other"] (spSumE C SK TM) := by
  obtain ⟨fm, fdm, mM, mF, mB⟩ := M.ex
  have gP := M.g
  refine F.ok sc_padd (fun vs H Q E h => ?_) (fun cdv A outer s H vs Q E hr h => ?_)
  · obtain ⟨a, b, ks, ks', X, X', rfl, _⟩ := h
    rfl
  · obtain ⟨a, b, ks, ks', X, X', rfl, pa, pb, l8, l8', h⟩ := h
    refine ⟨_, pss_cons (ps_if (pt_not (pt_val (pe_callB call_isi (by rfl) zi PyProof.Rows.boot_isinstance (pa_cons (pv 1) (pa_cons (C8.pe_gc (v := .ref C) (by rfl) ⟨_, gP, rfl⟩) pa_nil))))) (pss_one ps_never) pss_nil)
      (pss_cons (ps_expr (pe_cN cN hr (by decide) (by rfl) (L2N.takes_of rfl rfl rfl rfl) (pa_cons (pv 0) (pa_cons (pv 1) pa_nil))))
      (pss_one (ps_ret (pe_make mM mF (hr.mono (by decide)) (by rfl) gP mB .nil (L2N.passes_call (L2N.takes_of rfl rfl rfl rfl) fun _ _ _ _ h => h) (pa_cons (pe_op op_add_str (pe_fld (pv 0) rfl) (pe_fld (pv 1) rfl)) (pa_cons (pe_op op_catA (pe_fld (pv 0) rfl) (pe_fld (pv 1) rfl)) pa_nil)))))), ?_⟩
    obtain ⟨dx, tp, _, _, h1, h2, _⟩ := pa.ex
    obtain ⟨dy, tq, _, _, g1, g2, _⟩ := pb.ex
    refine ⟨_, rfl, _, _, .ref C, .ref C, true, rfl, .own _, .base (.ins g1 nI.cl nI.ha nI.hn nI.htk nI.hm), nI.me, _, rfl, iteF ?_⟩
    refine ⟨_, rfl, _, rfl, a, b, ks, ks', X, X', rfl, pa, pb, ?_⟩
    have p1 := prs_len ks X
    have p2 := prs_len ks' X'
    have m1 := mul7 l8
    have m2 := mul7 l8'
    have hh : (∃ (n k : Nat), ks[n]? = some k ∧ k ∈ ks' ∧ (∀ i c, i < n → ks[i]? = some c → c ∉ ks') ∧ ∀ d H', H' d = some (.xd [("kind", .str (S [k]))]) → L2.Same H H' → E (.ref SK) (some d) H') ∨ ((∀ k ∈ ks, k ∉ ks') ∧
        ((8 < ks.length + ks'.length ∧ ∀ d H', H' d = some (.xd [("most", .int 8)]) → L2.Same H H' → E (.ref TM) (some d) H') ∨ (ks.length + ks'.length ≤ 8 ∧ ∀ (r : Addr) (H' : Hp), L2.Same H H' → Q (.ref r) H'))) := by
      rcases h with h | ⟨no, gt, q⟩ | ⟨no, le, q⟩
      · exact .inl h
      · exact .inr ⟨no, .inl ⟨gt, q⟩⟩
      · exact .inr ⟨no, .inr ⟨le, q⟩⟩
    rcases hh with h | ⟨no, hh⟩
    · exact .inr h
    · refine .inl ⟨no, ?_⟩
      refine ⟨_, rfl, a, C, dx, _, _, rfl, h1, T.cl, T.nk, pf_kinds _ _ _ _, _, rfl, b, C, dy, _, _, rfl, g1, T.cl, T.nk, pf_kinds _ _ _ _, _, _, rfl, rfl, (by rw [S_len, S_len]; exact len_line (by omega)), ?_⟩
      rw [S_cat]
      refine ⟨_, rfl, a, C, dx, _, _, rfl, h1, T.cl, T.np, pf_pairs _ _ _ _, _, rfl, b, C, dy, _, _, rfl, g1, T.cl, T.np, pf_pairs _ _ _ _, cat_tup (SqT.of h2) (SqT.of g2) (by rw [List.length_map, List.length_map]; exact len_line (by omega)) fun p H1 gp s1 => ?_⟩
      rw [← List.map_append] at gp
      exact sum_go s1 pa.up pb.up pa.abc pb.abc l8 l8' no gp (fun h8 => by rw [List.length_append]; omega) (fun e he => (List.mem_append.mp he).elim (prs_pair (fun k hk => List.mem_append_left _ hk) e) (prs_pair (fun k hk => List.mem_append_right _ hk) e)) hh
/-- each kind of one with each of the other -/
def jnt (ks ks' : List Nat) : List Str := ks.flatMap fun a => ks'.map fun b => S [a, b]
theorem jnt_len (ks ks' : List Nat) : (jnt ks ks').length = ks.length * ks'.length := by
  unfold jnt
  induction ks with
  | nil => simp
  | cons a l ih =>
    rw [List.flatMap_cons, List.length_append, ih, List.length_map, List.length_cons, Nat.succ_mul]
    omega
theorem jnt_more {ks ks' : List Nat} {i a : Nat} (h : ks[i]? = some a) : jnt (ks.take (i + 1)) ks' = jnt (ks.take i) ks' ++ ks'.map fun b => S [a, b] := by
  unfold jnt
  rw [take_one h, List.flatMap_append]
  simp
theorem jnt_pair {ks ks' : List Nat} (no : ∀ k ∈ ks, k ∉ ks') : ∀ e ∈ jnt ks ks', ∃ l, e = S l ∧ pairB (ks ++ ks') l = true := fun e he => by
  unfold jnt at he
  obtain ⟨a, ha, h2⟩ := List.mem_flatMap.mp he
  obtain ⟨b, hb, rfl⟩ := List.mem_map.mp h2
  refine ⟨[a, b], rfl, ?_⟩
  show (a != b && ((ks ++ ks').contains a && (ks ++ ks').contains b)) = true
  rw [List.contains_iff_mem.mpr (List.mem_append_left _ ha), List.contains_iff_mem.mpr (List.mem_append_right _ hb), bne_iff_ne.mpr (show a ≠ b from fun e => no a ha (by rw [e]; exact hb))]
  rfl
abbrev nPm : List Str := ["self", "other", "joints", "own", "strange"]
theorem sc_pmul : FnScope nPm ["self", "other"] (defScope s_Plan_mul) := ⟨rfl, rfl, rfl, by decide +kernel, rfl, by decide +kernel, by decide +kernel⟩
theorem ok_planmul {f : Addr} {fd : FuncData} (F : FunD K "__mul__" "Plan.__mul__" (defArgs s_Plan_mul) (defBody s_Plan_mul) (defScope s_Plan_mul) [] [] f fd) (T : PlanT K C) (nI : C8.InsC K C) (zi : mg "isinstance" = none) (zu : mg "tuple" = none) (cN : CalN P w K mg base 3 "check_no_common_kind" (spNoCom C SK)) (M : MkPl P w K mg base C IP TM) :
    FnOk P w K mg base (L2N.CX P w) 5 f fd ["self", "other"] (spSumE C SK TM) := by
  obtain ⟨fm, fdm, mM, mF, mB⟩ := M.ex
  have gP := M.g
  refine F.ok sc_pmul (fun vs H Q E h => ?_) (fun cdv A outer s H vs Q E hr h => ?_)
  · obtain ⟨a, b, ks, ks', X, X', rfl, _⟩ := h
    rfl
  · obtain ⟨a, b, ks, ks', X, X', rfl, pa, pb, l8, l8', h⟩ := h
    refine ⟨_, pss_cons (ps_if (pt_not (pt_val (pe_callB call_isi (by rfl) zi PyProof.Rows.boot_isinstance (pa_cons (pv 1) (pa_cons (C8.pe_gc (v := .ref C) (by rfl) ⟨_, gP, rfl⟩) pa_nil))))) (pss_one ps_never) pss_nil)
      (pss_cons (ps_expr (pe_cN cN hr (by decide) (by rfl) (L2N.takes_of rfl rfl rfl rfl) (pa_cons (pv 0) (pa_cons (pv 1) pa_nil))))
      (pss_cons (ps_setLc2 (i := 2) (own := [("own", 3), ("strange", 4)]) (vs1 := [4]) (g := gName 3) (g1 := gName 4) (wi1 := iStr (tFld K (tVar 1) "kinds")) (te := tOp (fun x y H Q => ∃ i j, x = V.str i ∧ y = V.str j ∧ i.length + j.length ≤ PySem.sizeLine ∧ Q (V.str (i ++ j)) H) (tVar 3) (tVar 4)) rfl sc_pmul.nd rfl rfl (by rfl) (pi_str (pe_fld (pv 0) rfl)) (blkOk_by (own := [("own", 3), ("strange", 4)]) (N := nPm) (sc := defScope s_Plan_mul) (by decide +kernel)) (by decide)
          (fun _ _ _ _ _ => pg_name (i := 3) sc_pmul.nd rfl (.inl rfl)) (fun _ _ _ _ _ => pts_nil) (fun _ _ _ _ _ => by exact pi_str (pe_fld (pv 1) rfl)) (fun _ _ _ _ _ => pg_name (i := 4) sc_pmul.nd rfl (.inl rfl)) (fun _ _ _ _ _ => pts_nil) (fun _ _ _ _ _ => by exact pe_op op_add_str (pv 3) (pv 4)))
      (pss_one (ps_ret (pe_make mM mF (hr.mono (by decide)) (by rfl) gP mB .nil (L2N.passes_call (L2N.takes_of rfl rfl rfl rfl) fun _ _ _ _ h => h) (pa_cons (pe_op op_add_str (pe_fld (pv 0) rfl) (pe_fld (pv 1) rfl)) (pa_cons (pe_op op_catA (pe_op op_catA (pe_fld (pv 0) rfl) (pe_fld (pv 1) rfl)) (pe_callTy call_tuple_of (by rfl) zu (by decide +kernel) (pa_cons (pv 2) pa_nil))) pa_nil))))))), ?_⟩
    obtain ⟨dx, tp, _, _, h1, h2, _⟩ := pa.ex
    obtain ⟨dy, tq, _, _, g1, g2, _⟩ := pb.ex
    refine ⟨_, rfl, _, _, .ref C, .ref C, true, rfl, .own _, .base (.ins g1 nI.cl nI.ha nI.hn nI.htk nI.hm), nI.me, _, rfl, iteF ?_⟩
    refine ⟨_, rfl, _, rfl, a, b, ks, ks', X, X', rfl, pa, pb, ?_⟩
    have p1 := prs_len ks X
    have p2 := prs_len ks' X'
    have m1 := mul7 l8
    have m2 := mul7 l8'
    have jl := jnt_len ks ks'
    have hh : (∃ (n k : Nat), ks[n]? = some k ∧ k ∈ ks' ∧ (∀ i c, i < n → ks[i]? = some c → c ∉ ks') ∧ ∀ d H', H' d = some (.xd [("kind", .str (S [k]))]) → L2.Same H H' → E (.ref SK) (some d) H') ∨ ((∀ k ∈ ks, k ∉ ks') ∧
        ((8 < ks.length + ks'.length ∧ ∀ d H', H' d = some (.xd [("most", .int 8)]) → L2.Same H H' → E (.ref TM) (some d) H') ∨ (ks.length + ks'.length ≤ 8 ∧ ∀ (r : Addr) (H' : Hp), L2.Same H H' → Q (.ref r) H'))) := by
      rcases h with h | ⟨no, gt, q⟩ | ⟨no, le, q⟩
      · exact .inl h
      · exact .inr ⟨no, .inl ⟨gt, q⟩⟩
      · exact .inr ⟨no, .inr ⟨le, q⟩⟩
    rcases hh with h | ⟨no, hh⟩
    · exact .inr h
    · refine .inl ⟨no, ?_⟩
      have j64 : ks.length * ks'.length ≤ 64 := Nat.mul_le_mul l8 l8'
      refine ⟨_, rfl, a, C, dx, _, _, rfl, h1, T.cl, T.nk, pf_kinds _ _ _ _, _, rfl, fun D hD => ?_⟩
      refine out_it walk_str (fun i G => G D = some (.lst ((jnt (ks.take i) ks').map V.str)) ∧ L2.Same H G) ⟨upd_same, same_new hD⟩ (fun _ _ _ _ => trivial) ?_ ?_
      · rintro i x G G2 hi ⟨gD, sm⟩ ⟨rfl, c, hc, rfl⟩
        have hc' := getS hc
        refine ⟨rfl, _, rfl, b, C, dy, _, _, rfl, sm _ _ g1, T.cl, T.nk, pf_kinds _ _ _ _, _, rfl, ?_⟩
        refine in_it walk_str (fun j G' => G' D = some (.lst ((jnt (ks.take i) ks' ++ (ks'.take j).map fun b => S [c, b]).map V.str)) ∧ L2.Same H G') ⟨by simpa using gD, sm⟩ (fun _ _ _ _ => trivial) ?_ ?_
        · rintro j y G3 G4 hj ⟨gD3, sm3⟩ ⟨rfl, e, he, rfl⟩
          have he' := getS he
          refine ⟨rfl, _, rfl, _, rfl, _, _, rfl, rfl, (by show 1 + 1 ≤ sizeLine; exact len_line (by decide)), ?_⟩
          have ec : (⟨#[c]⟩ : Str) ++ ⟨#[e]⟩ = S [c, e] := S_cat [c] [e]
          rw [ec]
          have tk : (ks.take i).length ≤ 8 := by rw [List.length_take]; omega
          have tk2 : (ks'.take j).length ≤ 8 := by rw [List.length_take]; omega
          have jl2 := jnt_len (ks.take i) ks'
          have j642 : (ks.take i).length * ks'.length ≤ 64 := Nat.mul_le_mul tk l8'
          refine ⟨_, gD3, (by rw [List.length_map, List.length_append, List.length_map]; exact len_lt (by omega)), ?_, fun b o e => by rw [upd_ne (ne_of_none e hD)]; exact sm3 _ _ e⟩
          rw [upd_same, take_one he']
          simp only [List.map_append, List.map_cons, List.map_nil, List.append_assoc]
        · rintro G3 ⟨gD3, sm3⟩
          rw [sizeS, List.take_length] at gD3
          refine ⟨?_, sm3⟩
          rw [jnt_more hc']
          exact gD3
      · rintro G ⟨gD, sm⟩
        rw [sizeS, List.take_length] at gD
        have h1' := sm _ _ h1
        have g1' := sm _ _ g1
        refine ⟨_, rfl, a, C, dx, _, _, rfl, h1', T.cl, T.nk, pf_kinds _ _ _ _, _, rfl, b, C, dy, _, _, rfl, g1', T.cl, T.nk, pf_kinds _ _ _ _, _, _, rfl, rfl, (by rw [S_len, S_len]; exact len_line (by omega)), ?_⟩
        rw [S_cat]
        refine ⟨_, rfl, a, C, dx, _, _, rfl, h1', T.cl, T.np, pf_pairs _ _ _ _, _, rfl, b, C, dy, _, _, rfl, g1', T.cl, T.np, pf_pairs _ _ _ _, cat_tup (SqT.of (sm _ _ h2)) (SqT.of (sm _ _ g2)) (by rw [List.length_map, List.length_map]; exact len_line (by omega)) fun p H1 gp s1 => ?_⟩
        refine ⟨_, rfl, D, _, rfl, .inl ⟨SqL.of (s1 _ _ gD), fun tj htj => ?_⟩⟩
        have s2 := same_new (o := .tup ((jnt ks ks').map V.str)) htj
        have gt2 : (upd H1 tj (.tup ((jnt ks ks').map V.str))) tj = some (.tup ((jnt ks ks').map V.str)) := upd_same
        refine cat_tup (sameT s2 gp) (SqT.of gt2) (by rw [List.length_append, List.length_map, List.length_map, List.length_map]; exact len_line (by omega)) fun p2 H2 gp2 s3 => ?_
        rw [← List.map_append, ← List.map_append] at gp2
        refine sum_go (sm.trans (s1.trans (s2.trans s3))) pa.up pb.up pa.abc pb.abc l8 l8' no gp2 (fun h8 => ?_) (fun e he => ?_) hh
        · rw [List.length_append, List.length_append, jl]
          have z1 : ks.length * (ks.length - 1) + ks.length * ks'.length ≤ ks.length * 7 := by
            rw [← Nat.mul_add]
            by_cases e : ks.length = 0
            · rw [e]; simp
            · exact Nat.mul_le_mul_left _ (by omega)
          omega
        · rcases List.mem_append.mp he with z | z
          · exact (List.mem_append.mp z).elim (prs_pair (fun k hk => List.mem_append_left _ hk) e) (prs_pair (fun k hk => List.mem_append_right _ hk) e)
          · exact jnt_pair no e z
end
end TX
end
section
set_option maxRecDepth 100000
set_option maxHeartbeats 4000000
/-! zip of two texts -/
namespace TX
open PySem PySem.Spec PyProof.Rows L2
/-- the signs of two texts, in new pairs -/
def ItS (x y : Str) : It :=
  ⟨fun i _ => i < x.cps.size ∧ i < y.cps.size,
    fun i H v H' => ∃ (T : Addr) (c e : Nat), v = .ref T ∧ H T = none ∧ H' = upd H T (.tup [.str ⟨#[c]⟩, .str ⟨#[e]⟩]) ∧ x.cps[i]? = some c ∧ y.cps[i]? = some e,
    fun i _ => (i = x.cps.size ∧ i ≤ y.cps.size) ∨ (i = y.cps.size ∧ i ≤ x.cps.size)⟩
/-- the two iterators and the cells of the zip -/
def zSt (x y : Str) (tx ty : Tok) (z TI TO i1 i2 : Addr) (i : Nat) (h : Heap) : Prop :=
  IsZip h z TI TO .none ∧ IsTupOf2 h TI (.ref i1) (.ref i2) ∧ (∃ p q, IsTupOf2 h TO p q) ∧ h.IsStrIter i1 (strIterType x) x tx i ∧ h.IsStrIter i2 (strIterType y) y ty i
theorem mem5 {c z TI TO i1 i2 : Addr} (h : c ∈ [z, TI, TO, i1, i2]) : c = z ∨ c = TI ∨ c = TO ∨ c = i1 ∨ c = i2 := by simpa using h
theorem zSt.lt {x y : Str} {tx ty : Tok} {z TI TO i1 i2 c : Addr} {i : Nat} {h : Heap} (st : zSt x y tx ty z TI TO i1 i2 i h) (hc : c ∈ [z, TI, TO, i1, i2]) : c < h.objs.size := by
  obtain ⟨a1, a2, ⟨p, q, a3⟩, ⟨o4, a4, _⟩, ⟨o5, a5, _⟩⟩ := st
  rcases mem5 hc with e | e | e | e | e
  · exact e ▸ Heap.lt_size a1
  · exact e ▸ Heap.lt_size a2
  · exact e ▸ Heap.lt_size a3
  · exact e ▸ Heap.lt_size a4
  · exact e ▸ Heap.lt_size a5
theorem turn_zipS {P : Program} {w : World} {K : PySem.W.Frag} {es : List Expr} {n : Nat} {ps : Pos} {x y : Str} {tx ty : Tok} {z TI TO i1 i2 : Addr} (D : ZipSep2 z TI TO i1 i2 [i1] [i2]) :
    Turn P w K (.Tuple es n ps) (ItS x y) [z, TI, TO, i1, i2] z (zSt x y tx ty z TI TO i1 i2) := by
  refine ⟨by simp, fun i h st c hc => ?_, fun i h h' st k => ?_, ?_, ?_, fun A i s Q E st h => wpAny_pyIter_zip st.1 h⟩
  · obtain ⟨a1, a2, ⟨p, q, a3⟩, ⟨o4, a4, _, d4⟩, ⟨o5, a5, _, d5⟩⟩ := st
    rcases mem5 hc with e | e | e | e | e
    · exact ⟨_, e ▸ a1, fun v => by simp⟩
    · exact ⟨_, e ▸ a2, fun v => by simp⟩
    · exact ⟨_, e ▸ a3, fun v => by simp⟩
    · exact ⟨o4, e ▸ a4, fun v => by rw [d4]; simp⟩
    · exact ⟨o5, e ▸ a5, fun v => by rw [d5]; simp⟩
  · obtain ⟨a1, a2, ⟨p, q, a3⟩, ⟨o4, a4, r4⟩, ⟨o5, a5, r5⟩⟩ := st
    exact ⟨k z (by simp) _ a1, k TI (by simp) _ a2, ⟨p, q, k TO (by simp) _ a3⟩, ⟨o4, k i1 (by simp) _ a4, r4⟩, ⟨o5, k i2 (by simp) _ a5, r5⟩⟩
  · intro X eP ew eK calm i pins s σ H E I hf st hg
    subst eP
    subst ew
    subst eK
    have lts := fun c hc => zSt.lt (c := c) st hc
    obtain ⟨a1, a2, ⟨p, q, a3⟩, a4, a5⟩ := st
    have hh : X.A.in1.handled = none := I.ok.hd calm
    refine wpAny_pyNext_zipD2_item D (Draws.text hh i1 x tx) (Draws.text hh i2 y ty) a1 a2 a3 a4 a5 hg.1 hg.2 fun x1 x2 h' tk e1 e2 zz tt j4 j5 nw sz kp => ?_
    obtain ⟨c1, u1, g1, rfl⟩ := e1
    obtain ⟨c2, u2, g2, rfl⟩ := e2
    refine ⟨_, rfl, wpAny_letOwnedTupleGo_zip (s := { s with heap := h', toks := tk }) zz fun h2 z2 sb => ?_⟩
    have zl := lts z (by simp)
    have nT : h2.get? s.heap.objs.size = some { cls := .type "tuple", data := .seq #[.str ⟨#[c1]⟩ u1, .str ⟨#[c2]⟩ u2] } := (sb.2 _ (Nat.ne_of_gt zl)).trans nw
    have ok2 : ObjOk X.prog X.w (upd H s.heap.objs.size (.tup [.str ⟨#[c1]⟩, .str ⟨#[c2]⟩])) h2 s.heap.objs.size (.tup [.str ⟨#[c1]⟩, .str ⟨#[c2]⟩]) :=
      ⟨by show 2 ≤ sizeLine; decide, [.str ⟨#[c1]⟩ u1, .str ⟨#[c2]⟩ u2], .cons ⟨u1, rfl⟩ (.cons ⟨u2, rfl⟩ .nil), ⟨_, nT, rfl, _, rfl⟩⟩
    have kept : ∀ b o, b ∉ [z, TI, TO, i1, i2] → s.heap.get? b = some o → h2.get? b = some o := fun b o nb e => by
      rw [sb.2 b fun e' => nb (by rw [e']; simp)]
      exact kp b o (fun e' => nb (by rw [e']; simp)) (fun e' => nb (by rw [e']; simp)) (fun e' => nb (by rw [e']; simp)) (fun e' => nb (by rw [e']; simp)) e
    have I2 := I.turnedNew (t' := tk) kept hf (Nat.le_refl _) ok2
    refine ⟨.ref s.heap.objs.size, _, I2, rfl, ⟨_, c1, c2, rfl, I.hok.fresh (Nat.le_refl _), rfl, g1, g2⟩, ⟨z2, ?_, ⟨_, _, (sb.2 _ D.TOz).trans tt⟩, ?_, ?_⟩, fun c hc => ?_⟩
    · exact (sb.2 _ D.TIz).trans (kp _ _ D.TIz D.TITO D.TIi1 D.TIi2 a2)
    · obtain ⟨o, b1, b2⟩ := j4
      exact ⟨o, (sb.2 _ fun e => D.zi1 e.symm).trans b1, b2⟩
    · obtain ⟨o, b1, b2⟩ := j5
      exact ⟨o, (sb.2 _ fun e => D.zi2 e.symm).trans b1, b2⟩
    · rw [upd_ne (Nat.ne_of_lt (lts c hc))]
      exact (hf c hc).1
  · intro X eP ew eK calm i pins s σ H E I hf st hg
    subst eP
    subst ew
    subst eK
    obtain ⟨a1, a2, ⟨p, q, a3⟩, a4, a5⟩ := st
    have hh : X.A.in1.handled = none := I.ok.hd calm
    have le : i ≤ x.cps.size ∧ i ≤ y.cps.size := by
      rcases hg with ⟨e, l⟩ | ⟨e, l⟩
      · exact ⟨Nat.le_of_eq e, l⟩
      · exact ⟨l, Nat.le_of_eq e⟩
    refine wpAny_pyNext_zipD2_end D (Draws.text hh i1 x tx) (Draws.text hh i2 y ty) a1 a2 a3 a4 a5 le.1 le.2 (hg.imp And.left And.left) fun h' tk kp => ⟨rfl, ?_⟩
    exact I.turnedL (t' := tk) (ch := [z, TI, TO, i1, i2]) (fun b o nb e => kp b o (fun e' => nb (by rw [e']; simp)) (fun e' => nb (by rw [e']; simp)) (fun e' => nb (by rw [e']; simp)) (fun e' => nb (by rw [e']; simp)) e) hf
/-- zip(a, b) of two texts -/
def iZipS (ta : TA) : TI := fun σ H R => ta σ H fun vs H1 => ∃ x y : Str, vs = [.str x, .str y] ∧ R (ItS x y) H1
theorem sep5 (n : Nat) : ZipSep2 (n + 4) (n + 2) (n + 3) n (n + 1) [n] [n + 1] := by
  constructor <;> simp <;> omega
theorem pi_zipS {X : Cx} {a b : Expr} {ta : TA} {p1 p2 p3 : Pos} {es : List Expr} {n : Nat} (hg : Gl X "zip") (hm : X.mg "zip" = none) (ha : PA X [a, b] ta)
    (e1 : starEach [a, b] X.env = (false, eval a X.env) :: starEach [b] X.env := by rfl) (e2 : (backTo p2 (starEach [b] X.env)).any (·.1) = false := by rfl) :
    PI X (.Tuple es n p3) (.Call (.Name "zip" p1) [a, b] [] p2) (iZipS ta) := by
  constructor
  intro pins s σ H R I h
  refine Call_ (ld_blt I hg hm PyProof.Rows.boot_zip (PyProof.Rows.callWith_type1 (thn (ha.run p2 pins s σ H _ I h) fun us s1 hs => ?_) e1 e2))
  obtain ⟨vs, H1, I1, r1, x, y, ex, q⟩ := hs
  subst ex
  cases r1 with
  | cons ra rs =>
    cases rs with
    | cons rb rn =>
      cases rn
      obtain ⟨tx, rfl⟩ := ra
      obtain ⟨ty, rfl⟩ := rb
      refine zip_begins2 (begins_text x tx) (begins_text y ty) trivial trivial fun h' zz t1 t2 g1 g2 _ kp => wpAny_pyIter_zip zz ?_
      have I2 : Inv X pins σ H1 { s1 with heap := h' } := I1.kept (t' := s1.toks) kp
      refine ⟨s1.heap.objs.size + 4, _, _, _, H1, rfl, I2, turn_zipS (tx := tx) (ty := ty) (sep5 s1.heap.objs.size), ⟨zz, t1, ⟨_, _, t2⟩, ⟨_, g1, rfl, rfl⟩, ⟨_, g2, rfl, rfl⟩⟩, fun c hc => ?_, q⟩
      have le : s1.heap.objs.size ≤ c := by
        rcases mem5 hc with e | e | e | e | e <;> rw [e]
        · exact Nat.le_add_right _ _
        · exact Nat.le_add_right _ _
        · exact Nat.le_add_right _ _
        · exact Nat.le_refl _
        · exact Nat.le_add_right _ _
      exact I1.fpOk le (I1.hok.fresh le)
end TX
end
section
set_option maxRecDepth 100000
set_option maxHeartbeats 4000000
/-! a[k] by an own method; a method called by keywords alone -/
namespace TX
open PySem PySem.Spec PyProof.Rows L2
section
variable {X : Cx} {k : Nat} {C f : Addr} {fd : FuncData} {ps : List Str} {sp : Sp}
def tIxOwn (C : Addr) (sp : Sp) (ta tb : TE) : TE := fun σ H Q => ta σ H fun x H1 => tb σ H1 fun y H2 => ∃ p dx fs, x = .ref p ∧ H2 p = some (.ins C dx fs) ∧ sp [x, y] H2 Q C8.E0
theorem pe_ixOwn {a b : Expr} {pos : Pos} {ta tb : TE} (F : FnOk X.prog X.w X.K X.mg X.base C8.CX0 k f fd ps sp) (M : Meth X.K C "__getitem__" f) (hn : PySem.W.fnIn X.K f = true) (bi : L2.Binds X.K fd ps []) (hr : Room (k + 1) X.A) (ha : PE X a ta) (hb : PE X b tb)
    (hsl : ∀ o i, subscripted b true o i = runValue (.builtin "lifetime.subscript" ⟨[o, i], []⟩) := by intro _ _; rfl) : PE X (.Subscript a b pos) (tIxOwn C sp ta tb) := by
  refine ⟨fun pins s σ H Q I h => ?_⟩
  refine Subscript_ (binT (R := fun x y H2 => ∃ p dx fs, x = .ref p ∧ H2 p = some (.ins C dx fs) ∧ sp [x, y] H2 Q C8.E0) ha hb I h fun v u s2 x y H2 I2 rx ry q => ?_)
  obtain ⟨p, dx, fs, rfl, hp, q⟩ := q
  have ev : v = .ref p := rx
  subst ev
  obtain ⟨oa, ia⟩ := inst_of I2 hp
  obtain ⟨m, fr⟩ := I2.fr
  exact PySem.W.sub_K fr I2.ok.mod.kin ia M.at_ hn M.fn (run_sub (L2.Sub.in1 (sub_self hr)) F bi I2 (.cons rx (.cons ry .nil)) q) (hsl _ _)
def tMethK (C : Addr) (m : Str) (sp : Sp) (gV : List V → List V → List V) (E : XK) (ta : TE) (tk : TA) : TE := fun σ H Q => ta σ H fun x H1 => ∃ a dx fs, x = .ref a ∧ H1 a = some (.ins C dx fs) ∧ fs.lookup m = none ∧
  tk σ H1 fun zs H2 => sp (gV [x] zs) H2 Q E
/-- o.m(k = e, ..) -/
theorem pe_methK0 {CX : CXT} {o : Expr} {m : Str} {apos pos : Pos} {kws : List Keyword} {ks : List Str} {ta : TE} {tk : TA} {E : XK} {g : List Value → List Value → List Value} {gV : List V → List V → List V} {pl : Sem Bool}
    (he : PE X o ta) (c : Cls X.K C) (hm : Meth X.K C m f) (F : FnOk X.prog X.w X.K X.mg X.base CX k f fd ps sp) (hr : Room k X.A) (hb : KBinds X.K fd ps ks g gV) (hx : Passes CX X E) (hkw : PK X kws tk)
    (h1 : ((backToKw pos (keywordEach kws X.env)).all fun x => x.1.isSome) = true := by rfl) (h2 : (backToKw pos (keywordEach kws X.env)).filterMap (fun x => x.1) = ks := by rfl)
    (h4 : (((backTo pos (starEach [] X.env)).any fun x => x.1) || (backToKw pos (keywordEach kws X.env)).any fun x => x.1.isNone) = false := by rfl)
    (ht : eval (.Call (.Attribute o m apos) [] kws pos) X.env = (do
      let ov ← eval o X.env
      standAt apos.atName
      let (f, first) ← holding [ov] (getMethod ov m pl)
      callWith pos f first (backTo pos (starEach [] X.env)) (backToKw pos (keywordEach kws X.env))) := by rfl) :
    PE X (.Call (.Attribute o m apos) [] kws pos) (tMethK C m sp gV E ta tk) := by
  refine ⟨fun pins s σ H Q I h => ?_⟩
  refine PySem.W.methodCall_KW (pl := pl) (thn (he.run pins s σ H _ I h) fun u s1 ⟨x, H1, I1, rx, a, dx, fs, ex, ea, l, q⟩ => ?_) ht
  subst ex
  obtain rfl : u = Value.ref a := rx
  refine getmeth_ok I1 ea c hm l ?_
  refine PySem.W.callWith_KW0 (first := [.ref a]) I1.kIn hm.kp h1 ?_ h4
  refine thn (hkw.run pos pins s1 σ H1 _ I1 q) fun ws s2 ⟨vs, H2, I2, r2, q2⟩ => ?_
  refine ⟨I2.kIn, ?_⟩
  rw [h2]
  exact run_fnk (us := [.ref a]) (vs := [.ref a]) F hr hb hx I2 (.cons rfl .nil) r2 q2
end
end TX
end
section
/-! The vectors of the doors: a way's vectors tell its name. -/
namespace CW
abbrev Vec := Nat → Int
def unitV : Nat → Vec := fun k j => if k = j then 1 else 0
/-- the vectors behind the door d -/
def thr (X : Nat → Nat → Bool) (m : Nat → Vec) (d : Nat) : Nat → Vec := fun k j => if k = d then -(m d j) else if X d k = true then m k j else m k j + 2 * m d j
/-- the vectors of a way told backwards -/
def mr (X : Nat → Nat → Bool) : List Nat → Nat → Vec
  | [] => unitV
  | d :: r => thr X (mr X r) d
/-- can the letter k come to the front? -/
def rd (X : Nat → Nat → Bool) : List Nat → Nat → Bool
  | [], _ => false
  | o :: r, k => (o == k) || (X o k && rd X r k)
def red (X : Nat → Nat → Bool) : List Nat → Bool
  | [] => true
  | k :: r => !rd X r k && red X r
theorem thr_thr {X : Nat → Nat → Bool} (m : Nat → Vec) (d : Nat) : thr X (thr X m d) d = m := by
  funext k j
  unfold thr
  by_cases h : k = d
  · subst h
    simp
  · simp only [if_neg h, if_true]
    by_cases x : X d k = true
    · simp only [if_pos x]
    · simp only [if_neg x]
      omega
theorem thr_comm {X : Nat → Nat → Bool} (cr : Crossing X) (m : Nat → Vec) {a b : Nat} (h : X a b = true) : thr X (thr X m a) b = thr X (thr X m b) a := by
  have n := cr.ne h
  have h2 : X b a = true := by rw [cr.sym]; exact h
  funext k j
  unfold thr
  by_cases ka : k = a
  · subst ka
    simp only [if_neg n, if_pos h2, if_pos h, if_true, if_neg n.symm]
  · by_cases kb : k = b
    · subst kb
      simp only [if_neg n, if_pos h2, if_pos h, if_true, if_neg n.symm]
    · simp only [if_neg ka, if_neg kb, if_pos h, if_pos h2, if_neg n, if_neg n.symm]
      by_cases xa : X a k = true <;> by_cases xb : X b k = true <;> simp only [xa, xb, if_true, if_false] <;> first | rfl | (simp; omega)
theorem mr_pos {X : Nat → Nat → Bool} (cr : Crossing X) : ∀ r : List Nat, red X r = true →
    (∀ k, rd X r k = false → ∀ j, 0 ≤ mr X r k j) ∧ (∀ a b, a ≠ b → X a b = false → ∀ j, 0 ≤ mr X r a j + mr X r b j)
  | [], _ => by
    constructor
    · intro k _ j
      show 0 ≤ (if k = j then (1 : Int) else 0)
      split <;> omega
    · intro a b _ _ j
      show 0 ≤ (if a = j then (1 : Int) else 0) + (if b = j then 1 else 0)
      split <;> split <;> omega
  | d :: r, h => by
    have h' : rd X r d = false ∧ red X r = true := by
      unfold red at h
      simpa using h
    obtain ⟨p, q⟩ := mr_pos cr r h'.2
    have pd := p d h'.1
    constructor
    · intro k hk j
      have hk' : d ≠ k ∧ (X d k = true → rd X r k = false) := by
        unfold rd at hk
        rw [Bool.or_eq_false_iff] at hk
        refine ⟨by simpa using hk.1, fun x => ?_⟩
        have := hk.2
        rw [x, Bool.true_and] at this
        exact this
      show 0 ≤ (if k = d then -(mr X r d j) else if X d k = true then mr X r k j else mr X r k j + 2 * mr X r d j)
      rw [if_neg hk'.1.symm]
      by_cases x : X d k = true
      · rw [if_pos x]
        exact p k (hk'.2 x) j
      · rw [if_neg x]
        have x2 : X k d = false := by rw [cr.sym]; simpa using x
        have := q k d hk'.1.symm x2 j
        have := pd j
        omega
    · intro a b nab xab j
      have xba : X b a = false := by rw [cr.sym]; exact xab
      have s := q a b nab xab j
      have dj := pd j
      show 0 ≤ (if a = d then -(mr X r d j) else if X d a = true then mr X r a j else mr X r a j + 2 * mr X r d j) + (if b = d then -(mr X r d j) else if X d b = true then mr X r b j else mr X r b j + 2 * mr X r d j)
      by_cases ad : a = d
      · subst ad
        rw [if_pos rfl, if_neg nab.symm, if_neg (by rw [xab]; simp)]
        omega
      · by_cases bd : b = d
        · subst bd
          rw [if_pos rfl, if_neg nab, if_neg (by rw [xba]; simp)]
          omega
        · rw [if_neg ad, if_neg bd]
          split <;> split <;> omega
theorem mr_neg {X : Nat → Nat → Bool} (cr : Crossing X) : ∀ (r : List Nat) (k : Nat), red X r = true → rd X r k = true → ∀ j, mr X r k j ≤ 0
  | [], k, _, h, _ => by cases h
  | o :: r, k, h, hk, j => by
    have h' : rd X r o = false ∧ red X r = true := by
      unfold red at h
      simpa using h
    show (if k = o then -(mr X r o j) else if X o k = true then mr X r k j else mr X r k j + 2 * mr X r o j) ≤ 0
    by_cases e : k = o
    · rw [if_pos e]
      have := (mr_pos cr r h'.2).1 o h'.1 j
      omega
    · rw [if_neg e]
      unfold rd at hk
      rw [Bool.or_eq_true, Bool.and_eq_true] at hk
      rcases hk with z | ⟨x, z⟩
      · exact absurd (beq_iff_eq.mp z).symm e
      · rw [if_pos x]
        exact mr_neg cr r k h'.2 z j
theorem mr_odd {X : Nat → Nat → Bool} : ∀ (r : List Nat) (k j : Nat), (mr X r k j - unitV k j) % 2 = 0
  | [], k, j => by
    show (unitV k j - unitV k j) % 2 = 0
    omega
  | d :: r, k, j => by
    have h1 := mr_odd (X := X) r k j
    have h2 := mr_odd (X := X) r d j
    show ((if k = d then -(mr X r d j) else if X d k = true then mr X r k j else mr X r k j + 2 * mr X r d j) - unitV k j) % 2 = 0
    by_cases e : k = d
    · subst e
      rw [if_pos rfl]
      omega
    · rw [if_neg e]
      split <;> omega
/-- the doors that lead nearer: those with a number below nought -/
theorem back_iff {X : Nat → Nat → Bool} (cr : Crossing X) {r ks : List Nat} {k : Nat} (h : red X r = true) (hk : k ∈ ks) : (∃ j ∈ ks, mr X r k j < 0) ↔ rd X r k = true := by
  constructor
  · rintro ⟨j, _, lt⟩
    cases e : rd X r k with
    | true => rfl
    | false =>
      have := (mr_pos cr r h).1 k e j
      omega
  · intro e
    refine ⟨k, hk, ?_⟩
    have a := mr_neg cr r k h e k
    have b := mr_odd (X := X) r k k
    have u : unitV k k = 1 := if_pos rfl
    rw [u] at b
    omega
theorem mr_app {X : Nat → Nat → Bool} {t t' : List Nat} (h : mr X t = mr X t') : ∀ l : List Nat, mr X (l ++ t) = mr X (l ++ t')
  | [] => h
  | a :: l => by
    show thr X (mr X (l ++ t)) a = thr X (mr X (l ++ t')) a
    rw [mr_app h l]
/-- a letter goes through letters that all cross it -/
theorem mr_pass {X : Nat → Nat → Bool} (cr : Crossing X) {k : Nat} (t : List Nat) : ∀ l : List Nat, (∀ c ∈ l, X k c = true) → mr X (l ++ k :: t) = mr X (k :: (l ++ t))
  | [], _ => rfl
  | a :: l, h => by
    have ih := mr_pass cr t l fun c hc => h c (List.mem_cons_of_mem _ hc)
    show thr X (mr X (l ++ k :: t)) a = thr X (thr X (mr X (l ++ t)) a) k
    rw [ih]
    exact thr_comm cr _ (h a List.mem_cons_self)
theorem mr_beh {ks : List Nat} {X : Nat → Nat → Bool} (cr : Crossing X) (name : List Nat) (k : Nat) (t : List Nat) : mr X (beh ks X name k ++ t) = mr X (name ++ k :: t) := by
  obtain ⟨tl, rest, e0, h1, _, h⟩ := beh_cases ks X name k
  have en : name = rest.reverse ++ tl.reverse := by
    have q := congrArg List.reverse e0
    rw [List.reverse_reverse, List.reverse_append] at q
    exact q
  have ht : ∀ c ∈ tl.reverse, X k c = true := fun c hc => (h1 c (List.mem_reverse.mp hc)).2
  rcases h with ⟨r, er, eb⟩ | ⟨_, er, lr, et, _, _, eb⟩
  · rw [eb, en, er, List.reverse_append, List.reverse_cons, List.append_assoc, List.append_assoc, List.append_assoc]
    refine mr_app ?_ r.reverse
    show mr X (tl.reverse ++ t) = thr X (mr X (tl.reverse ++ k :: t)) k
    rw [mr_pass cr t tl.reverse ht]
    show _ = thr X (thr X (mr X (tl.reverse ++ t)) k) k
    rw [thr_thr]
  · have hl : ∀ c ∈ lr.reverse, X k c = true := fun c hc => ht c (by rw [et, List.reverse_append]; exact List.mem_append_right _ hc)
    rw [eb, en, et, List.reverse_append, List.reverse_append, List.reverse_cons, List.reverse_append]
    have e1 : rest.reverse ++ er.reverse ++ [k] ++ lr.reverse ++ t = (rest.reverse ++ er.reverse) ++ (k :: (lr.reverse ++ t)) := by simp
    have e2 : rest.reverse ++ (er.reverse ++ lr.reverse) ++ k :: t = (rest.reverse ++ er.reverse) ++ (lr.reverse ++ k :: t) := by simp
    rw [e1, e2]
    exact mr_app (mr_pass cr t lr.reverse hl).symm _
/-- a way and the name to which it leads have the same vectors -/
theorem mr_fol {ks : List Nat} {X : Nat → Nat → Bool} (cr : Crossing X) : ∀ (way name t : List Nat), mr X (fol ks X name way ++ t) = mr X (name ++ (way ++ t))
  | [], _, _ => rfl
  | k :: way, name, t => by
    show mr X (fol ks X (beh ks X name k) way ++ t) = _
    rw [mr_fol cr way (beh ks X name k) t, mr_beh cr name k (way ++ t)]
    rfl
/-- the letters that can come to the front -/
theorem rd_split {X : Nat → Nat → Bool} {k : Nat} : ∀ {r : List Nat}, rd X r k = true → ∃ u v, r = u ++ k :: v ∧ ∀ c ∈ u, X c k = true
  | [], h => by cases h
  | o :: r, h => by
    unfold rd at h
    rw [Bool.or_eq_true, Bool.and_eq_true] at h
    rcases h with z | ⟨x, z⟩
    · exact ⟨[], r, by rw [beq_iff_eq.mp z]; rfl, fun c hc => by cases hc⟩
    · obtain ⟨u, v, e, hu⟩ := rd_split z
      refine ⟨o :: u, v, by rw [e]; rfl, fun c hc => ?_⟩
      rcases List.mem_cons.mp hc with q | q
      · rw [q]; exact x
      · exact hu c q
theorem bar_hitV {X : Nat → Nat → Bool} {k : Nat} {r : List Nat} : ∀ u : List Nat, (∀ c ∈ u, X c k = true) → bar X (u ++ k :: r) k = true
  | [], _ => by
    show ((k == k) || _) = true
    simp
  | o :: u, h => by
    show ((k == o) || (X o k && (decide (k < o) || bar X (u ++ k :: r) k))) = true
    rw [bar_hitV u fun c hc => h c (List.mem_cons_of_mem _ hc), h o List.mem_cons_self]
    simp
theorem bar_moreV {X : Nat → Nat → Bool} {k : Nat} {r : List Nat} : ∀ {u : List Nat}, bar X (u ++ r) k = false → bar X u k = false
  | [], _ => rfl
  | o :: u, h => by
    obtain ⟨h1, h2⟩ := bar_cons_false.mp h
    exact bar_cons_false.mpr ⟨h1, fun x => ⟨(h2 x).1, bar_moreV (h2 x).2⟩⟩
theorem nf_headV {X : Nat → Nat → Bool} {r : List Nat} : ∀ {u : List Nat}, nf X (u ++ r) = true → nf X u = true
  | [], _ => rfl
  | o :: u, h => by
    obtain ⟨h1, h2⟩ := nf_cons.mp h
    exact nf_cons.mpr ⟨bar_moreV h1, nf_headV h2⟩
/-- each part of a name is a name -/
theorem isName_tail {X : Nat → Nat → Bool} {a : Nat} {l : List Nat} (h : isName X (a :: l) = true) : isName X l = true := by
  unfold isName at h ⊢
  rw [List.reverse_cons] at h
  exact nf_headV h
theorem isName_rd {X : Nat → Nat → Bool} {k : Nat} {r : List Nat} (h : isName X (k :: r) = true) : rd X r k = false := by
  cases e : rd X r k with
  | false => rfl
  | true =>
    obtain ⟨u, v, e2, hu⟩ := rd_split e
    unfold isName at h
    have e3 : (k :: r).reverse = v.reverse ++ (k :: (u.reverse ++ k :: [])) := by
      rw [e2]
      simp
    rw [e3] at h
    have h2 := (nf_cons.mp (nf_tail h)).1
    rw [bar_hitV u.reverse fun c hc => hu c (List.mem_reverse.mp hc)] at h2
    cases h2
theorem isName_red {X : Nat → Nat → Bool} : ∀ {l : List Nat}, isName X l = true → red X l = true
  | [], _ => rfl
  | k :: l, h => by
    show (!rd X l k && red X l) = true
    rw [isName_rd h, isName_red (isName_tail h)]
    rfl
theorem bar_least {X : Nat → Nat → Bool} {k : Nat} : ∀ {u : List Nat}, (∀ c ∈ u, X c k = true) → bar X u k = false → ∀ c ∈ u, ¬ k < c
  | [], _, _, c, hc => by cases hc
  | o :: u, h, b, c, hc => by
    obtain ⟨h1, h2⟩ := bar_cons_false.mp b
    have h3 := h2 (h o List.mem_cons_self)
    rcases List.mem_cons.mp hc with q | q
    · rw [q]; exact h3.1
    · exact bar_least (fun c hc => h c (List.mem_cons_of_mem _ hc)) h3.2 c q
/-- the first letter of a name is the least that can come to the front -/
theorem first_least {X : Nat → Nat → Bool} {b k : Nat} {l : List Nat} (h : isName X (b :: l) = true) (hk : rd X (b :: l) k = true) : b ≤ k := by
  obtain ⟨u, v, e, hu⟩ := rd_split hk
  cases u with
  | nil =>
    have := (List.cons.inj e).1
    omega
  | cons o u =>
    have eo := (List.cons.inj e).1
    unfold isName at h
    rw [e] at h
    have e3 : ((o :: u) ++ k :: v).reverse = v.reverse ++ (k :: (o :: u).reverse) := by simp
    rw [e3] at h
    have h2 := (nf_cons.mp (nf_tail h)).1
    have h3 := bar_least (fun c hc => hu c (List.mem_reverse.mp hc)) h2 o (List.mem_reverse.mpr List.mem_cons_self)
    omega
theorem first_rd {X : Nat → Nat → Bool} {b : Nat} {l : List Nat} : rd X (b :: l) b = true := by
  show ((b == b) || _) = true
  simp
/-- the vectors behind the first door are those of the rest -/
theorem mr_first {X : Nat → Nat → Bool} (b : Nat) (l : List Nat) : thr X (mr X (b :: l)) b = mr X l := by
  show thr X (thr X (mr X l) b) b = _
  exact thr_thr _ _
end CW
end
section
namespace CW
theorem rd_of_mr {X : Nat → Nat → Bool} (cr : Crossing X) {a b : List Nat} (ha : isName X a = true) (hb : isName X b = true) (h : mr X a = mr X b) (k : Nat) (e : rd X a k = true) : rd X b k = true := by
  have z := (back_iff cr (r := a) (ks := [k]) (k := k) (isName_red ha) List.mem_cons_self).mpr e
  rw [h] at z
  obtain ⟨j, hj, lt⟩ := z
  exact (back_iff cr (r := b) (ks := [k]) (k := k) (isName_red hb) List.mem_cons_self).mp ⟨j, hj, lt⟩
/-- two names with the same vectors are one -/
theorem mr_inj {X : Nat → Nat → Bool} (cr : Crossing X) : ∀ {a b : List Nat}, isName X a = true → isName X b = true → mr X a = mr X b → a = b
  | [], [], _, _, _ => rfl
  | [], y :: b, ha, hb, h => by
    have := rd_of_mr cr hb ha h.symm y first_rd
    cases this
  | x :: a, [], ha, hb, h => by
    have := rd_of_mr cr ha hb h x first_rd
    cases this
  | x :: a, y :: b, ha, hb, h => by
    have h1 := first_least hb (rd_of_mr cr ha hb h x first_rd)
    have h2 := first_least ha (rd_of_mr cr hb ha h.symm y first_rd)
    have e : x = y := by omega
    subst e
    have h3 : mr X a = mr X b := by
      rw [← mr_first x a, ← mr_first x b, h]
    rw [mr_inj cr (isName_tail ha) (isName_tail hb) h3]
theorem mr_back {X : Nat → Nat → Bool} (t : List Nat) : ∀ w : List Nat, mr X (w ++ (w.reverse ++ t)) = mr X t
  | [] => rfl
  | a :: w => by
    rw [List.reverse_cons, List.append_assoc]
    show thr X (mr X (w ++ (w.reverse ++ ([a] ++ t)))) a = mr X t
    rw [mr_back ([a] ++ t) w]
    exact mr_first a t
theorem mr_fol0 {ks : List Nat} {X : Nat → Nat → Bool} (cr : Crossing X) (way name : List Nat) : mr X (fol ks X name way) = mr X (name ++ way) := by
  have z := mr_fol (ks := ks) cr way name []
  rw [List.append_nil, List.append_nil] at z
  exact z
/-- a name leads to itself -/
theorem fol_self {ks : List Nat} {X : Nat → Nat → Bool} (cr : Crossing X) {n : List Nat} (hn : isName X n = true) (hk : ∀ c ∈ n, c ∈ ks) : fol ks X [] n = n :=
  mr_inj cr (fol_name cr n [] (fun c h => by cases h) hk rfl).1 hn (mr_fol0 cr n [])
/-- a way and its turning back lead home -/
theorem fol_back {ks : List Nat} {X : Nat → Nat → Bool} (cr : Crossing X) {w : List Nat} (hk : ∀ c ∈ w, c ∈ ks) : fol ks X (fol ks X [] w) w.reverse = [] := by
  have h1 := fol_name cr w [] (fun c h => by cases h) hk rfl
  have h2 := fol_name cr w.reverse (fol ks X [] w) h1.2 (fun c h => hk c (List.mem_reverse.mp h)) h1.1
  refine mr_inj cr h2.1 rfl ?_
  rw [mr_fol0 cr]
  have z := mr_fol (ks := ks) cr w [] w.reverse
  rw [z]
  have y := mr_back (X := X) [] w
  rw [List.append_nil] at y
  exact y
theorem fol_back2 {ks : List Nat} {X : Nat → Nat → Bool} (cr : Crossing X) {n : List Nat} (hn : isName X n = true) (hk : ∀ c ∈ n, c ∈ ks) : fol ks X n n.reverse = [] := by
  have z := fol_back cr hk
  rw [fol_self cr hn hk] at z
  exact z
/-- the way between two rooms leads there -/
theorem fol_between {ks : List Nat} {X : Nat → Nat → Bool} (cr : Crossing X) {n m : List Nat} (hn : isName X n = true) (hm : isName X m = true) (kn : ∀ c ∈ n, c ∈ ks) (km : ∀ c ∈ m, c ∈ ks) : fol ks X n (fol ks X [] (n.reverse ++ m)) = m := by
  have kw : ∀ c ∈ n.reverse ++ m, c ∈ ks := fun c h => (List.mem_append.mp h).elim (fun z => kn c (List.mem_reverse.mp z)) (km c)
  have h1 := fol_name cr (n.reverse ++ m) [] (fun c h => by cases h) kw rfl
  have h2 := fol_name cr (fol ks X [] (n.reverse ++ m)) n kn h1.2 hn
  refine mr_inj cr h2.1 hm ?_
  rw [mr_fol0 cr, mr_app (mr_fol0 (ks := ks) cr (n.reverse ++ m) []) n]
  exact mr_back m n
/-- there is no way just between a room and itself -/
theorem between_nil {ks : List Nat} {X : Nat → Nat → Bool} (cr : Crossing X) {n m : List Nat} (hn : isName X n = true) (hm : isName X m = true) (kn : ∀ c ∈ n, c ∈ ks) (km : ∀ c ∈ m, c ∈ ks) : fol ks X [] (n.reverse ++ m) = [] ↔ n = m := by
  constructor
  · intro e
    have z := fol_between cr hn hm kn km
    rw [e] at z
    exact z
  · intro e
    subst e
    have kw : ∀ c ∈ n.reverse ++ n, c ∈ ks := fun c h => (List.mem_append.mp h).elim (fun z => kn c (List.mem_reverse.mp z)) (kn c)
    refine mr_inj cr (fol_name cr (n.reverse ++ n) [] (fun c h => by cases h) kw rfl).1 rfl ?_
    rw [mr_fol0 cr]
    have z := mr_back (X := X) [] n.reverse
    rw [List.reverse_reverse, List.append_nil] at z
    exact z
end CW
end
section
/-! Ways between rooms: turned about, over a third room, their lengths; the doors that lead nearer. -/
namespace CW
variable {X : Nat → Nat → Bool} {ks : List Nat}
theorem in_app {a b : List Nat} (h1 : ∀ c ∈ a, c ∈ ks) (h2 : ∀ c ∈ b, c ∈ ks) : ∀ c ∈ a ++ b, c ∈ ks := fun c h => (List.mem_append.mp h).elim (h1 c) (h2 c)
theorem in_rev {a : List Nat} (h1 : ∀ c ∈ a, c ∈ ks) : ∀ c ∈ a.reverse, c ∈ ks := fun c h => h1 c (List.mem_reverse.mp h)
theorem fol_in (cr : Crossing X) {w : List Nat} (hw : ∀ c ∈ w, c ∈ ks) : ∀ c ∈ fol ks X [] w, c ∈ ks := (fol_name cr w [] (fun c h => by cases h) hw rfl).2
theorem fol_isName (cr : Crossing X) {w : List Nat} (hw : ∀ c ∈ w, c ∈ ks) : isName X (fol ks X [] w) = true := (fol_name cr w [] (fun c h => by cases h) hw rfl).1
/-- ways with the same vectors lead to the same room -/
theorem fol_eq (cr : Crossing X) {a b : List Nat} (ha : ∀ c ∈ a, c ∈ ks) (hb : ∀ c ∈ b, c ∈ ks) (h : mr X a = mr X b) : fol ks X [] a = fol ks X [] b := by
  refine mr_inj cr (fol_isName cr ha) (fol_isName cr hb) ?_
  rw [mr_fol0 cr, mr_fol0 cr]
  exact h
theorem mr_inv {n w : List Nat} (h : ∀ t, mr X (n ++ t) = mr X (w ++ t)) (t : List Nat) : mr X (n.reverse ++ t) = mr X (w.reverse ++ t) := by
  rw [← mr_app (mr_back (X := X) t w) n.reverse, ← mr_app (h (w.reverse ++ t)) n.reverse]
  have z := mr_back (X := X) (w.reverse ++ t) n.reverse
  rw [List.reverse_reverse] at z
  exact z
theorem mr_folT (cr : Crossing X) (w t : List Nat) : mr X (fol ks X [] w ++ t) = mr X (w ++ t) := mr_fol (ks := ks) cr w [] t
/-- the way between the ends of two ways -/
theorem fol_ends (cr : Crossing X) {u v : List Nat} (hu : ∀ c ∈ u, c ∈ ks) (hv : ∀ c ∈ v, c ∈ ks) : fol ks X [] ((fol ks X [] u).reverse ++ fol ks X [] v) = fol ks X [] (u.reverse ++ v) := by
  refine fol_eq cr (in_app (in_rev (fol_in cr hu)) (fol_in cr hv)) (in_app (in_rev hu) hv) ?_
  rw [mr_inv (mr_folT (ks := ks) cr u)]
  refine mr_app ?_ u.reverse
  have z := mr_folT (ks := ks) cr v []
  rw [List.append_nil, List.append_nil] at z
  exact z
theorem fol_rev (cr : Crossing X) {w : List Nat} (hw : ∀ c ∈ w, c ∈ ks) : fol ks X [] (fol ks X [] w).reverse = fol ks X [] w.reverse := by
  refine fol_eq cr (in_rev (fol_in cr hw)) (in_rev hw) ?_
  have z := mr_inv (mr_folT (ks := ks) cr w) []
  rw [List.append_nil, List.append_nil] at z
  exact z
theorem fol_len0 (w : List Nat) : (fol ks X [] w).length ≤ w.length := by
  have z := fol_length ks X w []
  rw [List.length_nil, Nat.zero_add] at z
  exact z
theorem fol_rev_len (cr : Crossing X) {w : List Nat} (hw : ∀ c ∈ w, c ∈ ks) : (fol ks X [] w.reverse).length = (fol ks X [] w).length := by
  have gen : ∀ {w : List Nat}, (∀ c ∈ w, c ∈ ks) → (fol ks X [] w.reverse).length ≤ (fol ks X [] w).length := by
    intro w hw
    rw [← fol_rev cr hw]
    have z := fol_len0 (X := X) (ks := ks) (fol ks X [] w).reverse
    rw [List.length_reverse] at z
    exact z
  have a := gen hw
  have b := gen (in_rev hw)
  rw [List.reverse_reverse] at b
  omega
theorem back_way (a b : List Nat) : (a.reverse ++ b).reverse = b.reverse ++ a := by rw [List.reverse_append, List.reverse_reverse]
/-- as far there as back -/
theorem dist_sym (cr : Crossing X) {n m : List Nat} (hn : ∀ c ∈ n, c ∈ ks) (hm : ∀ c ∈ m, c ∈ ks) : (fol ks X [] (m.reverse ++ n)).length = (fol ks X [] (n.reverse ++ m)).length := by
  have z := fol_rev_len cr (in_app (in_rev hn) hm)
  rw [back_way] at z
  exact z
/-- the way back -/
theorem way_back (cr : Crossing X) {n m : List Nat} (hn : ∀ c ∈ n, c ∈ ks) (hm : ∀ c ∈ m, c ∈ ks) : fol ks X [] (fol ks X [] (n.reverse ++ m)).reverse = fol ks X [] (m.reverse ++ n) := by
  rw [fol_rev cr (in_app (in_rev hn) hm), back_way]
/-- no way is longer than one over a third room -/
theorem dist_over (cr : Crossing X) {n m p : List Nat} (hn : ∀ c ∈ n, c ∈ ks) (hm : ∀ c ∈ m, c ∈ ks) (hp : ∀ c ∈ p, c ∈ ks) :
    (fol ks X [] (n.reverse ++ m)).length ≤ (fol ks X [] (n.reverse ++ p)).length + (fol ks X [] (p.reverse ++ m)).length := by
  have h1 := in_app (in_rev hn) hp
  have h2 := in_app (in_rev hp) hm
  have e : fol ks X [] (fol ks X [] (n.reverse ++ p) ++ fol ks X [] (p.reverse ++ m)) = fol ks X [] (n.reverse ++ m) := by
    refine fol_eq cr (in_app (fol_in cr h1) (fol_in cr h2)) (in_app (in_rev hn) hm) ?_
    rw [mr_folT cr]
    have z := mr_folT (ks := ks) cr (p.reverse ++ m) []
    rw [List.append_nil, List.append_nil] at z
    rw [mr_app z, List.append_assoc]
    exact mr_app (mr_back m p) n.reverse
  rw [← e]
  have z := fol_len0 (X := X) (ks := ks) (fol ks X [] (n.reverse ++ p) ++ fol ks X [] (p.reverse ++ m))
  rw [List.length_append] at z
  exact z
/-- does the door k lead nearer? -/
theorem rd_over {k : Nat} {rest : List Nat} (cr : Crossing X) : ∀ {tl : List Nat}, (∀ c ∈ tl, X k c = true) → rd X (tl ++ rest) k = rd X rest k
  | [], _ => rfl
  | c :: tl, h => by
    have hc := h c List.mem_cons_self
    show ((c == k) || (X c k && rd X (tl ++ rest) k)) = _
    rw [cr.sym c k, hc, rd_over cr fun d hd => h d (List.mem_cons_of_mem _ hd)]
    have ne : (c == k) = false := by
      rw [beq_eq_false_iff_ne]
      exact (cr.ne hc).symm
    rw [ne]
    simp
theorem beh_len (cr : Crossing X) {name : List Nat} {k : Nat} (hk : ∀ c ∈ name, c ∈ ks) : (beh ks X name k).length + (if rd X name.reverse k = true then 1 else 0) = name.length + (if rd X name.reverse k = true then 0 else 1) := by
  obtain ⟨tl, rest, e, h1, h2, h3⟩ := beh_cases ks X name k
  have el := congrArg List.length e
  rw [List.length_reverse, List.length_append] at el
  have er := rd_over (rest := rest) cr fun c hc => (h1 c hc).2
  rw [e, er]
  rcases h3 with ⟨r, er2, q⟩ | ⟨h4, er2, lr, et, h5, h6, q⟩
  · have z : rd X rest k = true := by
      rw [er2]
      exact first_rd
    rw [z, if_pos rfl, if_pos rfl, q, List.length_reverse, List.length_append]
    rw [er2, List.length_cons] at el
    omega
  · have z : rd X rest k = false := by
      cases hr : rest with
      | nil => rfl
      | cons c r =>
        have n1 := h2 c r hr
        have n2 : c ≠ k := fun w => h4 r (by rw [hr, w])
        have hc : c ∈ ks := hk c (List.mem_reverse.mp (by rw [e, hr]; simp))
        have n3 : X k c = false := by
          cases w : X k c with
          | false => rfl
          | true => exact absurd ⟨hc, w⟩ n1
        show ((c == k) || (X c k && rd X r k)) = false
        rw [cr.sym c k, n3]
        simpa using n2
    rw [z, q, List.length_reverse]
    rw [et] at el
    simp only [List.length_append, List.length_cons] at el ⊢
    simp
    omega
theorem fol_parity (cr : Crossing X) : ∀ (way name : List Nat), (∀ c ∈ name, c ∈ ks) → (∀ c ∈ way, c ∈ ks) → (fol ks X name way).length % 2 = (name.length + way.length) % 2
  | [], name, _, _ => rfl
  | k :: way, name, hn, hw => by
    have h1 := beh_len (k := k) cr hn
    have h2 := fol_parity cr way (beh ks X name k) (beh_letters hn (hw k List.mem_cons_self)) fun c hc => hw c (List.mem_cons_of_mem _ hc)
    show (fol ks X (beh ks X name k) way).length % 2 = _
    rw [h2, List.length_cons]
    revert h1
    split <;> omega
/-- the three lengths together are even -/
theorem len_even (cr : Crossing X) {n m : List Nat} (hn : ∀ c ∈ n, c ∈ ks) (hm : ∀ c ∈ m, c ∈ ks) : (n.length + m.length + (fol ks X [] (n.reverse ++ m)).length) % 2 = 0 := by
  have z := fol_parity cr (n.reverse ++ m) [] (fun c h => by cases h) (in_app (in_rev hn) hm)
  rw [List.length_append, List.length_reverse, List.length_nil] at z
  omega
theorem nf_red : ∀ {r : List Nat}, nf X r = true → red X r = true
  | [], _ => rfl
  | k :: r, h => by
    obtain ⟨h1, h2⟩ := nf_cons.mp h
    show (!rd X r k && red X r) = true
    rw [nf_red h2]
    cases e : rd X r k with
    | false => rfl
    | true =>
      obtain ⟨u, v, e2, hu⟩ := rd_split e
      rw [e2, bar_hitV u hu] at h1
      cases h1
/-- what is left behind the letters that cross k begins with k just if k can come to the front -/
theorem drop_rd (cr : Crossing X) {k : Nat} : ∀ {r : List Nat}, (∀ c ∈ r, c ∈ ks) → ((r.dropWhile fun c => (acr ks X k).contains c).head? == some k) = rd X r k
  | [], _ => rfl
  | o :: r, h => by
    rw [List.dropWhile_cons]
    have ho := h o List.mem_cons_self
    show _ = ((o == k) || (X o k && rd X r k))
    cases x : X k o with
    | true =>
      rw [if_pos (mem_acr.mpr ⟨ho, x⟩), drop_rd cr fun c hc => h c (List.mem_cons_of_mem _ hc), cr.sym o k, x]
      have ne : (o == k) = false := by
        rw [beq_eq_false_iff_ne]
        exact (cr.ne x).symm
      rw [ne]
      simp
    | false =>
      have n : ¬ (acr ks X k).contains o = true := fun z => by
        have := (mem_acr.mp z).2
        rw [x] at this
        cases this
      rw [if_neg n, cr.sym o k, x]
      simp
/-- two letters that can both come to the front cross -/
theorem rd_cross (cr : Crossing X) {a b : Nat} (ne : a ≠ b) : ∀ {r : List Nat}, rd X r a = true → rd X r b = true → X a b = true
  | [], h, _ => by cases h
  | o :: r, h1, h2 => by
    have q1 : ((o == a) || (X o a && rd X r a)) = true := h1
    have q2 : ((o == b) || (X o b && rd X r b)) = true := h2
    rw [Bool.or_eq_true, Bool.and_eq_true, beq_iff_eq] at q1 q2
    rcases q1 with e1 | ⟨x1, r1⟩
    · rcases q2 with e2 | ⟨x2, r2⟩
      · exact absurd (e1.symm.trans e2) ne
      · rw [← e1]; exact x2
    · rcases q2 with e2 | ⟨x2, r2⟩
      · rw [← e2, cr.sym]; exact x1
      · exact rd_cross cr ne r1 r2
/-- the vectors of a way told backwards, and of its name -/
theorem mr_revs (cr : Crossing X) (w : List Nat) : mr X w.reverse = mr X (fol ks X [] w).reverse := by
  have z := mr_inv (mr_folT (ks := ks) cr w) []
  rw [List.append_nil, List.append_nil] at z
  exact z.symm
end CW
end
section
set_option maxRecDepth 100000
set_option maxHeartbeats 4000000
/-! a room's length, its door's room -/
namespace TX
open PySem PySem.Spec PyProof.Rows L2 SX CW
def spChkKind (C : Addr) : Sp := fun vs H Q _ => ∃ (p : Addr) (ks : List Nat) (X : Nat → Nat → Bool) (k : Nat), vs = [.ref p, .str (S [k])] ∧ PlanAt C H p ks X ∧ k ∈ ks ∧ Q .non H
def spLen (C CR : Addr) : Sp := fun vs H Q _ => ∃ (a p : Addr) (ks : List Nat) (X : Nat → Nat → Bool) (n : List Nat), vs = [.ref a] ∧ RoomAt C CR H a p ks X n ∧ n.length ≤ 2000 ∧ Q (.int (n.length : Int)) H
def spGet (C CR : Addr) : Sp := fun vs H Q _ => ∃ (a p : Addr) (ks : List Nat) (X : Nat → Nat → Bool) (n : List Nat) (k : Nat), vs = [.ref a, .str (S [k])] ∧ RoomAt C CR H a p ks X n ∧ k ∈ ks ∧ n.length ≤ 1999 ∧
  ∀ (r : Addr) (H' : Hp), RoomAt C CR H' r p ks X (beh ks X n k) → L2.Same H H' → Q (.ref r) H'
section
variable {P : Program} {w : World} {K : PySem.W.Frag} {mg : Str → Option Value} {base : Heap} {C CR : Addr}
theorem sc_chkkind : FnScope ["plan", "value"] ["plan", "value"] (defScope s_check_kind) := ⟨rfl, rfl, rfl, by decide +kernel, rfl, by decide +kernel, by decide +kernel⟩
theorem ok_chkkind (F : D K mg "check_kind" s_check_kind []) (T : PlanT K C) (zi : mg "isinstance" = none) (zs : mg "str" = none) (zl : mg "len" = none) : C8.Cal P w K mg base 1 "check_kind" (spChkKind C) [] := by
  refine F.cal (ps := ["plan", "value"]) sc_chkkind (fun f fd F => F.bindsN fun _ _ _ _ _ _ us hl => match us, hl with | [_, _], _ => rfl) (fun vs H Q E h => ?_) (fun f cdv A outer s H vs Q E hr h => ?_)
  · obtain ⟨p, ks, X, k, rfl, _⟩ := h
    rfl
  · obtain ⟨p, ks, X, k, rfl, hp, hk, q⟩ := h
    obtain ⟨dx, tp, da, dl, h1, h2, h3, h4⟩ := hp.ex
    refine ⟨_, pss_one (ps_if (PW.pt (pw_or (pt_not (pt_val (pe_callB call_isi (by rfl) zi PyProof.Rows.boot_isinstance (pa_cons (pv 1) (pa_cons (pe_bltn (v := .ty "str") (by rfl) zs (by decide +kernel) rfl) pa_nil)))))
      (pw_or (pt_cmpR op_ne (pe_callB call_len_str (by rfl) zl PySem.boot_len (pa_cons (pv 1) pa_nil)) pe_int (nomark _)) (pw_or1 (pt_cmpR op_notIn_sign (pv 1) (pe_fld (pv 0) rfl) (by rfl)))))) (pss_one ps_never) pss_nil), ?_⟩
    refine ⟨_, rfl, _, _, .type "str", .type "str", true, rfl, .ty _, .base (.str _), kit_ty (by decide +kernel), _, rfl, iteF ?_⟩
    refine ⟨_, rfl, _, rfl, by rw [S_len]; exact len_line (by simp), rfl, _, rfl, ?_⟩
    rw [S_len]
    refine iteF ?_
    refine ⟨_, rfl, _, rfl, p, C, dx, _, _, rfl, h1, T.cl, T.nk, pf_kinds _ _ _ _, ?_⟩
    refine ⟨k, S ks, rfl, rfl, ?_⟩
    rw [mem_S, List.contains_iff_mem.mpr hk]
    exact ⟨_, rfl, iteF q⟩
end
end TX
end
section
set_option maxRecDepth 100000
set_option maxHeartbeats 4000000
/-! Plan.ring, Plan.crosses refused; a staticmethod called by its class -/
namespace TX
open PySem PySem.Spec PyProof.Rows L2 SX CW
/-! ### C.m(..), m a staticmethod -/
structure CSt (K : PySem.W.Frag) (C : Addr) (mc : Value) (m : Str) (p g : Addr) : Prop where
  rd : ClX.CRead K C mc
  at_ : PySem.W.findCls K (.ref C) mc m = some (.get (.builtin "staticmethod.__get__") (.ref p) .none (.ref C))
  rc : ∃ rest, PySem.W.recIn K p "staticmethod" = some (.ref g :: rest)
  kp : PySem.W.keepIn K (.ref g) = true
def tCSt (C : Addr) (sp : Sp) (E : XK) (ta : TE) (t : TA) : TE := fun σ H Q => ta σ H fun x H1 => x = .ref C ∧ t σ H1 fun vs H2 => sp vs H2 Q E
section
variable {X : Cx} {CX : CXT} {k : Nat} {C p g : Addr} {mc : Value} {sp : Sp} {E : XK} {o e : Expr} {es : List Expr} {m : Str} {pos apos : Pos} {ta : TE} {t : TA} {pl : Sem Bool} {fd : FuncData} {ps : List Str}
theorem pe_cst (he : PE X o ta) (c : CSt X.K C mc m p g) (F : FnOk X.prog X.w X.K X.mg X.base CX k g fd ps sp) (hb : L2.Binds X.K fd ps []) (hr : L2.Room k X.A) (hx : Passes CX X E) (ha : PA X (e :: es) t)
    (hst : starEach (e :: es) X.env = (false, eval e X.env) :: starEach es X.env := by rfl) (hpl : (backTo pos (starEach es X.env)).any (·.1) = false := by rfl)
    (ht : eval (.Call (.Attribute o m apos) (e :: es) [] pos) X.env = (do
      let ov ← eval o X.env
      standAt apos.atName
      let (f, first) ← holding [ov] (getMethod ov m pl)
      callWith pos f first (backTo pos (starEach (e :: es) X.env)) (backToKw pos (keywordEach [] X.env))) := by rfl) :
    PE X (.Call (.Attribute o m apos) (e :: es) [] pos) (tCSt C sp E ta t) := by
  refine ⟨fun pins s σ H Q I h => PySem.W.methodCall_KW (pl := pl) (thn (he.run pins s σ H _ I h) fun u s1 ⟨x, H1, I1, rx, ex, q⟩ => ?_) ht⟩
  subst ex
  have eu : u = Value.ref C := rx
  subst eu
  obtain ⟨rest, hp⟩ := c.rc
  refine PySem.W.method_cls I1.kIn c.rd.ga (PySem.W.cls_bind I1.kIn c.rd.rd c.at_ (wpAny_call (PySem.W.sm_get (s := { s1 with toks := s1.toks + 1 }) I1.kIn hp (PySem.W.handed_on rfl ?_))))
  have I2 : L2.Inv X pins σ H1 { s1 with toks := s1.toks + 1 } := I1.tok _
  refine PySem.W.callWith_K (h₀ := X.base) I2.ok.mod.kin c.kp (thn (ha.run pos pins _ σ H1 _ I2 q) fun us s3 ⟨vs, H3, I3, r, q3⟩ => ⟨I3.kIn, ?_⟩) hst hpl
  exact run_fn F hr hb .nil hx I3 r (by rw [List.append_nil]; exact q3)
end
theorem walk_zipS {x y : Str} : L2.Walk (ItS x y) (min x.cps.size y.cps.size) (fun _ => True) (fun i H v H' => ∃ (T : Addr) (c e : Nat), v = .ref T ∧ H T = none ∧ H' = upd H T (.tup [.str ⟨#[c]⟩, .str ⟨#[e]⟩]) ∧ x.cps[i]? = some c ∧ y.cps[i]? = some e) :=
  ⟨fun i H hi _ => ⟨by omega, by omega⟩, fun H _ => by
    show (_ ∧ _) ∨ (_ ∧ _)
    rcases Nat.le_total x.cps.size y.cps.size with h | h
    · exact .inl ⟨Nat.min_eq_left h, by omega⟩
    · exact .inr ⟨Nat.min_eq_right h, by omega⟩, fun i H v H' _ _ q => q⟩
/-! ### Plan.ring -/
def foll (l : List Nat) : List Nat := l.drop 1 ++ l.take 1
def rgE (l : List Nat) : List Str := (l.zip (foll l)).map fun p => S [p.1, p.2]
theorem foll_len (l : List Nat) : (foll l).length = l.length := by
  unfold foll
  rw [List.length_append, List.length_drop, List.length_take]
  omega
theorem foll_at {l : List Nat} {i : Nat} (hi : i < l.length) : (foll l)[i]? = if i + 1 < l.length then l[i + 1]? else l[0]? := by
  unfold foll
  by_cases h : i + 1 < l.length
  · rw [if_pos h, List.getElem?_append_left (by rw [List.length_drop]; omega), List.getElem?_drop, Nat.add_comm]
  · rw [if_neg h, List.getElem?_append_right (by rw [List.length_drop]; omega), List.length_drop, List.getElem?_take, if_pos (by omega)]
    congr 1
    omega
theorem rg_pair {l : List Nat} (nd : l.Nodup) (l2 : 2 ≤ l.length) : ∀ e ∈ rgE l, ∃ z, e = S z ∧ pairB l z = true := fun e he => by
  unfold rgE at he
  obtain ⟨⟨a, b⟩, hp, rfl⟩ := List.mem_map.mp he
  obtain ⟨i, hi⟩ := List.getElem?_of_mem hp
  rw [List.getElem?_zip_eq_some] at hi
  obtain ⟨ha, hb⟩ := hi
  have li := (List.getElem?_eq_some_iff.mp ha).1
  rw [foll_at li] at hb
  have inj : ∀ {j k x : Nat}, l[j]? = some x → l[k]? = some x → j = k := fun {j k x} h1 h2 => idx_inj nd h1 h2
  have ain := List.mem_of_getElem? ha
  have key : b ∈ l ∧ a ≠ b := by
    split at hb
    · exact ⟨List.mem_of_getElem? hb, fun e => by rw [← e] at hb; have := inj ha hb; omega⟩
    · exact ⟨List.mem_of_getElem? hb, fun e => by rw [← e] at hb; have := inj ha hb; omega⟩
  refine ⟨[a, b], rfl, ?_⟩
  show (a != b && (l.contains a && l.contains b)) = true
  rw [List.contains_iff_mem.mpr ain, List.contains_iff_mem.mpr key.1, bne_iff_ne.mpr key.2]
  rfl
def spRingE (K : PySem.W.Frag) (IP TM : Addr) : Sp := fun vs H Q E => ∃ y : V, vs = [y] ∧
  (((NoLet K H y ∨ ∃ l : List Nat, y = .str (S l) ∧ letB l = true ∧ l.length < 4) ∧ ∀ d H', H' d = some (.xd [("value", y)]) → L2.Same H H' → E (.ref IP) (some d) H') ∨
   (∃ l : List Nat, y = .str (S l) ∧ letB l = true ∧ 8 < l.length ∧ l.length ≤ 26 ∧ ∀ d H', H' d = some (.xd [("most", .int 8)]) → L2.Same H H' → E (.ref TM) (some d) H'))
abbrev nRg : List Str := ["kinds", "following", "one", "after"]
theorem sc_ring : FnScope nRg ["kinds"] (defScope s_Plan_ring) := ⟨rfl, rfl, rfl, by decide +kernel, rfl, by decide +kernel, by decide +kernel⟩
section
variable {P : Program} {w : World} {K : PySem.W.Frag} {mg : Str → Option Value} {base : Heap} {C IP TM SK IK : Addr}
theorem ok_ring {f : Addr} {fd : FuncData} (F : FunD K "ring" "Plan.ring" (defArgs s_Plan_ring) (defBody s_Plan_ring) (defScope s_Plan_ring) [] [] f fd) (zl : mg "len" = none) (zz : mg "zip" = none) (gR : ∃ t, mg "LEAST_RING" = some (.int 4 t))
    (cL : C8.Cal P w K mg base 1 "are_letters" (spLetG K) []) (EI : ErrC P w K mg base "InvalidPlan" "value" IP) (M : MkPl P w K mg base C IP TM) : FnOk P w K mg base (L2N.CX P w) 5 f fd ["kinds"] (spRingE K IP TM) := by
  obtain ⟨fm, fdm, mM, mF, mB⟩ := M.ex
  have gP := M.g
  obtain ⟨tR, gR⟩ := gR
  refine F.ok sc_ring (fun vs H Q E h => ?_) (fun cdv A outer s H vs Q E hr h => ?_)
  · obtain ⟨y, rfl, _⟩ := h
    rfl
  · obtain ⟨y, rfl, h⟩ := h
    refine ⟨_, pss_cons (ps_if (PW.pt (pw_or (pt_not (pt_val (C8.pe_c cL hr (by decide) (by rfl) (pa_cons (pv 0) pa_nil)))) (pw_or1 (pt_cmpR op_lt (pe_callB call_len_str (by rfl) zl PySem.boot_len (pa_cons (pv 0) pa_nil)) (C8.pe_gc (v := .int 4) (by rfl) ⟨_, gR, ⟨tR, rfl⟩⟩) (nomark _)))))
        (pss_one (L2N.ps_raise rfl (L2N.takes_of rfl rfl rfl rfl) (pmk_err1 EI hr (by decide) (by rfl) (pv 0)))) pss_nil)
      (pss_cons (ps_set (i := 1) sc_ring.nd rfl (.inl rfl) (pe_op op_add_str (pe_slice sl_str (pv 0) (po_some pe_int) po_none) (pe_slice sl_str (pv 0) po_none (po_some pe_int))))
      (pss_one (ps_ret (pe_make mM mF (hr.mono (by decide)) (by rfl) gP mB .nil (L2N.passes_call (L2N.takes_of rfl rfl rfl rfl) fun _ _ _ _ h => h) (pa_cons (pv 0) (pa_cons
        (pe_lc (own := [("one", 2), ("after", 3)]) (g := gTup K 2 (gCons (gName 2) (gCons (gName 3) gNil))) (te := tOp (fun x y H Q => ∃ i j, x = V.str i ∧ y = V.str j ∧ i.length + j.length ≤ PySem.sizeLine ∧ Q (V.str (i ++ j)) H) (tVar 2) (tVar 3)) rfl sc_ring.nd (pi_zipS rfl zz (pa_cons (pv 0) (pa_cons (pv 1) pa_nil))) (blkOk_by (own := [("one", 2), ("after", 3)]) (N := nRg) (sc := defScope s_Plan_ring) (by decide +kernel))
          (fun _ _ _ _ _ => by exact pg_tup (by rfl) (pgs_cons (pg_name (i := 2) sc_ring.nd rfl (.inl rfl)) (pgs_cons (pg_name (i := 3) sc_ring.nd rfl (.inl rfl)) pgs_nil))) (fun _ _ _ _ _ => pts_nil) (fun _ _ _ _ _ => by exact pe_op op_add_str (pv 2) (pv 3))) pa_nil)))))), ?_⟩
    rcases h with ⟨nl, q⟩ | ⟨l, rfl, lt, g8, l26, q⟩
    · rcases nl with (⟨t, ty, kt⟩ | ⟨l, rfl, ll, lf⟩) | ⟨l, rfl, lt, l4⟩
      · exact ⟨_, rfl, _, rfl, .inl ⟨t, ty, kt, _, rfl, iteT ⟨_, rfl, err1 q⟩⟩⟩
      · refine ⟨_, rfl, _, rfl, .inr ⟨l, rfl, ll, fun H1 s1 => ⟨_, rfl, ?_⟩⟩⟩
        rw [lf]
        exact iteT ⟨_, rfl, err1 fun d H' g s => q d H' g (s1.trans s)⟩
      · refine ⟨_, rfl, _, rfl, .inr ⟨l, rfl, by omega, fun H1 s1 => ⟨_, rfl, ?_⟩⟩⟩
        rw [lt]
        refine iteF ?_
        refine ⟨_, rfl, _, rfl, (by rw [S_len]; exact len_line (by omega)), _, _, rfl, rfl, _, rfl, ?_⟩
        rw [S_len, decide_eq_true (by omega : (l.length : Int) < 4)]
        exact iteT ⟨_, rfl, err1 fun d H' g s => q d H' g (s1.trans s)⟩
    · have lS : (S l).length ≤ sizeLine := by rw [S_len]; exact len_line (by omega)
      obtain ⟨nd, abc⟩ := let_of lt
      refine ⟨_, rfl, _, rfl, .inr ⟨l, rfl, by omega, fun H1 s1 => ⟨_, rfl, ?_⟩⟩⟩
      rw [lt]
      refine iteF ?_
      refine ⟨_, rfl, _, rfl, lS, _, _, rfl, rfl, _, rfl, ?_⟩
      rw [S_len, decide_eq_false (by omega : ¬ (l.length : Int) < 4)]
      refine iteF ?_
      refine ⟨_, rfl, _, rfl, _, rfl, lS, ?_⟩
      rw [show cutS (S l) (some 1) none = S (l.drop 1) from S_cutFrom l 1]
      refine ⟨_, rfl, _, rfl, _, rfl, lS, ?_⟩
      rw [show cutS (S l) none (some 1) = S (l.take 1) from S_cutTo l 1]
      refine ⟨_, _, rfl, rfl, (by rw [S_len, S_len, List.length_drop, List.length_take]; exact len_line (by omega)), ?_⟩
      rw [S_cat, show l.drop 1 ++ l.take 1 = foll l from rfl]
      refine ⟨_, rfl, _, rfl, _, rfl, S l, S (foll l), rfl, fun D hD => ?_⟩
      refine lc_it walk_zipS (fun i G => G D = some (.lst (((rgE l).take i).map V.str)) ∧ L2.Same H1 G) ⟨upd_same, same_new hD⟩ (fun _ _ _ _ => trivial) ?_ ?_
      · rintro i v G G2 hi ⟨gD, sm⟩ ⟨Tp, c, e, rfl, hT, rfl, hc, he⟩
        have hc' := getS hc
        have he' := getS he
        have st := same_new (o := .tup [V.str ⟨#[c]⟩, V.str ⟨#[e]⟩]) hT
        have gT : (upd G Tp (.tup [V.str ⟨#[c]⟩, V.str ⟨#[e]⟩])) Tp = some (.tup [V.str ⟨#[c]⟩, V.str ⟨#[e]⟩]) := upd_same
        generalize (upd G Tp (.tup [V.str ⟨#[c]⟩, V.str ⟨#[e]⟩])) = G2 at st gT ⊢
        have ez : (rgE l)[i]? = some (S [c, e]) := by
          unfold rgE
          rw [List.getElem?_map, show (l.zip (foll l))[i]? = some (c, e) from List.getElem?_zip_eq_some.mpr ⟨hc', he'⟩]
          rfl
        refine ⟨Tp, _, rfl, SqT.of gT, rfl, _, _, rfl, _, _, rfl, rfl, rfl, _, rfl, _, rfl, _, _, rfl, rfl, (by show 1 + 1 ≤ sizeLine; exact len_line (by decide)), ?_⟩
        have ec : (⟨#[c]⟩ : Str) ++ ⟨#[e]⟩ = S [c, e] := S_cat [c] [e]
        rw [ec]
        refine ⟨_, st _ _ gD, (by rw [List.length_map, List.length_take]; unfold rgE; rw [List.length_map, List.length_zip, foll_len]; exact len_lt (by omega)), ?_, fun b o e1 => by rw [upd_ne (ne_of_none e1 hD)]; exact st _ _ (sm _ _ e1)⟩
        rw [upd_same, take_one ez, List.map_append]
        rfl
      · rintro G ⟨gD, sm⟩
        have rl : (rgE l).length = l.length := by unfold rgE; rw [List.length_map, List.length_zip, foll_len, Nat.min_self]
        rw [show min (S l).cps.size (S (foll l)).cps.size = (rgE l).length from by rw [sizeS, sizeS, foll_len, Nat.min_self, rl], List.take_length] at gD
        intro x dx hx hdx nd2
        have s2 : L2.Same G (upd (upd G dx (.own x)) x (.ins C dx [])) := fun b o e => by
          rw [upd_ne (ne_of_none e hx), upd_ne (ne_of_none e hdx)]
          exact e
        refine .inr ⟨x, dx, D, _, rfl, upd_same, .inr ⟨l, _, rfl, by omega, lt, .inl (SqL.of (s2 _ _ gD)), .inr ⟨fun y hy => ?_, g8, fun d H' g s => q d H' g (s1.trans (sm.trans (s2.trans s)))⟩⟩⟩
        obtain ⟨e, he, rfl⟩ := List.mem_map.mp hy
        obtain ⟨z, rfl, p⟩ := rg_pair nd (by omega) e he
        obtain ⟨a, b, rfl, _⟩ := pair_of p
        exact ⟨[a, b], rfl, by simp, p⟩
end
end TX
end
section
set_option maxRecDepth 100000
set_option maxHeartbeats 4000000
/-! kinds refused, crosses with them -/
namespace TX
open PySem PySem.Spec PyProof.Rows L2 SX CW
/-- how a value is refused as a kind -/
def KindBad (K : PySem.W.Frag) (IK : Addr) (ks : List Nat) (y : V) (H : Hp) (E : XK) : Prop :=
  ((∃ t, TyX K H y t ∧ PySem.W.kitOne K t (.type "str") = some false) ∨ ∃ l : List Nat, y = .str (S l) ∧ l.length ≤ 90000 ∧ ∀ c ∈ ks, l ≠ [c]) ∧ ∀ d H', H' d = some (.xd [("value", y)]) → L2.Same H H' → E (.ref IK) (some d) H'
def spChkKindE (K : PySem.W.Frag) (C IK : Addr) : Sp := fun vs H Q E => ∃ (p : Addr) (ks : List Nat) (X : Nat → Nat → Bool) (y : V), vs = [.ref p, y] ∧ PlanAt C H p ks X ∧ ((∃ k, y = .str (S [k]) ∧ k ∈ ks ∧ Q .non H) ∨ KindBad K IK ks y H E)
section
variable {P : Program} {w : World} {K : PySem.W.Frag} {mg : Str → Option Value} {base : Heap} {C IK : Addr}
theorem ok_chkkindE (F : D K mg "check_kind" s_check_kind []) (T : PlanT K C) (zi : mg "isinstance" = none) (zs : mg "str" = none) (zl : mg "len" = none) (EI : ErrC P w K mg base "InvalidKind" "value" IK) : CalN P w K mg base 3 "check_kind" (spChkKindE K C IK) := by
  refine F.calN (ps := ["plan", "value"]) sc_chkkind (fun f fd F => F.bindsN fun _ _ _ _ _ _ us hl => match us, hl with | [_, _], _ => rfl) (fun vs H Q E h => ?_) (fun f cdv A outer s H vs Q E hr h => ?_)
  · obtain ⟨p, ks, X, y, rfl, _⟩ := h
    rfl
  · obtain ⟨p, ks, X, y, rfl, hp, h⟩ := h
    obtain ⟨dx, tp, da, dl, h1, h2, h3, h4⟩ := hp.ex
    refine ⟨_, pss_one (ps_if (PW.pt (pw_or (pt_not (pt_val (pe_callB call_isi (by rfl) zi PyProof.Rows.boot_isinstance (pa_cons (pv 1) (pa_cons (pe_bltn (v := .ty "str") (by rfl) zs (by decide +kernel) rfl) pa_nil)))))
      (pw_or (pt_cmpR op_ne (pe_callB call_len_str (by rfl) zl PySem.boot_len (pa_cons (pv 1) pa_nil)) pe_int (nomark _)) (pw_or1 (pt_cmpR op_notIn_sign (pv 1) (pe_fld (pv 0) rfl) (by rfl)))))) (pss_one (L2N.ps_raise rfl (L2N.takes_of rfl rfl rfl rfl) (pmk_err1 EI hr (by decide) (by rfl) (pv 1)))) pss_nil), ?_⟩
    rcases h with ⟨k, rfl, hk, q⟩ | ⟨⟨t, ty, kt⟩ | ⟨l, rfl, ll, hl⟩, q⟩
    · refine ⟨_, rfl, _, _, .type "str", .type "str", true, rfl, .ty _, .base (.str _), kit_ty (by decide +kernel), _, rfl, iteF ?_⟩
      refine ⟨_, rfl, _, rfl, by rw [S_len]; exact len_line (by simp), rfl, _, rfl, ?_⟩
      rw [S_len]
      refine iteF ?_
      refine ⟨_, rfl, _, rfl, p, C, dx, _, _, rfl, h1, T.cl, T.nk, pf_kinds _ _ _ _, ?_⟩
      refine ⟨k, S ks, rfl, rfl, ?_⟩
      rw [mem_S, List.contains_iff_mem.mpr hk]
      exact ⟨_, rfl, iteF q⟩
    · refine ⟨_, rfl, _, _, t, .type "str", false, rfl, .ty _, ty, kt, _, rfl, iteT ?_⟩
      exact ⟨_, rfl, err1 q⟩
    · refine ⟨_, rfl, _, _, .type "str", .type "str", true, rfl, .ty _, .base (.str _), kit_ty (by decide +kernel), _, rfl, iteF ?_⟩
      refine ⟨_, rfl, _, rfl, by rw [S_len]; exact len_line (by omega), rfl, _, rfl, ?_⟩
      rw [S_len]
      match l, hl with
      | [c], hl =>
        refine iteF ?_
        refine ⟨_, rfl, _, rfl, p, C, dx, _, _, rfl, h1, T.cl, T.nk, pf_kinds _ _ _ _, ?_⟩
        refine ⟨c, S ks, rfl, rfl, ?_⟩
        have nc : ks.contains c = false := by
          cases e : ks.contains c with
          | false => rfl
          | true => exact absurd rfl (hl c (List.contains_iff_mem.mp e))
        rw [mem_S, nc]
        refine ⟨_, rfl, iteT ?_⟩
        exact ⟨_, rfl, err1 q⟩
      | [], hl =>
        refine iteT ?_
        exact ⟨_, rfl, err1 q⟩
      | a :: b :: r, hl =>
        rw [show (!decide (V.int (((a :: b :: r).length : Nat) : Int) = V.int 1)) = true from by
          have z : ¬ (V.int (((a :: b :: r).length : Nat) : Int) = V.int 1) := fun e => by
            have e2 := V.int.inj e
            simp only [List.length_cons] at e2
            omega
          rw [decide_eq_false z]
          rfl]
        refine iteT ?_
        exact ⟨_, rfl, err1 q⟩
/-- Plan.crosses, refused -/
def spCrosE (K : PySem.W.Frag) (C IK : Addr) : Sp := fun vs H Q E => ∃ (p : Addr) (ks : List Nat) (X : Nat → Nat → Bool) (x y : V), vs = [.ref p, x, y] ∧ PlanAt C H p ks X ∧ (KindBad K IK ks x H E ∨ ∃ k, x = .str (S [k]) ∧ k ∈ ks ∧ KindBad K IK ks y H E)
theorem sc_cros : FnScope ["self", "a", "b"] ["self", "a", "b"] (defScope s_Plan_crosses) := ⟨rfl, rfl, rfl, by decide +kernel, rfl, by decide +kernel, by decide +kernel⟩
theorem ok_crosE {f : Addr} {fd : FuncData} (F : FunD K "crosses" "Plan.crosses" (defArgs s_Plan_crosses) (defBody s_Plan_crosses) (defScope s_Plan_crosses) [] [] f fd) (cK : CalN P w K mg base 3 "check_kind" (spChkKindE K C IK)) : FnOk P w K mg base (L2N.CX P w) 4 f fd ["self", "a", "b"] (spCrosE K C IK) := by
  refine F.ok sc_cros (fun vs H Q E h => ?_) (fun cdv A outer s H vs Q E hr h => ?_)
  · obtain ⟨p, ks, X, x, y, rfl, _⟩ := h
    rfl
  · obtain ⟨p, ks, X, x, y, rfl, pl, h⟩ := h
    refine ⟨_, pss_cons (ps_expr (pe_cN cK hr (by decide) (by rfl) (L2N.takes_of rfl rfl rfl rfl) (pa_cons (pv 0) (pa_cons (pv 1) pa_nil))))
      (pss_cons (ps_expr (pe_cN cK hr (by decide) (by rfl) (L2N.takes_of rfl rfl rfl rfl) (pa_cons (pv 0) (pa_cons (pv 2) pa_nil)))) (pss_one ps_never)), ?_⟩
    refine ⟨_, rfl, _, rfl, p, ks, X, x, rfl, pl, ?_⟩
    rcases h with h | ⟨k, rfl, hk, h⟩
    · exact .inr h
    · exact .inl ⟨k, rfl, hk, _, rfl, _, rfl, p, ks, X, y, rfl, pl, .inr h⟩
end
end TX
end
section
set_option maxRecDepth 100000
set_option maxHeartbeats 4000000
/-! a lambda without parameters, handed to a def, which may raise; of its errors it is told that their context is None -/
namespace TX
open PySem PySem.Spec PyProof.Rows L2 LamX
/-- the context of the lambda's body, with what is told of errors -/
abbrev lamN (X : Cx) (A : Around) (outer : List Env) (s : Shared) (H : Hp) (E : XK) (sc : Scope) (f c : Addr) : Cx :=
  (lamCx X A outer s H E sc f c).wish fun e s1 => wpAny (model X.prog X.w) (A.deeper (lamEnv X sc s.heap.objs.size f c)) (leaving (lamEnv X sc s.heap.objs.size f c) e)
    (fun _ s2 => L2N.CX X.prog X.w outer H s E e s2) (fun e2 s2 => L2N.CX X.prog X.w outer H s E e2 s2) s1
section
variable {X : Cx} {pins : List (Addr × Obj)} {σ : L2.St} {H : Hp} {s : Shared}
/-- the parameter called, in the def that got the lambda -/
theorem pe_actN {CZ : CXT} {EZ : XK} {NZ : List Str} {qZ : Str} {sZ : Scope} {g f c : Addr} {cd pm ct : Value} {pa : Arguments} {bo : Expr} {sc : Scope} {k i : Nat} {a : Str} {pn : List (Addr × Obj)} {xe : Value → Shared → Prop} {W : WX} {E : XK} {tb : TE} {p1 p2 : Pos}
    (I : L2.Inv X pins σ H s) (L : LamS X.env.scope sc) (hf : s.heap.get? f = some (PySem.W.kla_obj "<lambda>" (X.env.qual ++ "<lambda>") pa bo sc (cloFrom X.env.cells sc.names []) pm c ct)) (nf : H f = none) (nr : f ∉ frs X.stack)
    (bind : bindArgs (PySem.W.kla_fn "<lambda>" (X.env.qual ++ "<lambda>") pa bo sc (cloFrom X.env.cells sc.names []) pm (.ref c) ct) ⟨[], []⟩ = pure [])
    (tk : L2N.Takes ((cxOf CZ X.prog X.w X.K X.mg X.base NZ qZ sZ g cd X.A X.stack s H EZ).tr pn xe) W) (hr : L2.Room (k + 1) (X.A.deeper (envOfC qZ sZ s.heap.objs.size g cd)))
    (body : ∀ (A : Around) (outer : List Env) (s : Shared) (H : Hp), L2.Room k (A.deeper (lamEnv X sc s.heap.objs.size f c)) → PE (lamN X A outer s H E sc f c) bo tb)
    (hN : NZ[i]? = some a) (hv : Vis sZ a) (d1 : (a == ("__debug__" : Str)) = false) (d2 : (a == ("__classdict__" : Str)) = false) :
    PE ((cxOf CZ X.prog X.w X.K X.mg X.base NZ qZ sZ g cd X.A X.stack s H EZ).tr pn xe) (.Call (.Name a p1) [] [] p2)
      (fun τ G Q => (∀ cls d G1, E cls d G1 → W cls d τ G1) ∧ τ[i]? = some (some (.ref f)) ∧ G c = some (CodeO c (X.env.qual ++ "<lambda>")) ∧ tb σ G Q) := by
  refine ⟨fun pins2 s2 τ G Q I2 ⟨hW, h1, h2, h3⟩ => wpAny_Call_Name_kw (thn ((pe_var (pos := p1) (i := i) hN hv d1 d2).run pins2 s2 τ G (fun v G1 => v = .ref f ∧ G1 = G) I2 ⟨.ref f, h1, rfl, rfl⟩) fun u s3 ⟨v, G1, I3, r3, ev, eG⟩ => ?_)⟩
  rw [ev] at r3
  rw [eG] at I3
  have eu : u = Value.ref f := r3
  rw [eu]
  have at3 : s3.heap.get? f = some (PySem.W.kla_obj "<lambda>" (X.env.qual ++ "<lambda>") pa bo sc (cloFrom X.env.cells sc.names []) pm c ct) := I3.base.keep f _ hf nf nr fun z => nomatch (show f ∈ ([] : List Addr) from z)
  refine PySem.W.callWith_F0 ⟨_, _, _, _, at3⟩ ?_
  have un : Un (frs X.stack) [] H G s.heap s3.heap := I3.base
  obtain ⟨⟨oc, vs, t, c1, c2, c3⟩, _, _⟩ := I3.hok c _ h2
  have run : codeAny (model X.prog X.w) (X.A.deeper (envOfC qZ sZ s.heap.objs.size g cd)) (.call (.ref f) ⟨[], []⟩) (CR (L2N.CX X.prog X.w) (envOfC qZ sZ s.heap.objs.size g cd :: X.stack) X.prog X.w G s3 Q E) s3 := by
    refine PySem.W.kla_callFunE hr.depth at3 rfl L.co L.gen rfl ⟨c, oc, vs, t, rfl, c1, c2, c3⟩ ?_
    rw [bind]
    refine wpAny_pure (wpAny_newFunctionEnv (fun y hy => (L.own y hy).2) (fun y hy => absurd hy (by simp)) (fun h₁ ns sb => ⟨I3.nolimit.fresh _ sb, ?_⟩) L.kind)
    have kp : ∀ b o, s3.heap.get? b = some o → h₁.get? b = some o := fun b o e => sb.extBut b o (Nat.ne_of_lt (Heap.lt_size e)) (Heap.get?_push_of_some _ e)
    have J := lam_start2 (A := X.A.deeper (envOfC qZ sZ s.heap.objs.size g cd)) (outer := envOfC qZ sZ s.heap.objs.size g cd :: X.stack) (E := E) (f := f) (c' := c) (tk := s3.toks + ([] : List (Str × Value)).length) I L I3.env0 hr.hd un ns kp
    refine PySem.W.kla_codeExpr (wpAny_mono ((body _ _ s3 G (hr.deeper _)).run [] _ _ G Q (J.wish _) h3) (fun v s4 q => ?_) fun e s4 q => q)
    obtain ⟨w', G', J', rv, q⟩ := q
    exact ⟨w', G', J'.os, J'.bare, J'.base, J'.hok, rv, q⟩
  refine wpAny_call (codeAny_mono run fun r s4 q => ?_)
  cases r with
  | error e => exact tk e s4 (L2N.XE.of_call I3 hW q)
  | ok fl => cases fl with
    | ret u => exact I3.after q
    | next => exact q.elim
    | brk => exact q.elim
    | cont => exact q.elim
end
/-- the def that calls what it got, under the name a; TT: what it makes of the lambda's reading -/
def GivesN (X : Cx) (NZ : List Str) (x : Str) (sZ : Scope) (g : Addr) (cd : Value) (bZ : List Stmt) (a q : Str) (TT : (XK → Hp → VK → Prop) → Hp → VK → Prop) : Prop :=
  ∀ (f c : Addr) (s : Shared) (H : Hp) (Q : VK) (tl : XK → Hp → VK → Prop), L2.Room 8 (X.A.deeper (envOfC x sZ s.heap.objs.size g cd)) →
    (∀ (W : WX) (pn : List (Addr × Obj)) (xe : Value → Shared → Prop) (E : XK) (p1 p2 : Pos), L2N.Takes ((cxOf C8.CX0 X.prog X.w X.K X.mg X.base NZ x sZ g cd X.A X.stack s H C8.E0).tr pn xe) W →
      PE ((cxOf C8.CX0 X.prog X.w X.K X.mg X.base NZ x sZ g cd X.A X.stack s H C8.E0).tr pn xe) (.Call (.Name a p1) [] [] p2) (fun τ G Q => (∀ cls d G1, E cls d G1 → W cls d τ G1) ∧ τ[0]? = some (some (.ref f)) ∧ G c = some (CodeO c q) ∧ tl E G Q)) →
    H c = some (CodeO c q) → TT tl H Q →
    ∃ t, PSs (cxOf C8.CX0 X.prog X.w X.K X.mg X.base NZ x sZ g cd X.A X.stack s H C8.E0).nox bZ t ∧ t { nx := fun _ G => Q .non G, rt := Q } (L2.start NZ [.ref f]) H
section
variable {X : Cx}
/-- x(lambda: bo) -/
theorem pe_lamN {T : List (Addr × Str)} {TT : (XK → Hp → VK → Prop) → Hp → VK → Prop} {x a : Str} {g c P : Addr} {k : Nat} {pg : Arguments} {bZ : List Stmt} {sZ : Scope} {dV kV doc pm cd ct oc : Value} {an od : Option Addr} {osl : Array (Option Value)} {NZ : List Str}
    {pa : Arguments} {bo : Expr} {sc : Scope} {t : XK → TE} {p lp pos : Pos} (hg : Gl X x) (hm : X.mg x = some (.ref g)) (hk : PySem.W.keepIn X.K (.ref g) = true)
    (lk : X.K.lookup g = some ⟨oc, od, .func (PySem.W.fnOf x x pg bZ sZ dV kV doc pm an cd ct), osl⟩) (hcd : PySem.W.codeIn X.K cd x = true) (hb : L2.Binds X.K (PySem.W.fnOf x x pg bZ sZ dV kV doc pm an cd ct) [a] []) (S : FnScope NZ [a] sZ) (hN : NZ[0]? = some a) (hv : Vis sZ a)
    (hG : GivesN X NZ x sZ g cd bZ a (X.env.qual ++ "<lambda>") TT) (k8 : 8 ≤ k + 1)
    (TB : TabB X.base X.mg c P) (hcode : X.env.code = .ref c) (hT : (P, X.env.qual ++ "<lambda>") ∈ T) (one : ∀ p ∈ T, p.1 = P → p.2 = X.env.qual ++ "<lambda>") (hr : L2.Room (k + 2) X.A) (L : LamS X.env.scope sc) (dflt : defaultsOf pa X.env = ([], []))
    (bind : ∀ (q : Str) (cl : List (Str × Addr)) (pm cv ctv : Value), bindArgs (PySem.W.kla_fn "<lambda>" q pa bo sc cl pm cv ctv) ⟨[], []⟩ = pure [])
    (body : ∀ (A : Around) (outer : List Env) (s : Shared) (H : Hp) (E : XK) (f c : Addr), L2.Room k (A.deeper (lamEnv X sc s.heap.objs.size f c)) → PE (lamN X A outer s H E sc f c) bo (t E))
    (db : (x == ("__debug__" : Str)) = false) (d1 : (a == ("__debug__" : Str)) = false) (d2 : (a == ("__classdict__" : Str)) = false) :
    PE X (.Call (.Name x p) [.Lambda pa bo sc lp] [] pos) (tLam T TT t) := by
  refine ⟨fun pins s σ H Q I ⟨h1, h2⟩ => wpAny_Call_Name_kw (ld_glob I hg hm (PySem.W.callWith_K (h₀ := X.base) I.ok.mod.kin hk ?_ (by rfl) (by rfl)) db)⟩
  refine Calls.spliced_cons (s := s) (lam_make2 I TB hcode hT one h1 dflt (L.has I.ok) fun f c' pm' ctv H1 s1 I1 eN T1 hf nf nr hco => Calls.spliced_nil ⟨I1.kIn, ?_⟩)
  have run : codeAny (model X.prog X.w) X.A (.call (.ref g) ⟨[.ref f], []⟩) (CR C8.CX0 X.stack X.prog X.w H1 s1 Q C8.E0) s1 := by
    refine run_ofS (N := NZ) (ps := [a]) (us := [.ref f]) (vs := [.ref f]) lk hcd S hr I1.env0 (hb s1 [.ref f] I1.kIn rfl) (.cons rfl .nil) rfl fun hr1 => ?_
    obtain ⟨t', e1, e2⟩ := hG f c' s1 H1 Q (fun E G Q' => t E σ G Q') (hr1.mono k8) (fun W pn xe E p1 p2 tk => pe_actN (i := 0) I1 L hf nf nr (bind _ _ _ _ _) tk hr1 (fun A outer s H hr2 => body A outer s H E f c' hr2) hN hv d1 d2) hco (h2 H1 eN T1)
    exact ⟨t', e1.nox, e2⟩
  refine wpAny_call (codeAny_mono run fun r s2 q => ?_)
  cases r with
  | error e => exact (show False from q).elim
  | ok fl => cases fl with
    | ret u => exact I1.after q
    | next => exact q.elim
    | brk => exact q.elim
    | cont => exact q.elim
end
end TX
end
section
set_option maxRecDepth 100000
set_option maxHeartbeats 2000000
/-! try with several handlers, each of the form `except X as n` with the same n -/
namespace L2N
open PySem PySem.Spec PyProof.Rows L2
/-- what is wished where the body lets an exception out: the first handler whose class fits -/
def wAsL (K : PySem.W.Frag) (i : Nat) (Wout : WX) (D : Ends) : List (Value × (Addr → Value → Option Addr → TS)) → WX
  | [] => Wout
  | (c, ts) :: r => wAs K c i ts (wAsL K i Wout D r) D
inductive HdsAs (X : Cx) (n : Str) : List ExceptHandler → List (Value × (Addr → Value → Option Addr → TS)) → Prop
  | nil : HdsAs X n [] []
  | cons {x : Str} {c : Value} {ts : Addr → Value → Option Addr → TS} {b₀ : Stmt} {su : List Stmt} {p1 p2 : Pos} {hds : List ExceptHandler} {l : List (Value × (Addr → Value → Option Addr → TS))} (hc : Names X x c)
      (hsu : ∀ (a : Addr) (oe : Obj) (cls : Value) (d : Option Addr) (pn : List (Addr × Obj)), Zn cls d oe → (∃ vs, oe.data = .fields vs) → PSs (X.suite a ((a, oe) :: pn)) (b₀ :: su) (ts a cls d))
      (r : HdsAs X n hds l) : HdsAs X n (.ExceptHandler (some (.Name x p1)) (some n) (b₀ :: su) p2 :: hds) ((c, ts) :: l)
section
variable {X : Cx} {n : Str} {i : Nat} {body : List Stmt} {h₀ : ExceptHandler} {hds : List ExceptHandler} {l : List (Value × (Addr → Value → Option Addr → TS))} {pos : Pos} {tb : WX → TS} {Wout : WX}
theorem ps_try_asL (hs : X.stack = X.env :: X.outer) (hf : X.env.frame = some X.env.locals) (hN : X.N.Nodup) (hi : X.N[i]? = some n) (hln : X.env.kindOf n = some .local) (tk : Takes X Wout)
    (hb : ∀ (W : WX) (pn : List (Addr × Obj)) (xe : Value → Shared → Prop), Takes (X.tr pn xe) W → PassesOwn (model X.prog X.w) X.A X.env xe → PSs (X.tr pn xe) body (tb W))
    (hh : HdsAs X n (h₀ :: hds) l) : PS X (.Try body (h₀ :: hds) [] [] pos) (fun D σ H => tb (wAsL X.K i Wout D l) D σ H) := by
  refine ⟨fun pins s σ H D I h => ?_⟩
  have ok := I.ok
  have fr0 : X.A.frames = some (X.env :: X.outer) := by rw [ok.frames, hs]
  have hloc : Loc X.env.scope n := .inl hln
  refine wpAny_Try_except ?_
  refine wpAny_mono ((hb (wAsL X.K i Wout D l) (X.pn ++ pins)
    (fun e s₁ => wpAny (model X.prog X.w) X.A (noteFrame e X.env) (fun _ s₂ => wpAny (model X.prog X.w) X.A (setFlight e none) (fun _ s₃ => wpAny (model X.prog X.w) X.A (handleBy e X.env (h₀ :: hds)) (SP X pins D) X.xe s₃) X.xe s₂) X.xe s₁)
    (fun u s' xx => ?_) PassesOwn.looking).run [] s σ H D (I.toTry _) h) (fun f s1 fin => ?_) (fun _ _ z => z)
  · obtain ⟨a, B, sI, pins', τ, G, cls, d, rfl, J', nb, up, sky, na, os, ag, w⟩ := xx
    have J : Inv X pins τ G sI := J'.ofTry ok
    have sky2 : Sky B (X.env :: X.outer) a (Zn cls d) X.env.locals s'.heap := by rw [← hs]; exact sky
    show wpAny (model X.prog X.w) X.A (noteFrame (.ref a) X.env) _ _ _
    refine Sky.land Zn.steady fr0 hf sky2 fun h3 fl3 up3 => ?_
    have J3 : Inv X pins τ G { s' with heap := h3 } := J.landed nb fl3.1 (up.trans up3) os ag
    obtain ⟨oe3, vs3, he3, hz3, hd3⟩ := fl3.there
    have apart : a ∉ frs (X.env :: X.outer) := fun hm => by
      obtain ⟨_, o', e', hnf⟩ := fl3.2.2.1.mem hm
      rw [he3] at e'
      cases e'
      exact hnf _ hd3
    have nL : a ≠ X.env.locals := fun z => apart (List.mem_filterMap.mpr ⟨X.env, List.mem_cons_self, by rw [hf, z]⟩)
    have nF : a ∉ X.fs := fun hm => by
      obtain ⟨e, he, q⟩ := List.mem_filterMap.mp hm
      exact apart (List.mem_filterMap.mpr ⟨e, List.mem_cons_of_mem _ he, q⟩)
    have S3 := J3.suite he3 hd3 na nL nF
    have go : ∀ {hs' : List ExceptHandler} {l' : List (Value × (Addr → Value → Option Addr → TS))}, HdsAs X n hs' l' → wAsL X.K i Wout D l' cls d τ G →
        wpAny (model X.prog X.w) X.A (handleBy (.ref a) X.env hs') (SP X pins D) X.xe { s' with heap := h3 } := by
      intro hs' l' hk
      induction hk with
      | nil =>
        intro w
        refine wpAny_handleBy_nil ?_
        obtain ⟨_, _, _, oe, vs, T, oT, _, he, hz, hd, h1, _⟩ := id fl3
        unfold PySem.passOn
        refine wpAny_bind (wpAny_field he hd h1 ?_)
        rw [if_neg (show ¬ ((Value.ref T == Value.none) = true) from by simp)]
        have out : wpAny (model X.prog X.w) X.A (setFlight (.ref a) X.env.frame) (fun _ s4 => wpAny (model X.prog X.w) X.A (throw (.ref a) : Sem Flow) (SP X pins D) X.xe s4) X.xe { s' with heap := h3 } := by
          rw [hf]
          refine HandSPX.setFlight_upZ fl3 fun h4 hh4 up4 => wpAny_throw (tk _ _ ?_)
          exact ⟨a, B, sI, pins, τ, G, cls, d, rfl, J, nb, (up.trans up3).trans up4, .inr (.inr (by rw [hs]; exact hh4)), na, os, ag, w⟩
        first
          | exact wpAny_bind (wpAny_pure (wpAny_bind out))
          | exact wpAny_bind out
      | @cons x c ts b₀ su p1 p2 hds2 l2 hc hsu r ih =>
        intro w
        obtain ⟨b, fits, yes, no⟩ := w
        refine wpAny_handleBy_cons (codeAny_handlers_test ?_) (by intro q; cases q)
        have LT : PySem.W.Looks (model X.prog X.w) h3 (typeOf (.ref a)) cls := fun A Q E s k q => wpAny_typeOf_ref (k _ _ he3) (by rw [hz3.1]; exact q)
        have LM := PySem.W.exm_one (M := model X.prog X.w) J3.kIn LT fits
        have named : ∀ {Q : Value → Shared → Prop} {E : Value → Shared → Prop}, Q c { s' with heap := h3 } → wpAny (model X.prog X.w) (X.A.mark (some (.ref a))) (eval (.Name x p1) X.env) Q E { s' with heap := h3 } := fun {Q E} q => by
          obtain ⟨hg, hdbg, hm | ⟨hm, hv, hnn⟩⟩ := hc
          · exact ld_glob (X := X.suite a ((a, oe3) :: (X.pn ++ pins))) S3 hg hm q hdbg
          · exact ld_blt (X := X.suite a ((a, oe3) :: (X.pn ++ pins))) S3 hg hm hv q hnn hdbg
        refine named (LM.here ?_)
        cases b with
        | true =>
          refine codeAny_handlers_suite_as ?_
          refine HandSPX.lands_againZ fl3 fun h4 fl4 up4 => ?_
          have J4 : Inv X pins τ G { s' with heap := h4 } := J.landed nb fl4.1 ((up.trans up3).trans up4) os ag
          obtain ⟨oe4, vs4, he4, hz4, hd4⟩ := fl4.there
          have S4 := J4.suite he4 hd4 na nL nF
          refine store_ok (X := X.suite a ((a, oe4) :: (X.pn ++ pins))) (v := .ref a) S4 hN hi hloc rfl (fun s5 S5 => ?_) (.inr hln)
          refine wpAny_mono ((hsu a oe4 cls d (X.pn ++ pins) hz4 ⟨_, hd4⟩).run [] s5 _ G _ S5 (yes rfl a na)) (fun f s6 hsp => ?_) (fun _ _ z => False.elim z)
          have gone : ∀ {σ6 : St} {H6 : Hp} {Q : Shared → Prop}, Inv (X.suite a ((a, oe4) :: (X.pn ++ pins))) [] σ6 H6 s6 → (∀ s7, Inv X pins (σ6.set i none) H6 s7 → Q s7) →
              wpAny (model X.prog X.w) X.A (do bindName X.env n .none; unbindBehindTheSuite X.env n p2) (fun _ s7 => Q s7) X.xe s6 := fun {σ6 H6 Q} S6 hq => gone_ok (S6.unsuite ok) hN hi hln hq
          cases f with
          | next => obtain ⟨_, _, S6, q6⟩ := hsp; exact gone S6 fun s7 J7 => ⟨_, _, J7, q6⟩
          | brk => obtain ⟨_, _, S6, q6⟩ := hsp; exact gone S6 fun s7 J7 => ⟨_, _, J7, q6⟩
          | cont => obtain ⟨_, _, S6, q6⟩ := hsp; exact gone S6 fun s7 J7 => ⟨_, _, J7, q6⟩
          | ret u => obtain ⟨_, _, _, S6, r6, q6⟩ := hsp; exact gone S6 fun s7 J7 => ⟨_, _, _, J7, r6, q6⟩
        | false =>
          show wpAny _ X.A (handleBy (.ref a) X.env hds2) _ _ _
          exact ih (no rfl)
    exact go hh w
  · cases f with
    | next => obtain ⟨_, _, J2, q⟩ := fin; exact wpAny_execs_nil ⟨_, _, J2.ofTry ok, q⟩
    | brk => obtain ⟨_, _, J2, q⟩ := fin; exact ⟨_, _, J2.ofTry ok, q⟩
    | cont => obtain ⟨_, _, J2, q⟩ := fin; exact ⟨_, _, J2.ofTry ok, q⟩
    | ret u => obtain ⟨_, _, _, J2, r, q⟩ := fin; exact ⟨_, _, _, J2.ofTry ok, r, q⟩
end
end L2N
end
section
set_option maxRecDepth 100000
set_option maxHeartbeats 4000000
/-! isinstance(e, C) of an error that has fields -/
namespace L2
open PySem PySem.Spec PyProof.Rows
def rIsEF (K : PySem.W.Frag) (D a : Addr) (cls : Value) (d : Option Addr) : List V → Hp → VK → Prop := fun xs H Q => ∃ (c : V) (cv : Value) (b : Bool) (dd : Addr) (fs : List (Str × V)), xs = [.ref a, c] ∧ cls = .ref D ∧ d = some dd ∧ (∀ u, RelV c u → u = cv) ∧ PySem.W.kitOne K (.ref D) cv = some b ∧ H dd = some (.xd fs) ∧ Q (.bl b) H
theorem call_isEF {X : Cx} {a D : Addr} {oe : Obj} {cls : Value} {d : Option Addr} {pn : List (Addr × Obj)} (C : ExcC X.K D) (hz : Zc cls d oe) (hf : ∃ vs, oe.data = .fields vs) : CallR (X.suite a ((a, oe) :: pn)) (.builtin "isinstance") (rIsEF X.K D a cls d) := by
  rintro pins s σ H xs us Q I r ⟨c, cv, b, dd, fs, rfl, ec, ed, hcv, e, eh, q⟩
  subst ec
  subst ed
  cases r with
  | cons rx rr =>
    cases rr with
    | cons rt rn =>
      cases rn
      rename_i u1 u2
      obtain rfl : u1 = Value.ref a := rx
      have ec := hcv u2 rt
      subst ec
      obtain ⟨ha, _⟩ := I.pin (a, oe) (List.mem_append_left _ List.mem_cons_self)
      obtain ⟨vs, hd⟩ := hf
      have hx : ObjOk X.prog X.w H s.heap dd (.xd fs) := I.hok dd _ eh
      obtain ⟨mA, hns, hr⟩ := hx
      obtain ⟨od, ho, hl⟩ := lookIn_ns hns
      have J : PySem.W.InstAt s.heap a oe D (some od) := ⟨ha, hz.1, by unfold PySem.W.notCls; rw [hd] <;> rfl, by rw [hz.2]; exact ho⟩
      have hc : (PySem.W.clsIn X.K D).isSome = true := by
        have z := C.hd
        unfold PySem.W.hasDictIn at z
        cases y : PySem.W.clsIn X.K D with
        | none => rw [y] at z; cases z
        | some _ => rfl
      exact PySem.W.kia_one (PySem.W.kitx_exc hc C.hg C.hk C.hs C.ha C.hn C.ht C.hm) I.kIn J e (fun z => nomatch z) fun tk => ⟨.bl b, H, I.kept fun _ _ z => z, rfl, q⟩
end L2
end
section
set_option maxRecDepth 100000
set_option maxHeartbeats 4000000
/-! a + x and a[x] by own methods that may raise, x any value -/
namespace TX
open PySem PySem.Spec PyProof.Rows L2
/-- the type of the right one, as the sum asks of it -/
inductive AddA (K : PySem.W.Frag) (C : Addr) (op : Operator) : Value → Prop
  | same : AddA K C op (.ref C)
  | ty {T : String} {fo ro : Option Value} (h1 : PySem.W.findIn K (.type T) (dunder op.info.2) = some fo) (h2 : PySem.W.findIn K (.type T) (dunderR op.info.2) = some ro) (h3 : PySem.W.subIn K (.type T) (.ref C) = some false) : AddA K C op (.type T)
  | own {D g : Addr} (ne : D ≠ C) (sf : PySem.W.selfFirst K D = true) (h1 : PySem.W.findIn K (.ref D) (dunder op.info.2) = some (some (.ref g))) (h2 : PySem.W.findIn K (.ref D) (dunderR op.info.2) = some none) (h3 : PySem.W.subIn K (.ref D) (.ref C) = some false) : AddA K C op (.ref D)
section
open PySem.W
variable {prog : Program} {w : World} {A : Around} {E : Value → Shared → Prop} {s : Shared} {K : Frag} {x C L f : Addr} {h₀ : Heap} {m : Str → Option Value} {ox : Obj} {od : Option Obj}
theorem add_any {op : Operator} {b t : Value} {Q : Value → Shared → Prop} (F : Fr h₀ L s.heap m) (X₀ : K.In h₀) (I : InstAt s.heap x ox C od) (Lb : Looks (model prog w) s.heap (typeOf b) t) (T : AddA K C op t) (sf : selfFirst K C = true)
    (hs : findIn K (.ref C) (PySem.dunder op.info.2) = some (some (.ref f))) (hf : isFn K (.ref f) = true) (hr : findIn K (.ref C) (dunderR op.info.2) = some none)
    (h : wpAny (model prog w) A (call (.ref f) [.ref x, b]) (PySem.W.CmpBack Q) E s) : wpAny (model prog w) A (binaryOp op (.ref x) b) Q E s := by
  have X := X₀.keeps F.keep
  obtain ⟨cd, rest, hcd, hm⟩ := ksp_first sf
  cases T with
  | same => exact binop_K F X₀ I Lb sf hs hf h
  | @ty T fo ro h1 h2 h3 =>
    rcases hi : op.info with ⟨sym, nm⟩
    rw [hi] at hs hr h1 h2
    dsimp only at hs hr h1 h2
    have one := ksp_try X I hs hf h
    have hne : (Value.ref C == Value.type T) = false := Bool.eq_false_iff.mpr fun q => by cases beq_iff_eq.mp q
    obtain ⟨hh, g, d, tt, os⟩ := s
    have La : Looks (model prog w) hh (typeOf (.ref x)) (.ref C) := I.type
    have Lb' : Looks (model prog w) hh (typeOf b) (.type T) := Lb
    have Lf : Looks (model prog w) hh (fillsNumberSlot (.ref C) nm) true := fills_K X hcd hm hs
    have G1 : Looks (model prog w) hh (fillsNumberSlot (.type T) nm) ((fo.isSome && !isSeqSlot fo) || (ro.isSome && !isSeqSlot ro)) := ksp_fillsT X h1 h2
    have G2 : Looks (model prog w) hh (isSubtype (.type T) (.ref C)) false := looks_subIn X h3
    have Lp : Looks (model prog w) hh (numberSlotInPython (.ref C) nm) true := ksp_inPy X hs hr (.inl rfl)
    have G3 : Looks (model prog w) hh (numberSlotInPython (.type T) nm) false := Looks.of_pure rfl
    have G4 : Looks (model prog w) hh (typeLookup (.type T) (dunderR nm)) ro := looks_findIn X h2
    generalize ((fo.isSome && !isSeqSlot fo) || (ro.isSome && !isSeqSlot ro)) = right at G1
    unfold binaryOp
    rw [hi]
    refine wpAny_holding (wpAny_bind ?_)
    unfold binaryOp1
    refine wpAny_bind (La.at (wpAny_bind (Lb'.at (wpAny_bind (Lf.at ?_)))))
    simp only [hne, Bool.false_eq_true, if_false]
    cases right with
    | false =>
      ksp_lk
      refine wpAny_mono one (fun r s' hr' => ?_) fun _ _ e => e
      obtain ⟨v, rfl, hq⟩ := hr'
      ksp_lk
      exact hq
    | true =>
      ksp_lk
      refine wpAny_mono one (fun r s' hr' => ?_) fun _ _ e => e
      obtain ⟨v, rfl, hq⟩ := hr'
      ksp_lk
      exact hq
  | @own D g ne sfD h1 h2 h3 =>
    obtain ⟨cdD, restD, hcdD, hmD⟩ := ksp_first sfD
    rcases hi : op.info with ⟨sym, nm⟩
    rw [hi] at hs hr h1 h2
    dsimp only at hs hr h1 h2
    have one := ksp_try X I hs hf h
    have hne : (Value.ref C == Value.ref D) = false := Bool.eq_false_iff.mpr fun q => ne (by cases beq_iff_eq.mp q; rfl)
    obtain ⟨hh, g', d, tt, os⟩ := s
    have La : Looks (model prog w) hh (typeOf (.ref x)) (.ref C) := I.type
    have Lb' : Looks (model prog w) hh (typeOf b) (.ref D) := Lb
    have Lf : Looks (model prog w) hh (fillsNumberSlot (.ref C) nm) true := fills_K X hcd hm hs
    have G1 : Looks (model prog w) hh (fillsNumberSlot (.ref D) nm) true := fills_K X hcdD hmD h1
    have G2 : Looks (model prog w) hh (isSubtype (.ref D) (.ref C)) false := looks_subIn X h3
    have Lp : Looks (model prog w) hh (numberSlotInPython (.ref C) nm) true := ksp_inPy X hs hr (.inl rfl)
    have G3 : Looks (model prog w) hh (numberSlotInPython (.ref D) nm) true := ksp_inPy X h1 h2 (.inl rfl)
    unfold binaryOp
    rw [hi]
    refine wpAny_holding (wpAny_bind ?_)
    unfold binaryOp1
    refine wpAny_bind (La.at (wpAny_bind (Lb'.at (wpAny_bind (Lf.at ?_)))))
    simp only [hne, Bool.false_eq_true, if_false]
    ksp_lk
    refine wpAny_mono one (fun r s' hr' => ?_) fun _ _ e => e
    obtain ⟨v, rfl, hq⟩ := hr'
    ksp_lk
    exact hq
end
section
variable {X : Cx} {pins : List (Addr × Obj)} {σ : L2.St} {H : Hp} {s : Shared} {n : Nat} {A : Around} {CX : CXT} {f : Addr} {fd : FuncData} {ps : List Str} {sp : Sp} {Q : VK} {E : XK} {us : List Value} {vs : List V}
theorem run_subN (hA : L2.Sub X n A) (F : FnOk X.prog X.w X.K X.mg X.base CX n f fd ps sp) (b : L2.Binds X.K fd ps []) (hx : Passes CX X E) (I : L2.Inv X pins σ H s) (r : Vals vs us) (h : sp vs H Q E) : wpAny (model X.prog X.w) A (call (.ref f) us) (EP X pins σ Q) X.xe s := by
  have e0 := I.env0
  have e1 : Env0 X.prog X.w X.K X.mg X.base A X.stack s H := ⟨by rw [hA.fr]; exact e0.frames, e0.mod, e0.bs, e0.bsz, e0.funs, e0.frf, e0.hok, e0.bare⟩
  have len : us.length = ps.length := (r.length).symm.trans (F.len _ _ _ _ h)
  have b1 : BindsTo s fd { pos := us } (List.zip ps us) := by
    have z := b s us I.kIn (by rw [List.append_nil]; exact len)
    rw [List.append_nil] at z
    exact z
  refine PySem.wpAny_call (codeAny_mono (F.run A X.stack s H { pos := us } us vs Q E hA.room e1 b1 r h) fun r s' q => ?_)
  cases r with
  | ok fl => cases fl with
    | ret u => exact I.after q
    | _ => exact q.elim
  | error e => exact hx pins σ H s e s' I q
end
section
variable {X : Cx} {k : Nat} {C f : Addr} {fd : FuncData} {ps : List Str} {sp : Sp} {CX : CXT} {E : XK}
/-- a + x -/
theorem op_addN (F : FnOk X.prog X.w X.K X.mg X.base CX k f fd ps sp) (M : Meth X.K C "__add__" f) (sf : PySem.W.selfFirst X.K C = true) (nr : PySem.W.findIn X.K (.ref C) (dunderR Operator.Add.info.2) = some none) (bi : L2.Binds X.K fd ps []) (hr : L2.Room k X.A) (hx : Passes CX X E) :
    OpR X (binaryOp .Add) (fun x y H Q => ∃ a dx fs t, x = .ref a ∧ H a = some (.ins C dx fs) ∧ TyX X.K H y t ∧ AddA X.K C .Add t ∧ sp [x, y] H Q E) := by
  intro pins s σ H x y v u Q I rx ry h
  obtain ⟨a, dx, fs, t, rfl, ha, ty, T, h⟩ := h
  have ev : v = .ref a := rx
  subst ev
  obtain ⟨oa, ia⟩ := inst_of I ha
  obtain ⟨m, fr⟩ := I.fr
  obtain ⟨P, Z, p, _⟩ := kit_of I ry ty
  refine add_any fr I.ok.mod.kin ia (Z.ty _ _ I.kIn p) T sf M.at_ M.fn nr ?_
  exact thn (run_subN (sub_self hr) F bi hx I (.cons rx (.cons ry .nil)) h) fun u s' ⟨v, H', I', r, q⟩ => not_ni r ⟨v, H', I', r, q⟩
/-- a op x, op any operator -/
theorem op_binN {op : Operator} (F : FnOk X.prog X.w X.K X.mg X.base CX k f fd ps sp) (M : Meth X.K C (dunder op.info.2) f) (sf : PySem.W.selfFirst X.K C = true) (nr : PySem.W.findIn X.K (.ref C) (dunderR op.info.2) = some none) (bi : L2.Binds X.K fd ps []) (hr : L2.Room k X.A) (hx : Passes CX X E) :
    OpR X (binaryOp op) (fun x y H Q => ∃ a dx fs t, x = .ref a ∧ H a = some (.ins C dx fs) ∧ TyX X.K H y t ∧ AddA X.K C op t ∧ sp [x, y] H Q E) := by
  intro pins s σ H x y v u Q I rx ry h
  obtain ⟨a, dx, fs, t, rfl, ha, ty, T, h⟩ := h
  have ev : v = .ref a := rx
  subst ev
  obtain ⟨oa, ia⟩ := inst_of I ha
  obtain ⟨m, fr⟩ := I.fr
  obtain ⟨P, Z, p, _⟩ := kit_of I ry ty
  refine add_any fr I.ok.mod.kin ia (Z.ty _ _ I.kIn p) T sf M.at_ M.fn nr ?_
  exact thn (run_subN (sub_self hr) F bi hx I (.cons rx (.cons ry .nil)) h) fun u s' ⟨v, H', I', r, q⟩ => not_ni r ⟨v, H', I', r, q⟩
def tIxN (C : Addr) (sp : Sp) (E : XK) (ta tb : TE) : TE := fun σ H Q => ta σ H fun x H1 => tb σ H1 fun y H2 => ∃ p dx fs, x = .ref p ∧ H2 p = some (.ins C dx fs) ∧ sp [x, y] H2 Q E
/-- a[x] -/
theorem pe_ixN {a b : Expr} {pos : Pos} {ta tb : TE} (F : FnOk X.prog X.w X.K X.mg X.base CX k f fd ps sp) (M : Meth X.K C "__getitem__" f) (hn : PySem.W.fnIn X.K f = true) (bi : L2.Binds X.K fd ps []) (hr : L2.Room (k + 1) X.A) (hx : Passes CX X E) (ha : PE X a ta) (hb : PE X b tb)
    (hsl : ∀ o i, subscripted b true o i = runValue (.builtin "lifetime.subscript" ⟨[o, i], []⟩) := by intro _ _; rfl) : PE X (.Subscript a b pos) (tIxN C sp E ta tb) := by
  refine ⟨fun pins s σ H Q I h => Subscript_ (binT (R := fun x y H2 => ∃ p dx fs, x = .ref p ∧ H2 p = some (.ins C dx fs) ∧ sp [x, y] H2 Q E) ha hb I h fun v u s2 x y H2 I2 rx ry q => ?_)⟩
  obtain ⟨p, dx, fs, rfl, hp, q⟩ := q
  have ev : v = .ref p := rx
  subst ev
  obtain ⟨oa, ia⟩ := inst_of I2 hp
  obtain ⟨m, fr⟩ := I2.fr
  exact PySem.W.sub_K fr I2.ok.mod.kin ia M.at_ hn M.fn (run_subN (L2.Sub.in1 (sub_self hr)) F bi hx I2 (.cons rx (.cons ry .nil)) q) (hsl _ _)
end
end TX
end
section
set_option maxRecDepth 100000
set_option maxHeartbeats 8000000
namespace TX
open PySem PySem.Spec PyProof.Rows L2 SX CW
theorem TabAt.same {H H' : Hp} {t : Addr} {ks : List Nat} {X : Nat → Nat → Bool} (h : TabAt H t ks X) (s : L2.Same H H') : TabAt H' t ks X := ⟨h.l0, h.l8, h.up, h.abc, h.cr, s _ _ h.at_⟩
theorem TabAt.pen {H H' : Hp} {t p c : Addr} {m : Nat} {ks : List Nat} {X : Nat → Nat → Bool} (h : TabAt H t ks X) (hp : PenAt H p c m) (b : But p H H') : TabAt H' t ks X := ⟨h.l0, h.l8, h.up, h.abc, h.cr, b _ _ (h.ne hp).1 h.at_⟩
theorem pen_ne {H : Hp} {a p c : Addr} {m : Nat} {o : HO} (hp : PenAt H p c m) (ha : H a = some o) (h : ∀ c pl r, o ≠ .dK (pkv c pl r)) : a ≠ p := by
  obtain ⟨pl, r, cs, h1, _⟩ := hp.ex
  exact ne_of ha h1 (h _ _ _)
theorem kv_ne {ks : List Nat} {f : Nat → List Nat} (l0 : 0 < ks.length) (c : Addr) (pl r : Int) : (.dK (kvK ks f) : HO) ≠ .dK (pkv c pl r) := fun e => by
  have e2 := HO.dK.inj e
  cases ks with
  | nil => exact absurd l0 (by simp)
  | cons k ks =>
    have e3 := (List.cons.inj e2).1
    have e4 : (Sum.inr (S [k]) : Key) = Sum.inr ("cells" : Str) := congrArg Prod.fst e3
    have e5 := congrArg Str.length (Sum.inr.inj e4)
    rw [S_len] at e5
    have e6 : ("cells" : Str).length = 5 := by decide +kernel
    rw [e6] at e5
    simp at e5
theorem PlanAt.pen {C : Addr} {H H' : Hp} {r p c : Addr} {m : Nat} {ks : List Nat} {X : Nat → Nat → Bool} (h : PlanAt C H r ks X) (l0 : 0 < ks.length) (hp : PenAt H p c m) (b : But p H H') : PlanAt C H' r ks X := by
  obtain ⟨dx, tp, da, dl, h1, h2, h3, h4⟩ := h.ex
  exact ⟨h.few, h.up, h.cr, h.abc, dx, tp, da, dl, b _ _ (pen_ne hp h1 fun _ _ _ z => by cases z) h1, b _ _ (pen_ne hp h2 fun _ _ _ z => by cases z) h2, h3.elim (fun e => .inl (b _ _ (pen_ne hp e (kv_ne l0)) e)) (fun ⟨od, e⟩ => .inr ⟨od, b _ _ (pen_ne hp e fun _ _ _ z => by cases z) e⟩), h4.elim (fun e => .inl (b _ _ (pen_ne hp e (kv_ne l0)) e)) (fun ⟨od, e⟩ => .inr ⟨od, b _ _ (pen_ne hp e fun _ _ _ z => by cases z) e⟩)⟩
end TX
end
section
set_option maxRecDepth 100000
set_option maxHeartbeats 8000000
/-! what stands when lambdas are made; _law_told, _law_like -/
namespace TX
open PySem PySem.Spec PyProof.Rows L2 LamX SX CW
theorem takesN0 {X : Cx} : L2N.Takes X fun _ _ _ _ => False := fun u s' h => by
  unfold L2N.XE at h
  simp at h
/-- an error's class, as it is caught and its field read -/
structure XcF (K : PySem.W.Frag) (mg : Str → Option Value) (nm fl : Str) (D FE : Addr) : Prop where
  xf : XfC K D
  ec : ExcC K D
  nf : PySem.W.findIn K (.ref D) fl = some none
  ko : PySem.W.kitOne K (.ref D) (.ref FE) = some true
  g : mg nm = some (.ref D)
/-- the code object of a def, the table of the code in it -/
structure LamT (K : PySem.W.Frag) (mg : Str → Option Value) (base : Heap) (x : Str) (c P : Addr) : Prop where
  cd : ∃ f oc od fd osl, mg x = some (.ref f) ∧ K.lookup f = some ⟨oc, od, .func fd, osl⟩ ∧ fd.code = .ref c
  tb : TabB base mg c P
section
variable {P : Program} {w : World} {K : PySem.W.Frag} {mg : Str → Option Value} {base : Heap}
theorem FunD.okC {CX : CXT} {x : Str} {pa : Arguments} {bo : List Stmt} {scp : Scope} {dv : List V} {kw : List (Str × V)} {f : Addr} {fd : FuncData} {N ps : List Str} {k : Nat} {sp : Sp} {c Pt : Addr} (F : FunD K x x pa bo scp dv kw f fd) (g : mg x = some (.ref f)) (LT : LamT K mg base x c Pt) (Sc : FnScope N ps scp) (len : ∀ vs H Q E, sp vs H Q E → vs.length = ps.length)
    (hbody : ∀ (A : Around) (outer : List Env) (s : Shared) (H : Hp) (vs : List V) (Q : VK) (E : XK), L2.Room k (A.deeper (envOfC x scp s.heap.objs.size f (.ref c))) → sp vs H Q E →
      ∃ t, PSs (cxOf CX P w K mg base N x scp f (.ref c) A outer s H E) bo t ∧ t { nx := fun _ H' => Q .non H', rt := Q } (L2.start N vs) H) : FnOk P w K mg base CX (k + 1) f fd ps sp := by
  obtain ⟨oc, od, dV, kV, doc, pm, an, cdv, ct, osl, rfl, lk, hcd, _, _⟩ := F.ex
  obtain ⟨f', oc', od', fd', osl', g', lk', hc⟩ := LT.cd
  rw [g] at g'
  cases g'
  rw [lk] at lk'
  cases lk'
  have e : cdv = .ref c := hc
  subst e
  exact fn_of lk hcd Sc len fun A outer s H vs Q E hr h => hbody A outer s H vs Q E hr h
end
/-! ### what stays when a lambda is made -/
theorem ExtN.same {H H' : Hp} (s : L2.Same H H') : ExtN H H' := fun b o e _ => s b o e
theorem PlanAt.ext {C : Addr} {H H' : Hp} {p : Addr} {ks : List Nat} {X : Nat → Nat → Bool} (h : PlanAt C H p ks X) (s : ExtN H H') : PlanAt C H' p ks X := by
  obtain ⟨dx, tp, da, dl, h1, h2, h3, h4⟩ := h.ex
  have dk : ∀ {d : Addr} {kvs : List (Key × V)}, DkAt H d kvs → DkAt H' d kvs := fun h => h.elim (fun e => .inl (s _ _ e fun ps z => by cases z)) fun ⟨od, e⟩ => .inr ⟨od, s _ _ e fun ps z => by cases z⟩
  exact ⟨h.few, h.up, h.cr, h.abc, dx, tp, da, dl, s _ _ h1 (fun ps z => by cases z), s _ _ h2 (fun ps z => by cases z), dk h3, dk h4⟩
theorem SqT.ext {K : PySem.W.Frag} {H H' : Hp} {a : Addr} {xs : List V} (h : SqT K H a xs) (s : ExtN H H') : SqT K H' a xs := by
  rcases h with (e | ⟨o, e⟩) | z
  · exact .inl (.inl (s _ _ e fun ps z => by cases z))
  · exact .inl (.inr ⟨o, s _ _ e fun ps z => by cases z⟩)
  · exact .inr z
theorem SqL.ext {K : PySem.W.Frag} {H H' : Hp} {a : Addr} {xs : List V} (h : SqL K H a xs) (s : ExtN H H') : SqL K H' a xs := by
  rcases h with (e | ⟨o, e⟩) | z
  · exact .inl (.inl (s _ _ e fun ps z => by cases z))
  · exact .inl (.inr ⟨o, s _ _ e fun ps z => by cases z⟩)
  · exact .inr z
theorem TyX.ext {K : PySem.W.Frag} {H H' : Hp} {y : V} {t : Value} (h : TyX K H y t) (s : ExtN H H') : TyX K H' y t := by
  cases h with
  | base b => cases b with
    | non => exact .base .non
    | bl y => exact .base (.bl y)
    | int i => exact .base (.int i)
    | str y => exact .base (.str y)
    | flt y => exact .base (.flt y)
    | lst e => exact .base (.lst (s _ _ e fun ps z => by cases z))
    | frz e => exact .base (.frz (s _ _ e fun ps z => by cases z))
    | tup e => exact .base (.tup (s _ _ e fun ps z => by cases z))
    | dK e => exact .base (.dK (s _ _ e fun ps z => by cases z))
    | dT e => exact .base (.dT (s _ _ e fun ps z => by cases z))
    | ins e a b c d f => exact .base (.ins (s _ _ e fun ps z => by cases z) a b c d f)
  | byt b => exact .byt b
  | set e => exact .set (s _ _ e fun ps z => by cases z)
  | kList e c => exact .kList e c
  | kTuple e c => exact .kTuple e c
  | kDict e c => exact .kDict e c
  | fTuple e => exact .fTuple (s _ _ e fun ps z => by cases z)
  | fDict e => exact .fDict (s _ _ e fun ps z => by cases z)
/-- the tables stay where the pen alone is written -/
theorem Tabs.pen {T : List (Addr × Str)} {H H' : Hp} {p c : Addr} {m : Nat} (h : Tabs T H) (hp : PenAt H p c m) (b : But p H H') : Tabs T H' := fun q hq => by
  obtain ⟨ps, h1, h2, h3⟩ := h q hq
  refine ⟨ps, b _ _ (pen_ne hp h1 fun c pl r z => by cases z) h1, h2, fun pos cv e => ?_⟩
  obtain ⟨c', e1, e2⟩ := h3 pos cv e
  exact ⟨c', e1, b _ _ (pen_ne hp e2 fun c pl r z => by unfold CodeO at z; cases z) e2⟩
abbrev lamQ (x : Str) (st : Stmt) : Str := (envOfC x (defScope st) 0 0 .none).qual ++ "<lambda>"
structure TabT (K : PySem.W.Frag) (mg : Str → Option Value) (base : Heap) (T : List (Addr × Str)) (x : Str) (st : Stmt) (c Pt : Addr) : Prop where
  lt : LamT K mg base x c Pt
  hT : (Pt, lamQ x st) ∈ T
  one : ∀ p ∈ T, p.1 = Pt → p.2 = lamQ x st
section
variable {P : Program} {w : World} {K : PySem.W.Frag} {mg : Str → Option Value} {base : Heap}
theorem passN {X : Cx} {A : Around} {outer : List Env} {s : Shared} {H : Hp} {E : XK} {sc : Scope} {f c : Addr} : Passes (L2N.CX X.prog X.w) (lamN X A outer s H E sc f c) E := L2N.passes_call (L2N.takes_of rfl rfl rfl rfl) fun _ _ _ _ h => h
end
theorem PenAt.ext {H H' : Hp} {p c : Addr} {n : Nat} (h : PenAt H p c n) (k : ExtN H H') : PenAt H' p c n := by
  obtain ⟨pl, r, cs, h1, h2, h3, h4, h5⟩ := h.ex
  exact ⟨pl, r, cs, k _ _ h1 (fun ps z => by cases z), k _ _ h2 (fun ps z => by cases z), h3, h4, h5⟩
structure R02 (K : PySem.W.Frag) (mg : Str → Option Value) (IP SK TM IK FE : Addr) : Prop where
  p : XcF K mg "InvalidPlan" "value" IP FE
  s : XcF K mg "SameKind" "kind" SK FE
  t : XcF K mg "TooMany" "most" TM FE
  k : XcF K mg "InvalidKind" "value" IK FE
  gF : mg "FloorError" = some (.ref FE)
  m11 : PySem.W.exmOne K (.ref IP) (.ref IP) = some true
  m21 : PySem.W.exmOne K (.ref SK) (.ref IP) = some false
  m22 : PySem.W.exmOne K (.ref SK) (.ref SK) = some true
  m31 : PySem.W.exmOne K (.ref TM) (.ref IP) = some false
  m32 : PySem.W.exmOne K (.ref TM) (.ref SK) = some false
  m33 : PySem.W.exmOne K (.ref TM) (.ref TM) = some true
  m41 : PySem.W.exmOne K (.ref IK) (.ref IP) = some false
  m42 : PySem.W.exmOne K (.ref IK) (.ref SK) = some false
  m43 : PySem.W.exmOne K (.ref IK) (.ref TM) = some false
  m44 : PySem.W.exmOne K (.ref IK) (.ref IK) = some true
def errT (IP SK TM IK : Addr) (Q : VK) : XK := fun cls d G => ∃ (D : Addr) (fl x : Str) (dd : Addr) (v : V), ((D = IP ∧ fl = "value" ∧ x = "plan") ∨ (D = SK ∧ fl = "kind" ∧ x = "same") ∨ (D = TM ∧ fl = "most" ∧ x = "many") ∨ (D = IK ∧ fl = "value" ∧ x = "kind")) ∧ cls = .ref D ∧ d = some dd ∧ G dd = some (.xd [(fl, v)]) ∧
  ∀ tq G', G' tq = some (.tup [.str x, v]) → L2.Same G G' → Q (.ref tq) G'
def TTold (IP SK TM IK : Addr) : (XK → Hp → VK → Prop) → Hp → VK → Prop := fun tl H Q => tl (errT IP SK TM IK Q) H fun _ G => Q .non G
abbrev nTd : List Str := ["_law_ask", "e"]
theorem sc_td : FnScope nTd ["_law_ask"] (defScope s_law_told) := ⟨rfl, rfl, rfl, by decide +kernel, rfl, by decide +kernel, by decide +kernel⟩
abbrev tsE (D : Addr) (fl x : Str) : Addr → Value → Option Addr → TS := fun ea cls d => tRet (tTup (tCons (tC (.str x)) (tCons (tXf ea cls d D fl (tVar 1)) tNil)))
section
variable {X : Cx} {C IP SK TM IK FE : Addr}
theorem pss_exi {X : Cx} {α : Sort _} {b : List Stmt} {t : α → TS} (h : ∀ a, PSs X b (t a)) : PSs X b (fun D σ H => ∃ a, t a D σ H) := ⟨fun pins s σ H D I ⟨a, q⟩ => (h a).run pins s σ H D I q⟩
theorem ts_read {K : PySem.W.Frag} {mg : Str → Option Value} {D : Addr} {fl x nm : Str} {ea : Addr} {DD : Ends} {u0 : Option V} {dd : Addr} {v : V} {G : Hp} (R : XcF K mg nm fl D FE) (gd : G dd = some (.xd [(fl, v)])) (q : ∀ tq G', G' tq = some (.tup [.str x, v]) → L2.Same G G' → DD.rt (.ref tq) G') :
    tsE D fl x ea (.ref D) (some dd) DD ([u0, some (.ref ea)]) G := by
  refine ⟨_, rfl, rfl, rfl, dd, _, v, rfl, gd, ?_, ?_⟩
  · rw [List.lookup_cons, show (fl == fl) = true from beq_self_eq_true fl]
  exact ⟨(by show 2 ≤ sizeLine; exact len_line (by decide)), fun tq htq => q tq _ upd_same (same_new htq)⟩
theorem told_gives {g : Addr} {cd : Value} {qn : Str} (R : R02 X.K X.mg IP SK TM IK FE) : GivesN X nTd "_law_told" (defScope s_law_told) g cd (defBody s_law_told) "_law_ask" qn (TTold IP SK TM IK) := by
  intro f c s H Q tl hr act hc h
  refine ⟨_, pss_cons (L2N.ps_try_asL (X := (cxOf C8.CX0 X.prog X.w X.K X.mg X.base nTd "_law_told" (defScope s_law_told) g cd X.A X.stack s H C8.E0).nox) (i := 1)
      (tb := fun W D σ H => ∃ E : XK, tDrop (fun τ G Q => (∀ cls d G1, E cls d G1 → W cls d τ G1) ∧ τ[0]? = some (some (.ref f)) ∧ G c = some (CodeO c qn) ∧ tl E G Q) D σ H)
      (l := [(.ref IP, tsE IP "value" "plan"), (.ref SK, tsE SK "kind" "same"), (.ref TM, tsE TM "most" "many"), (.ref IK, tsE IK "value" "kind"), (.ref FE, fun _ _ _ => tRet (tTup (tCons (tC (.str "other")) (tCons (tC (.int 0)) tNil))))]) rfl rfl sc_td.nd rfl rfl takesN0
        (fun W pn xe tk _ => pss_exi fun E => pss_one (ps_expr (act W pn xe E _ _ tk)))
        (.cons ⟨by rfl, by decide, .inl R.p.g⟩ (fun ea oe cls d pn hz hf => pss_one (ps_ret (pe_tup (pa_cons pe_str (pa_cons (pe_xf R.p.xf R.p.nf hz.zc hf (pv 1)) pa_nil)))))
        (.cons ⟨by rfl, by decide, .inl R.s.g⟩ (fun ea oe cls d pn hz hf => pss_one (ps_ret (pe_tup (pa_cons pe_str (pa_cons (pe_xf R.s.xf R.s.nf hz.zc hf (pv 1)) pa_nil)))))
        (.cons ⟨by rfl, by decide, .inl R.t.g⟩ (fun ea oe cls d pn hz hf => pss_one (ps_ret (pe_tup (pa_cons pe_str (pa_cons (pe_xf R.t.xf R.t.nf hz.zc hf (pv 1)) pa_nil)))))
        (.cons ⟨by rfl, by decide, .inl R.k.g⟩ (fun ea oe cls d pn hz hf => pss_one (ps_ret (pe_tup (pa_cons pe_str (pa_cons (pe_xf R.k.xf R.k.nf hz.zc hf (pv 1)) pa_nil)))))
        (.cons ⟨by rfl, by decide, .inl R.gF⟩ (fun ea oe cls d pn hz hf => pss_one (ps_ret (pe_tup (pa_cons pe_str (pa_cons pe_int pa_nil))))) .nil))))))
      (pss_one (ps_ret pe_non)), ?_⟩
  refine ⟨errT IP SK TM IK Q, fun cls d G he => ?_, rfl, hc, h⟩
  obtain ⟨D, fl, x, dd, v, hD, rfl, rfl, gd, q⟩ := he
  rcases hD with ⟨rfl, rfl, rfl⟩ | ⟨rfl, rfl, rfl⟩ | ⟨rfl, rfl, rfl⟩ | ⟨rfl, rfl, rfl⟩
  · exact ⟨true, R.m11, fun _ ea hea => ts_read R.p gd q, fun z => nomatch z⟩
  · exact ⟨false, R.m21, (fun z => nomatch z), fun _ => ⟨true, R.m22, fun _ ea hea => ts_read R.s gd q, fun z => nomatch z⟩⟩
  · exact ⟨false, R.m31, (fun z => nomatch z), fun _ => ⟨false, R.m32, (fun z => nomatch z), fun _ => ⟨true, R.m33, fun _ ea hea => ts_read R.t gd q, fun z => nomatch z⟩⟩⟩
  · exact ⟨false, R.m41, (fun z => nomatch z), fun _ => ⟨false, R.m42, (fun z => nomatch z), fun _ => ⟨false, R.m43, (fun z => nomatch z), fun _ => ⟨true, R.m44, fun _ ea hea => ts_read R.k gd q, fun z => nomatch z⟩⟩⟩⟩
theorem pe_told {T : List (Addr × Str)} {c P : Addr} {k : Nat} {pa : Arguments} {bo : Expr} {sc : Scope} {t : XK → TE} {p lp pos : Pos} (F : D X.K X.mg "_law_told" s_law_told []) (R : R02 X.K X.mg IP SK TM IK FE)
    (hg : Gl X "_law_told") (TB : TabB X.base X.mg c P) (hcode : X.env.code = .ref c) (hT : (P, X.env.qual ++ "<lambda>") ∈ T) (one : ∀ p ∈ T, p.1 = P → p.2 = X.env.qual ++ "<lambda>") (hr : L2.Room (k + 2) X.A) (k8 : 8 ≤ k + 1) (L : LamS X.env.scope sc) (dflt : defaultsOf pa X.env = ([], []))
    (bind : ∀ (q : Str) (cl : List (Str × Addr)) (pm cv ctv : Value), bindArgs (PySem.W.kla_fn "<lambda>" q pa bo sc cl pm cv ctv) ⟨[], []⟩ = pure [])
    (body : ∀ (A : Around) (outer : List Env) (s : Shared) (H : Hp) (E : XK) (f c : Addr), L2.Room k (A.deeper (lamEnv X sc s.heap.objs.size f c)) → PE (lamN X A outer s H E sc f c) bo (t E)) :
    PE X (.Call (.Name "_law_told" p) [.Lambda pa bo sc lp] [] pos) (tLam T (TTold IP SK TM IK) t) := by
  obtain ⟨f, fd, F, g⟩ := F.ex
  have b := F.bindsN (ps := ["_law_ask"]) fun _ _ _ _ _ _ us hl => match us, hl with | [_], _ => rfl
  obtain ⟨oc, od, dV, kV, doc, pm, an, cdv, ct, osl, rfl, lk, hcd, _, _⟩ := F.ex
  exact pe_lamN hg g F.kp lk hcd b sc_td rfl (.inl rfl) (told_gives R) k8 TB hcode hT one hr L dflt bind body (by decide) (by decide) (by decide)
end
end TX
end
section
set_option maxRecDepth 100000
set_option maxHeartbeats 8000000
/-! _law_like; None or a tuple, compared -/
namespace TX
open PySem PySem.Spec PyProof.Rows L2 LamX SX CW
/-- None, or a tuple of a text and a value -/
def SameT (K : PySem.W.Frag) (H : Hp) (x y : V) : Prop := (x = .non ∧ y = .non) ∨ ∃ (a b : Addr) (tag : Str) (v : V), x = .ref a ∧ y = .ref b ∧ SqT K H a [.str tag, v] ∧ SqT K H b [.str tag, v] ∧ plainV v = true
theorem plain2 {tag : Str} {v : V} (h : plainV v = true) : ∀ u ∈ [V.str tag, v], plainV u = true := fun u hu => by
  rcases List.mem_cons.mp hu with e | hu
  · rw [e]; rfl
  · rw [List.mem_singleton.mp hu]; exact h
theorem op_neNT {X : Cx} (hu : X.A.units < cLine) : OpR X (compareOp .NotEq) (fun x y H Q => SameT X.K H x y ∧ Q (.bl false) H) := by
  intro pins s σ H x y v u Q I rx ry h
  obtain ⟨⟨rfl, rfl⟩ | ⟨a, b, tag, v', rfl, rfl, h1, h2, h3⟩, q⟩ := h
  · exact op_ne pins s σ H _ _ v u Q I rx ry ⟨rfl, q⟩
  · exact op_neTup hu pins s σ H _ _ v u Q I rx ry ⟨a, b, _, rfl, rfl, h1, h2, plain2 h3, q⟩
theorem op_eqNT {X : Cx} (hu : X.A.units < cLine) : OpR X (compareOp .Eq) (fun x y H Q => SameT X.K H x y ∧ Q (.bl true) H) := by
  intro pins s σ H x y v u Q I rx ry h
  obtain ⟨⟨rfl, rfl⟩ | ⟨a, b, tag, v', rfl, rfl, h1, h2, h3⟩, q⟩ := h
  · exact op_eq pins s σ H _ _ v u Q I rx ry ⟨rfl, q⟩
  · exact op_eqTup hu pins s σ H _ _ v u Q I rx ry ⟨a, b, _, rfl, rfl, h1, h2, plain2 h3, q⟩
def spLike (K : PySem.W.Frag) : Sp := fun vs H Q _ => ∃ x y : V, vs = [x, y] ∧ ((x = .non ∧ y = .non) ∨ ∃ (a b : Addr) (tag : Str) (v : V) (t : Value) (bb : Bool), x = .ref a ∧ y = .ref b ∧ SqT K H a [.str tag, v] ∧ SqT K H b [.str tag, v] ∧ plainV v = true ∧ TyX K H v t ∧ PySem.W.kitOne K t (.type "bool") = some bb) ∧ Q (.bl true) H
theorem sc_like : FnScope ["_law_one", "_law_other"] ["_law_one", "_law_other"] (defScope s_law_like) := ⟨rfl, rfl, rfl, by decide +kernel, rfl, by decide +kernel, by decide +kernel⟩
section
variable {P : Program} {w : World} {K : PySem.W.Frag} {mg : Str → Option Value} {base : Heap}
theorem ok_like (F : D K mg "_law_like" s_law_like []) (zi : mg "isinstance" = none) (zb : mg "bool" = none) : C8.Cal P w K mg base 1 "_law_like" (spLike K) [] := by
  refine F.cal (ps := ["_law_one", "_law_other"]) sc_like (fun f fd F => F.bindsN fun _ _ _ _ _ _ us hl => match us, hl with | [_, _], _ => rfl) (fun vs H Q E h => ?_) (fun f cdv A outer s H vs Q E hr h => ?_)
  · obtain ⟨x, y, rfl, _⟩ := h
    rfl
  · obtain ⟨x, y, rfl, h, q⟩ := h
    refine ⟨_, pss_cons (ps_if (PW.pt (pw_or (pt_cmpR op_isN (pv 0) pe_non (nomark _)) (pw_or1 (pt_cmpR op_isN (pv 1) pe_non (nomark _))))) (pss_one (ps_ret (pe_and (pe_cmpR op_isN (pv 0) pe_non (nomark _)) (pe_one (pe_cmpR op_isN (pv 1) pe_non (nomark _)))))) pss_nil)
      (pss_one (ps_ret (pe_and (pe_cmpR (op_eqTup (Nat.lt_of_succ_lt (hu_of hr))) (pv 0) (pv 1) (nomark _)) (pe_one (pe_cmpR op_eq (pe_callB call_isi (by rfl) zi PyProof.Rows.boot_isinstance (pa_cons (pe_ix (r := rIxT K) ix_tup (pv 0) pe_int (fun _ _ => rfl)) (pa_cons (pe_bltn (v := .ty "bool") (by rfl) zb (by decide +kernel) rfl) pa_nil)))
          (pe_callB call_isi (by rfl) zi PyProof.Rows.boot_isinstance (pa_cons (pe_ix (r := rIxT K) ix_tup (pv 1) pe_int (fun _ _ => rfl)) (pa_cons (pe_bltn (v := .ty "bool") (by rfl) zb (by decide +kernel) rfl) pa_nil))) (nomark _)))))), ?_⟩
    rcases h with ⟨rfl, rfl⟩ | ⟨a, b, tag, v, t, bb, rfl, rfl, h1, h2, h3, ty, kt⟩
    · refine ⟨_, rfl, rfl, _, rfl, iteT ?_⟩
      exact ⟨_, rfl, rfl, _, rfl, iteT ⟨_, rfl, rfl, q⟩⟩
    · refine ⟨_, rfl, rfl, _, rfl, iteF ?_⟩
      refine ⟨_, rfl, rfl, _, rfl, iteF ?_⟩
      refine ⟨_, rfl, _, rfl, a, b, _, rfl, rfl, h1, h2, plain2 h3, _, rfl, iteT ?_⟩
      have at1 : atI [V.str tag, v] 1 = some v := by
        show atI [V.str tag, v] ((1 : Nat) : Int) = _
        exact atI_nat rfl
      refine ⟨_, rfl, a, _, 1, v, rfl, rfl, h1, at1, _, _, t, .type "bool", bb, rfl, .ty _, ty, kt, _, rfl, b, _, 1, v, rfl, rfl, h2, at1, _, _, t, .type "bool", bb, rfl, .ty _, ty, kt, rfl, ?_⟩
      rw [decide_eq_true rfl]
      exact q
end
end TX
end
section
set_option maxRecDepth 100000
set_option maxHeartbeats 4000000
/-! text[a::k], both reckoned -/
namespace TX
open PySem PySem.Spec PyProof.Rows L2 SX CW PySem.Builtin.Str
/-- the letters from the place a on, each k-th one -/
def stepL (z : List Nat) (a k : Int) : List Nat := (strSliceIndices (some a) none k z.length).filterMap (z[·]?)
def tStepS (te ta tk : TE) : TE := fun σ H Q => te σ H fun x H1 => ta σ H1 fun y H2 => tk σ H2 fun u H3 => ∃ (z : List Nat) (a k : Int), x = .str (S z) ∧ y = .int a ∧ u = .int k ∧ k ≠ 0 ∧ -(2 ^ 63) ≤ a ∧ a < 2 ^ 63 ∧ -(2 ^ 63) < k ∧ k < 2 ^ 63 ∧ z.length ≤ 1000000 ∧ (stepL z a k).length ≤ 1000000 ∧
  ((k = 1 ∧ (strSliceIndices (some a) none k z.length).length = z.length) → stepL z a k = z) ∧ Q (.str (S (stepL z a k))) H3
section
variable {X : Cx} {e lo st : Expr} {te ta tk : TE} {p2 pos : Pos}
theorem pe_stepS (he : PE X e te) (hl : PE X lo ta) (hs : PE X st tk) : PE X (.Subscript e (.Slice (some lo) none (some st) p2) pos) (tStepS te ta tk) := by
  refine ⟨fun pins s σ H Q I h => ?_⟩
  refine Subscript_ (thn (he.run pins s σ H _ I h) fun v s1 ⟨x, H1, I1, r1, q1⟩ => ?_)
  refine wpAny_Slice ?_
  rw [evalPart_some]
  refine thn (hl.run pins s1 σ H1 _ I1 q1) fun va s2 ⟨y, H2, I2, r2, q2⟩ => ?_
  rw [evalPart_none]
  refine wpAny_pure ?_
  rw [evalPart_some]
  refine thn (hs.run pins s2 σ H2 _ I2 q2) fun vs s3 ⟨u, H3, I3, r3, z, a, k, ex, ey, eu, k0, b1, b2, b3, b4, hz, hz2, hk, q⟩ => ?_
  subst ex
  subst ey
  subst eu
  obtain ⟨t, rfl⟩ := r1
  obtain ⟨ta', rfl⟩ := r2
  obtain ⟨tk', rfl⟩ := r3
  have I4 : Inv X pins σ H3 { s3 with heap := s3.heap.push { cls := .type "slice", data := .fields #[.int a ta', .none, .int k tk'] } } := I3.kept (t' := s3.toks) fun b ob q => Heap.get?_push_of_some _ q
  show wpAny (model X.prog X.w) X.A (subscriptTail e (.Slice (some lo) none (some st) p2) (.str (S z) t) (.ref s3.heap.objs.size)) (EP X pins σ Q) X.xe _
  refine tail_any (ops := [.ref s3.heap.objs.size, .str (S z) t]) (typeIs_str _ _ _) F.slot_str_getitem.lookup ?_ (by with_unfolding_all rfl)
  refine wpAny_getItem_str_slice (l := some (a, ta')) (u := none) (st := some (k, tk')) ⟨_, Heap.get?_push_size _ rfl, rfl, rfl⟩ ?_ ?_
  · show (k == 0) = false
    exact beq_eq_false_iff_ne.mpr k0
  show Made.post (if (k == 1 && (strSliceIndices (some a) none k (S z).length).length == (S z).length) = true then Made.val (.str (S z) t)
    else Made.str ⟨((strSliceIndices (some a) none k (S z).length).filterMap ((S z).cps[·]?)).toArray⟩) (EP X pins σ Q) _
  have ep : (strSliceIndices (some a) none k (S z).length).filterMap ((S z).cps[·]?) = stepL z a k := by
    rw [S_len]
    unfold stepL
    congr 1
    funext i
    simp [S]
  rw [ep]
  by_cases c : (k == 1 && (strSliceIndices (some a) none k (S z).length).length == (S z).length) = true
  · rw [if_pos c]
    rw [Bool.and_eq_true, beq_iff_eq, beq_iff_eq, S_len] at c
    rw [hk c] at q
    exact ⟨.str (S z), H3, I4.tok _, ⟨_, rfl⟩, q⟩
  · rw [if_neg c]
    exact ⟨by show (S (stepL z a k)).length ≤ _; rw [S_len]; exact len_line (by omega), .str (S (stepL z a k)), H3, I4.tok _, ⟨_, rfl⟩, q⟩
end
end TX
end
section
set_option maxRecDepth 100000
set_option maxHeartbeats 8000000
/-! _law_plan: drawn kinds, drawn pairs -/
namespace TX
open PySem PySem.Spec PyProof.Rows L2 SX CW
def azL : List Nat := [97, 98, 99, 100, 101, 102, 103, 104, 105, 106, 107, 108, 109, 110, 111, 112, 113, 114, 115, 116, 117, 118, 119, 120, 121, 122]
theorem az_S : ("abcdefghijklmnopqrstuvwxyz" : Str) = S azL := by decide +kernel
theorem steps {a : Nat} (ha : a < 3) {k : Int} (hk : k = 1 ∨ k = 3) : 8 ≤ (stepL azL a k).length ∧ (stepL azL a k).length ≤ 26 ∧ (stepL azL a k).Pairwise (· < ·) ∧ (∀ c ∈ (stepL azL a k).take 8, 97 ≤ c ∧ c ≤ 120) ∧ ((k = 1 ∧ (Builtin.Str.strSliceIndices (some (a : Int)) none k azL.length).length = azL.length) → stepL azL a k = azL) := by
  have h : a = 0 ∨ a = 1 ∨ a = 2 := by omega
  rcases h with rfl | rfl | rfl <;> rcases hk with rfl | rfl <;> decide +kernel
/-- drawn kinds and pairs -/
structure PlanL (ks : List Nat) (es : List Str) : Prop where
  up : ks.Pairwise (· < ·)
  abc : ∀ k ∈ ks, 97 ≤ k ∧ k ≤ 120
  l8 : ks.length ≤ 8
  pr : ∀ e ∈ es, ∃ a b, e = S [a, b] ∧ a ∈ ks ∧ b ∈ ks ∧ a < b
  le : es.length ≤ 56
def spPlanD : Sp := fun vs H Q _ => ∃ (p c : Addr) (m : Nat), vs = [.ref p, .int 8] ∧ PenAt H p c m ∧ m ≤ 1000000 ∧
  ∀ (tq pl : Addr) (ks : List Nat) (es : List Str) (H' : Hp), PlanL ks es → H' tq = some (.tup [.str (S ks), .ref pl]) → H' pl = some (.lst (es.map V.str)) → H pl = none → PenAt H' p c (m + 100) → But p H H' → Q (.ref tq) H'
abbrev nPlanD : List Str := ["_law_pen_here", "_law_most", "_law_many", "_law_letters", "_law_step", "_law_front", "_law_kinds", "_law_lot", "_law_pairs", "_law_i", "_law_j", "_law_near", "_law_sorts", "_law_told_here"]
theorem sc_pland : FnScope nPlanD ["_law_pen_here", "_law_most"] (defScope s_law_plan) := ⟨rfl, rfl, rfl, by decide +kernel, rfl, by decide +kernel, by decide +kernel⟩
theorem pe_imp {X : Cx} {e : Expr} {t t' : TE} (h : PE X e t) (i : ∀ σ H Q, t' σ H Q → t σ H Q) : PE X e t' := ⟨fun pins s σ H Q I q => h.run pins s σ H Q I (i _ _ _ q)⟩
/-- three numbers in their places; some truth is told -/
def tTruth : TE := fun σ H Q => (∃ i j n : Int, σ[9]? = some (some (.int i)) ∧ σ[10]? = some (some (.int j)) ∧ σ[2]? = some (some (.int n))) ∧ ∀ b, Q (.bl b) H
def tTruth2 : TE := fun σ H Q => (∃ (i j : Int) (b : Bool), σ[9]? = some (some (.int i)) ∧ σ[10]? = some (some (.int j)) ∧ σ[11]? = some (some (.bl b))) ∧ ∀ b, Q (.bl b) H
def GoodP (ks : List Nat) (es : List Str) : Prop := ∀ e ∈ es, ∃ a b, e = S [a, b] ∧ a ∈ ks ∧ b ∈ ks ∧ a < b
theorem good_snoc {ks : List Nat} {es : List Str} {a b : Nat} (g : GoodP ks es) (ha : a ∈ ks) (hb : b ∈ ks) (lt : a < b) : GoodP ks (es ++ [S [a, b]]) := fun e he => by
  rcases List.mem_append.mp he with h | h
  · exact g e h
  · rw [List.mem_singleton.mp h]
    exact ⟨a, b, rfl, ha, hb, lt⟩
/-- a list of texts is written: the pen stands -/
theorem PenAt.fresh2 {H : Hp} {p c pr : Addr} {m : Nat} {es : List Str} {o : HO} (h : PenAt H p c m) (g : H pr = some (.lst (es.map V.str))) (n : pr ≠ c) : PenAt (upd H pr o) p c m := by
  obtain ⟨pl, r, cs, h1, h2, h3, h4, h5⟩ := h.ex
  have n1 : p ≠ pr := fun z => by rw [z, g] at h1; cases h1
  exact ⟨pl, r, cs, by rw [upd_ne n1]; exact h1, by rw [upd_ne n.symm]; exact h2, h3, h4, h5⟩
theorem rIx5 {K : PySem.W.Frag} {e : Addr} {sd : Nat} {b1 b2 b3 b4 b5 : Bool} {G : Hp} {Q : VK} (h : sd < 5) (he : G e = some (.lst [.bl b1, .bl b2, .bl b3, .bl b4, .bl b5])) (q : ∀ b, Q (.bl b) G) : rIxL K (.ref e) (.int (sd : Int)) G Q := by
  have : ∃ b, ([.bl b1, .bl b2, .bl b3, .bl b4, .bl b5] : List V)[sd]? = some (.bl b) := by
    match sd, h with
    | 0, _ => exact ⟨_, rfl⟩
    | 1, _ => exact ⟨_, rfl⟩
    | 2, _ => exact ⟨_, rfl⟩
    | 3, _ => exact ⟨_, rfl⟩
    | 4, _ => exact ⟨_, rfl⟩
    | n + 5, h => exact absurd h (by omega)
  obtain ⟨b, hb⟩ := this
  exact ⟨e, _, _, .bl b, rfl, rfl, SqL.of he, atI_nat hb, q b⟩
section
variable {P : Program} {w : World} {K : PySem.W.Frag} {mg : Str → Option Value} {base : Heap}
theorem ok_pland (F : D K mg "_law_plan" s_law_plan []) (cD : C8.Cal P w K mg base 1 "_law_draw" spDraw []) (cP : C8.Cal P w K mg base 2 "_law_pick" spPick []) (zr : mg "range" = none) : C8.Cal P w K mg base 3 "_law_plan" spPlanD [] := by
  refine F.cal (ps := ["_law_pen_here", "_law_most"]) sc_pland (fun f fd F => F.bindsN fun _ _ _ _ _ _ us hl => match us, hl with | [_, _], _ => rfl) (fun vs H Q E h => ?_) (fun f cdv A outer s H vs Q E hr h => ?_)
  · obtain ⟨p, c, m, rfl, _⟩ := h
    rfl
  · obtain ⟨p, c, m, rfl, hp, hm, q⟩ := h
    have hu := hu_of hr
    refine ⟨_, pss_cons (ps_set (i := 2) sc_pland.nd rfl (.inl rfl) (C8.pe_c cD hr (by decide) (by rfl) (pa_cons (pv 0) (pa_cons (pe_op op_add (pv 1) pe_int) pa_nil))))
      (pss_cons (ps_set (i := 3) sc_pland.nd rfl (.inl rfl) pe_str)
      (pss_cons (ps_par (i := 4) (j := 5) (by rfl) sc_pland.nd rfl rfl (by decide) rfl rfl (pa_cons (C8.pe_c cP hr (by decide) (by rfl) (pa_cons (pv 0) (pa_cons (pe_lst (pa_cons pe_int (pa_cons pe_int (pa_cons pe_int pa_nil)))) pa_nil))) (pa_cons (C8.pe_c cD hr (by decide) (by rfl) (pa_cons (pv 0) (pa_cons pe_int pa_nil))) pa_nil)) (by rfl))
      (pss_cons (ps_set (i := 6) sc_pland.nd rfl (.inl rfl) (pe_slice sl_str (pe_stepS (pv 3) (pv 5) (pv 4)) po_none (po_some (pv 2))))
      (pss_cons (ps_set (i := 7) sc_pland.nd rfl (.inl rfl) (C8.pe_c cD hr (by decide) (by rfl) (pa_cons (pv 0) (pa_cons pe_int pa_nil))))
      (pss_cons (ps_set (i := 8) sc_pland.nd rfl (.inl rfl) (pe_lst pa_nil))
      (pss_cons (ps_for PassesOwn.never rfl (pi_range1 rfl zr (pa_cons (pv 2) pa_nil)) (pg_name (i := 9) sc_pland.nd rfl (.inl rfl))
        (pss_one (ps_for PassesOwn.never rfl (pi_range2 rfl zr (pa_cons (pe_op op_add (pv 9) pe_int) (pa_cons (pv 2) pa_nil))) (pg_name (i := 10) sc_pland.nd rfl (.inl rfl))
          (pss_cons (ps_set (i := 11) sc_pland.nd rfl (.inl rfl) (pe_imp (t' := tTruth) (pe_or (pe_cmpR op_eq (pv 10) (pe_op op_add (pv 9) pe_int) (nomark _)) (pe_one (pe_and (pe_cmpR op_eq (pv 9) pe_int (nomark _)) (pe_and (pe_cmpR op_eq (pv 10) (pe_op op_sub (pv 2) pe_int) (nomark _)) (pe_one (pe_cmpR op_gt (pv 2) pe_int (nomark _))))))) (fun σ H Q h => by
            obtain ⟨⟨i, j, n, h1, h2, h3⟩, q⟩ := h
            refine ⟨_, h2, _, h1, _, _, rfl, rfl, rfl, _, rfl, ite2 (fun _ => q _) (fun _ => ?_)⟩
            refine ⟨_, h1, rfl, _, rfl, ite2 (fun _ => ?_) (fun _ => q _)⟩
            refine ⟨_, h2, _, h3, _, _, rfl, rfl, rfl, _, rfl, ite2 (fun _ => ?_) (fun _ => q _)⟩
            exact ⟨_, h3, _, _, rfl, rfl, q _⟩)))
          (pss_cons (ps_set (i := 12) sc_pland.nd rfl (.inl rfl) (pe_lst (pa_cons (pv 11) (pa_cons (pe_imp (t' := tTruth2) (pe_and (pv 11) (pe_one (pe_cmpR op_eq (pv 10) (pe_op op_add (pv 9) pe_int) (nomark _)))) (fun σ H Q h => by
            obtain ⟨⟨i, j, b, h1, h2, h3⟩, q⟩ := h
            refine ⟨_, h3, _, rfl, ite2 (fun _ => ?_) (fun _ => q _)⟩
            exact ⟨_, h2, _, h1, _, _, rfl, rfl, rfl, q _⟩)) (pa_cons pe_bl (pa_cons pe_bl (pa_cons (pe_cmpR op_gt (pe_op op_sub (pv 10) (pv 9)) pe_int (nomark _)) pa_nil)))))))
          (pss_cons (ps_set (i := 13) sc_pland.nd rfl (.inl rfl) (pe_ifExp (pt_cmpR op_lt (pv 7) pe_int (nomark _)) (pe_ix (r := rIxL K) ix_list (pv 12) (pv 7) (fun _ _ => rfl)) (pe_cmpR op_eq (C8.pe_c cD hr (by decide) (by rfl) (pa_cons (pv 0) (pa_cons pe_int pa_nil))) pe_int (nomark _))))
          (pss_one (ps_if (pt_val (pv 13)) (pss_one (ps_expr (pe_bm PySem.F.plainAttrs_list PySem.F.slot_list_append PySem.F.type_list_append mt_append (pv 8) (pa_cons (pe_op op_add_str (pe_ix ix_str (pv 6) (pv 9) (fun _ _ => rfl)) (pe_ix ix_str (pv 6) (pv 10) (fun _ _ => rfl))) pa_nil)))) pss_nil))))))))
      (pss_one (ps_ret (pe_tup (pa_cons (pv 6) (pa_cons (pv 8) pa_nil))))))))))), ?_⟩
    rw [az_S]
    refine ⟨_, rfl, _, rfl, _, _, rfl, rfl, p, c, m, 9, rfl, hp, by decide, by decide, by omega, fun many H1 hmany hp1 b1 => ?_⟩
    refine ⟨_, rfl, (by show 3 ≤ sizeLine; exact len_line (by decide)), fun l hl => ?_⟩
    have s1 := same_new (o := .lst [V.int 1, V.int 1, V.int 3]) hl
    have g1 : (upd H1 l (.lst [V.int 1, V.int 1, V.int 3])) l = some (.lst [V.int 1, V.int 1, V.int 3]) := upd_same
    generalize (upd H1 l (.lst [V.int 1, V.int 1, V.int 3])) = H2 at s1 g1 ⊢
    refine ⟨p, c, l, m + 1, _, rfl, hp1.same s1, by omega, g1, by decide, by decide, fun i0 x H3 hx hp3 b3 => ?_⟩
    obtain ⟨st, rfl, hst⟩ : ∃ st : Int, x = .int st ∧ (st = 1 ∨ st = 3) := by
      match i0, hx with
      | 0, hx => exact ⟨1, (Option.some.inj hx).symm, .inl rfl⟩
      | 1, hx => exact ⟨1, (Option.some.inj hx).symm, .inl rfl⟩
      | 2, hx => exact ⟨3, (Option.some.inj hx).symm, .inr rfl⟩
    refine ⟨_, rfl, p, c, m + 2, 3, rfl, hp3, by decide, by decide, by omega, fun fr H4 hfr hp4 b4 => ?_⟩
    obtain ⟨k8, k26, kup, kab, kfull⟩ := steps hfr hst
    refine ⟨_, _, rfl, ?_⟩
    refine ⟨_, rfl, _, rfl, _, rfl, azL, (fr : Int), st, rfl, rfl, rfl, by omega, by omega, by omega, by omega, by omega, by decide, by omega, kfull, ?_⟩
    refine ⟨_, rfl, _, rfl, _, rfl, (by rw [S_len]; exact len_line (by omega)), ?_⟩
    rw [S_cutTo]
    have kl : ((stepL azL (fr : Int) st).take many).length = many := by rw [List.length_take]; omega
    have kup2 : ((stepL azL (fr : Int) st).take many).Pairwise (· < ·) := kup.sublist (List.take_sublist _ _)
    have kab2 : ∀ k ∈ (stepL azL (fr : Int) st).take many, 97 ≤ k ∧ k ≤ 120 := fun k hk => kab k (by
      rw [show (stepL azL (fr : Int) st).take many = ((stepL azL (fr : Int) st).take 8).take many from by rw [List.take_take, Nat.min_eq_left (by omega)]] at hk
      exact List.mem_of_mem_take hk)
    generalize (stepL azL (fr : Int) st).take many = ks at kl kup2 kab2 ⊢
    refine ⟨_, rfl, p, c, m + 3, 7, rfl, hp4, by decide, by decide, by omega, fun lot H5 hlot hp5 b5 => ?_⟩
    refine ⟨(by show 0 ≤ sizeLine; exact Nat.zero_le _), fun pr hpr => ?_⟩
    have bH5 : But p H H5 := (b1.trans (But.of s1)).trans (b3.trans (b4.trans b5))
    have npp : pr ≠ p := fun z => by
      obtain ⟨pl, r, cs, h1, _⟩ := hp5.ex
      rw [z, h1] at hpr
      cases hpr
    have hpr0 : H pr = none := bH5.none npp hpr
    have npc : pr ≠ c := fun z => by
      obtain ⟨pl, r, cs, _, h2, _⟩ := hp5.ex
      rw [z, h2] at hpr
      cases hpr
    have g6 : (upd H5 pr (.lst [])) pr = some (.lst (([] : List Str).map V.str)) := upd_same
    have gp6 : PenAt (upd H5 pr (.lst [])) p c (m + 4) := hp5.same (same_new hpr)
    have b6 : But p H (upd H5 pr (.lst [])) := bH5.fresh hpr0
    generalize (upd H5 pr (.lst [])) = H6 at g6 gp6 b6 ⊢
    refine ⟨_, rfl, _, rfl, by omega, by omega, ?_⟩
    refine for_range (lo := 0) (n := (many : Int).toNat) (fun i σ G => ∃ (es : List Str) (u9 u10 u11 u12 u13 : Option V), σ = [some (.ref p), some (.int 8), some (.int (many : Nat)), some (.str (S azL)), some (.int st), some (.int (fr : Nat)), some (.str (S ks)), some (.int (lot : Nat)), some (.ref pr), u9, u10, u11, u12, u13] ∧ GoodP ks es ∧ es.length ≤ 7 * i ∧ G pr = some (.lst (es.map V.str)) ∧ PenAt G p c (m + 4 + 8 * i) ∧ But p H G)
      ⟨[], none, none, none, none, none, rfl, (fun e he => by cases he), by simp, g6, gp6, b6⟩ ?_ ?_
    · rintro i σ G hi ⟨es, u9, u10, u11, u12, u13, rfl, gd, le, gpr, gp, bG⟩
      have hi' : i < many := by omega
      refine ⟨_, rfl, _, _, rfl, rfl, _, rfl, ?_⟩
      refine ⟨_, _, rfl, ⟨by omega, by omega, by omega, by omega⟩, ?_⟩
      refine for_range (lo := 0 + (i : Int) + 1) (n := ((many : Int) - (0 + (i : Int) + 1)).toNat) (fun j σ G => ∃ (es : List Str) (u10 u11 u12 u13 : Option V), σ = [some (.ref p), some (.int 8), some (.int (many : Nat)), some (.str (S azL)), some (.int st), some (.int (fr : Nat)), some (.str (S ks)), some (.int (lot : Nat)), some (.ref pr), some (.int (0 + (i : Int))), u10, u11, u12, u13] ∧ GoodP ks es ∧ es.length ≤ 7 * i + j ∧ G pr = some (.lst (es.map V.str)) ∧ PenAt G p c (m + 4 + 8 * i + j) ∧ But p H G)
        ⟨es, u10, u11, u12, u13, rfl, gd, by omega, gpr, gp, bG⟩ ?_ ?_
      · rintro j σ G hj ⟨es, u10, u11, u12, u13, rfl, gd, le, gpr, gp, bG⟩
        have hj' : i + 1 + j < ks.length := by omega
        have ha : ks[i]? = some ks[i] := List.getElem?_eq_getElem (by omega)
        have hb : ks[i + 1 + j]? = some ks[i + 1 + j] := List.getElem?_eq_getElem hj'
        have lt : ks[i]'(by omega) < ks[i + 1 + j] := List.pairwise_iff_getElem.mp kup2 i (i + 1 + j) (by omega) hj' (by omega)
        generalize ks[i]'(by omega) = a at ha lt
        generalize ks[i + 1 + j] = b at hb lt
        have hat1 : atI ks (0 + (i : Int)) = some a := by
          rw [show (0 : Int) + (i : Int) = ((i : Nat) : Int) from by omega]
          exact atI_nat ha
        have hat2 : atI ks (0 + (i : Int) + 1 + (j : Int)) = some b := by
          rw [show (0 : Int) + (i : Int) + 1 + (j : Int) = ((i + 1 + j : Nat) : Int) from by omega]
          exact atI_nat hb
        refine ⟨⟨_, _, _, rfl, rfl, rfl⟩, fun near => ?_⟩
        refine ⟨_, rfl, ⟨_, _, _, rfl, rfl, rfl⟩, fun n2 => ?_⟩
        refine ⟨_, rfl, _, rfl, _, _, rfl, rfl, _, _, rfl, rfl, (by show 5 ≤ sizeLine; exact len_line (by decide)), fun e he => ?_⟩
        have nep : pr ≠ e := ne_of_none gpr he
        generalize hE : upd G e (.lst [V.bl near, V.bl n2, V.bl false, V.bl true, V.bl (decide ((1 : Int) < 0 + (i : Int) + 1 + (j : Int) - (0 + (i : Int))))]) = GE
        have gE : GE e = some (.lst [V.bl near, V.bl n2, V.bl false, V.bl true, V.bl (decide ((1 : Int) < 0 + (i : Int) + 1 + (j : Int) - (0 + (i : Int))))]) := by rw [← hE]; exact upd_same
        have sE : L2.Same G GE := by rw [← hE]; exact same_new he
        have gprE := sE _ _ gpr
        have gpE := gp.same sE
        have bE := bG.trans (But.of sE)
        have lS : (S ks).length ≤ sizeLine := by rw [S_len]; exact len_line (by omega)
        refine ⟨_, rfl, _, _, rfl, rfl, _, rfl, ite2 (fun c1 => ⟨_, rfl, _, rfl, rIx5 (by have := of_decide_eq_true c1; omega) gE fun bb => ?_⟩) (fun _ => ⟨_, rfl, p, c, _, 2, rfl, gpE, by decide, by decide, by omega, fun d G1 hd gp1 bb1 => ⟨rfl, ?_⟩⟩)⟩
        · have gpF := gpE.mono (Nat.le_succ (m + 4 + 8 * i + j))
          refine ⟨_, rfl, _, rfl, ite2 (fun _ => ?_) (fun _ => ?_)⟩
          · refine ⟨_, rfl, .inl ⟨rfl, _, SqL.of gprE⟩, _, rfl, _, rfl, _, _, a, rfl, rfl, lS, hat1, _, rfl, _, rfl, _, _, b, rfl, rfl, lS, hat2, _, _, rfl, rfl, (by show 1 + 1 ≤ sizeLine; exact len_line (by decide)), pr, _, _, rfl, rfl, gprE, (by rw [List.length_map]; exact len_lt (by omega)), ?_⟩
            have ec : (⟨#[a]⟩ : Str) ++ ⟨#[b]⟩ = S [a, b] := S_cat [a] [b]
            rw [ec]
            refine ⟨es ++ [S [a, b]], _, _, _, _, rfl, good_snoc gd (List.mem_of_getElem? ha) (List.mem_of_getElem? hb) lt, by rw [List.length_append]; simp only [List.length_cons, List.length_nil]; omega, ?_, gpF.fresh2 gprE npc, ?_⟩
            · simp only [upd_same, List.map_append, List.map_cons, List.map_nil]
            · exact fun x o ne e1 => by rw [upd_ne (ne_of_none e1 hpr0)]; exact bE x o ne e1
          · exact ⟨es, _, _, _, _, rfl, gd, by omega, gprE, gpF, bE⟩
        · have gprF := bb1 _ _ npp gprE
          have bF := bE.trans bb1
          refine ⟨_, rfl, _, rfl, ite2 (fun _ => ?_) (fun _ => ?_)⟩
          · refine ⟨_, rfl, .inl ⟨rfl, _, SqL.of gprF⟩, _, rfl, _, rfl, _, _, a, rfl, rfl, lS, hat1, _, rfl, _, rfl, _, _, b, rfl, rfl, lS, hat2, _, _, rfl, rfl, (by show 1 + 1 ≤ sizeLine; exact len_line (by decide)), pr, _, _, rfl, rfl, gprF, (by rw [List.length_map]; exact len_lt (by omega)), ?_⟩
            have ec : (⟨#[a]⟩ : Str) ++ ⟨#[b]⟩ = S [a, b] := S_cat [a] [b]
            rw [ec]
            refine ⟨es ++ [S [a, b]], _, _, _, _, rfl, good_snoc gd (List.mem_of_getElem? ha) (List.mem_of_getElem? hb) lt, by rw [List.length_append]; simp only [List.length_cons, List.length_nil]; omega, ?_, gp1.fresh2 gprF npc, ?_⟩
            · simp only [upd_same, List.map_append, List.map_cons, List.map_nil]
            · exact fun x o ne e1 => by rw [upd_ne (ne_of_none e1 hpr0)]; exact bF x o ne e1
          · exact ⟨es, _, _, _, _, rfl, gd, by omega, gprF, gp1, bF⟩
      · rintro σ G ⟨es, u10, u11, u12, u13, rfl, gd, le, gpr, gp, bG⟩
        exact ⟨es, _, _, _, _, _, rfl, gd, by omega, gpr, gp.mono (by omega), bG⟩
    · rintro σ G ⟨es, u9, u10, u11, u12, u13, rfl, gd, le, gpr, gp, bG⟩
      refine ⟨_, rfl, _, rfl, (by show 2 ≤ sizeLine; exact len_line (by decide)), fun tq htq => ?_⟩
      have s9 := same_new (o := .tup [V.str (S ks), V.ref pr]) htq
      exact q tq pr ks es _ ⟨kup2, kab2, by omega, gd, by omega⟩ upd_same (s9 _ _ gpr) hpr0 ((gp.same s9).mono (by omega)) (bG.trans (But.of s9))
end
end TX
end
section
set_option maxRecDepth 100000
set_option maxHeartbeats 8000000
/-! _law_put_together, statement by statement -/
namespace TX
open PySem PySem.Spec PyProof.Rows L2 LamX SX CW
/-- all but the pen and the tables stays -/
def Keeps (p : Addr) (H H' : Hp) : Prop := ∀ b o, b ≠ p → H b = some o → (∀ ps, o ≠ .tbl ps) → H' b = some o
theorem Keeps.refl (p : Addr) (H : Hp) : Keeps p H H := fun _ _ _ h _ => h
theorem Keeps.trans {p : Addr} {H H1 H2 : Hp} (a : Keeps p H H1) (b : Keeps p H1 H2) : Keeps p H H2 := fun x o n h t => b x o n (a x o n h t) t
theorem Keeps.ext {p : Addr} {H H' : Hp} (e : ExtN H H') : Keeps p H H' := fun b o _ h t => e b o h t
theorem Keeps.same {p : Addr} {H H' : Hp} (e : L2.Same H H') : Keeps p H H' := fun b o _ h _ => e b o h
theorem Keeps.but {p : Addr} {H H' : Hp} (e : But p H H') : Keeps p H H' := fun b o n h _ => e b o n h
theorem kv_ne' {ks : List Nat} {f : Nat → List Nat} (c : Addr) (pl r : Int) : (.dK (kvK ks f) : HO) ≠ .dK (pkv c pl r) := by
  cases ks with
  | nil => intro e; cases e
  | cons a l => exact kv_ne (by simp) c pl r
theorem PlanAt.keeps {C : Addr} {H H' : Hp} {r p c : Addr} {m : Nat} {ks : List Nat} {X : Nat → Nat → Bool} (h : PlanAt C H r ks X) (hp : PenAt H p c m) (k : Keeps p H H') : PlanAt C H' r ks X := by
  obtain ⟨dx, tp, da, dl, h1, h2, h3, h4⟩ := h.ex
  have dk : ∀ {d : Addr} {f : Nat → List Nat}, DkAt H d (kvK ks f) → DkAt H' d (kvK ks f) := fun {d f} h => h.elim (fun e => .inl (k _ _ (pen_ne hp e fun c pl r => kv_ne' c pl r) e fun ps z => by cases z)) fun ⟨od, e⟩ => .inr ⟨od, k _ _ (pen_ne hp e fun c pl r z => by cases z) e fun ps z => by cases z⟩
  exact ⟨h.few, h.up, h.cr, h.abc, dx, tp, da, dl, k _ _ (pen_ne hp h1 fun c pl r z => by cases z) h1 (fun ps z => by cases z), k _ _ (pen_ne hp h2 fun c pl r z => by cases z) h2 (fun ps z => by cases z), dk h3, dk h4⟩
theorem SqT.keeps {K : PySem.W.Frag} {H H' : Hp} {a p c : Addr} {m : Nat} {xs : List V} (h : SqT K H a xs) (hp : PenAt H p c m) (s : Keeps p H H') : SqT K H' a xs := by
  rcases h with (e | ⟨o, e⟩) | z
  · exact .inl (.inl (s _ _ (pen_ne hp e fun c pl r z => by cases z) e fun ps z => by cases z))
  · exact .inl (.inr ⟨o, s _ _ (pen_ne hp e fun c pl r z => by cases z) e fun ps z => by cases z⟩)
  · exact .inr z
/-- the letters that are left, from the last one on -/
structure MoreL (ks mo : List Nat) : Prop where
  nd : mo.Nodup
  abc : ∀ c ∈ mo, 113 ≤ c ∧ c ≤ 122
  no : ∀ c ∈ mo, c ∉ ks
  two : mo.take 2 = [122, 121]
  len : mo.length ≤ 10
abbrev nPt : List Str := ["_law_pen_here", "_law_one", "_law_more", "_law_two", "_law_due", "_law_third", "_law_odd"]
theorem sc_pt : FnScope nPt ["_law_pen_here", "_law_one", "_law_more"] (defScope s_law_put_together) := ⟨rfl, rfl, rfl, by decide +kernel, rfl, by decide +kernel, by decide +kernel⟩
abbrev px (P : Program) (w : World) (K : PySem.W.Frag) (mg : Str → Option Value) (base : Heap) (f c : Addr) (A : Around) (outer : List Env) (s : PySem.Shared) (H : Hp) (E : XK) : Cx :=
  (cxOf C8.CX0 P w K mg base nPt "_law_put_together" (defScope s_law_put_together) f (.ref c) A outer s H E).nox
/-- what the law's helpers rest on -/
structure Hlp (P : Program) (w : World) (K : PySem.W.Frag) (mg : Str → Option Value) (base : Heap) (C IP SK TM IK FE : Addr) : Prop where
  td : D K mg "_law_told" s_law_told []
  R : R02 K mg IP SK TM IK FE
  T : PlanT K C
  M : MkPl P w K mg base C IP TM
  k1 : ∃ d, C8.Mak P w K mg base 3 "Plan" C (spPlanInit K C) [.ref d] ∧ ∀ H, SqT K H d []
  kd : C8.Mak P w K mg base 3 "Plan" C (spPlanInit K C) []
  ad : ∃ f fd, FnOk P w K mg base (L2N.CX P w) 5 f fd ["self", "other"] (spSumE C SK TM) ∧ Meth K C "__add__" f ∧ L2.Binds K fd ["self", "other"] []
  mu : ∃ f fd, FnOk P w K mg base (L2N.CX P w) 5 f fd ["self", "other"] (spSumE C SK TM) ∧ Meth K C "__mul__" f ∧ L2.Binds K fd ["self", "other"] []
  sf : PySem.W.selfFirst K C = true
  na : PySem.W.findIn K (.ref C) (dunderR Operator.Add.info.2) = some none
  nm : PySem.W.findIn K (.ref C) (dunderR Operator.Mult.info.2) = some none
  rg : ∃ p g fd mc, CSt K C mc "ring" p g ∧ FnOk P w K mg base (L2N.CX P w) 5 g fd ["kinds"] (spRingE K IP TM) ∧ L2.Binds K fd ["kinds"] []
  cr : ∃ f fd, FnOk P w K mg base (L2N.CX P w) 4 f fd ["self", "a", "b"] (spCrosE K C IK) ∧ Meth K C "crosses" f ∧ L2.Binds K fd ["self", "a", "b"] []
  iP : C8.InsC K C
  kP : PySem.W.kitOne K (.ref C) (.type "str") = some false
  zl : mg "len" = none
def DueS (K : PySem.W.Frag) (H : Hp) (n : Nat) (v : V) : Prop := (8 < n ∧ ∃ tq, v = .ref tq ∧ SqT K H tq [.str "many", .int 8]) ∨ (n ≤ 8 ∧ v = .non)
section
variable {P : Program} {w : World} {K : PySem.W.Frag} {mg : Str → Option Value} {base : Heap} {C IP SK TM IK FE c Pt : Addr} {T : List (Addr × Str)}
/-- a plan of letters without pairs -/
theorem plan0 {r dx d : Addr} {zs : List Nat} {H : Hp} {Q : VK} {E : XK} (hr : H r = some (.ins C dx [])) (lt : letB zs = true) (l8 : zs.length ≤ 8) (hd : SqT K H d []) (q : ∀ ks H', zs.Perm ks → ks.Pairwise (· < ·) → But r H H' → PlanAt C H' r ks (xOf []) → Q .non H') : spPlanInit K C [.ref r, .str (S zs), .ref d] H Q E :=
  plan_ok (es := []) hr lt l8 (.inr hd) (by decide) (fun e he => by cases he) q
theorem pts0 (L : Hlp P w K mg base C IP SK TM IK FE) (cD : C8.Cal P w K mg base 1 "_law_draw" spDraw []) (f : Addr) (A : Around) (outer : List Env) (s0 : PySem.Shared) (H0 : Hp) (E0 : XK) (hr : L2.Room 9 (A.deeper (envOfC "_law_put_together" (defScope s_law_put_together) s0.heap.objs.size f (.ref c)))) :
    ∃ ts, PS (px P w K mg base f c A outer s0 H0 E0) ((defBody s_law_put_together).getD 0 (.Pass ⟨0, 0, 0, 0⟩)) ts ∧ ∀ (D : Ends) (u1 u3 u4 u5 u6 : Option V) (p ce : Addr) (m : Nat) (mo : List Nat) (G : Hp), PenAt G p ce m → m ≤ 10000000 → mo.Nodup → mo.length ≤ 10 → (∀ c ∈ mo, 113 ≤ c ∧ c ≤ 122) →
      (∀ (d : Nat) (tw : Addr) (ks2 : List Nat) (G' : Hp), PlanAt C G' tw ks2 (xOf []) → (mo.take d).Perm ks2 → ks2.length ≤ 8 → PenAt G' p ce (m + 1) → But p G G' → D.nx [some (.ref p), u1, some (.str (S mo)), some (.ref tw), u4, u5, u6] G') →
      ts D [some (.ref p), u1, some (.str (S mo)), u3, u4, u5, u6] G := by
  obtain ⟨d0, k1, dE⟩ := L.k1
  refine ⟨_, ps_set (i := 3) sc_pt.nd rfl (.inr rfl) (C8.pe_mk k1 hr (by decide) (by rfl) (pa_cons (pe_slice sl_str (pv 2) po_none (po_some (C8.pe_c cD hr (by decide) (by rfl) (pa_cons (pv 0) (pa_cons pe_int pa_nil))))) pa_nil)), ?_⟩
  intro D u1 u3 u4 u5 u6 p ce m mo G gp hm nd l9 abc fin
  refine ⟨_, rfl, _, rfl, p, ce, m, 9, rfl, gp, by decide, by decide, by omega, fun d G1 hd gp1 b1 => ?_⟩
  refine ⟨_, rfl, _, rfl, (by rw [S_len]; exact len_line (by omega)), ?_⟩
  rw [S_cutTo]
  intro x dx hx hdx nd2
  have s2 : L2.Same G1 (upd (upd G1 dx (.own x)) x (.ins C dx [])) := fun b o e => by
    rw [upd_ne (ne_of_none e hx), upd_ne (ne_of_none e hdx)]
    exact e
  have lt : letB (mo.take d) = true := by
    unfold letB
    rw [Bool.and_eq_true, decide_eq_true_iff]
    refine ⟨nd.sublist (List.take_sublist _ _), List.all_eq_true.mpr fun k hk => ?_⟩
    obtain ⟨a1, a2⟩ := abc k (List.mem_of_mem_take hk)
    unfold inAZ
    rw [decide_eq_true (by omega : 97 ≤ k), decide_eq_true a2]
    rfl
  have tl : (mo.take d).length ≤ 8 := by rw [List.length_take]; omega
  refine plan0 upd_same lt tl (dE _) fun ks2 G' pm up bx pl => ⟨rfl, fin d x ks2 G' pl pm (by rw [← pm.length_eq]; exact tl) ?_ (b1.trans (But.of ?_))⟩
  · exact gp1.same fun b o e => bx _ _ (ne_of_none e hx) (s2 _ _ e)
  · exact fun b o e => bx _ _ (ne_of_none e hx) (s2 _ _ e)
theorem pts2 (L : Hlp P w K mg base C IP SK TM IK FE) (TT : TabT K mg base T "_law_put_together" s_law_put_together c Pt) (f : Addr) (A : Around) (outer : List Env) (s0 : PySem.Shared) (H0 : Hp) (E0 : XK) (hr : L2.Room 9 (A.deeper (envOfC "_law_put_together" (defScope s_law_put_together) s0.heap.objs.size f (.ref c))))  :
    ∃ ts, PS (px P w K mg base f c A outer s0 H0 E0) ((defBody s_law_put_together).getD 2 (.Pass ⟨0, 0, 0, 0⟩)) ts ∧ ∀ (D : Ends) (u0 u2 u5 u6 : Option V) (o tw : Addr) (ks ks2 : List Nat) (X X2 : Nat → Nat → Bool) (v : V) (G : Hp), PlanAt C G o ks X → PlanAt C G tw ks2 X2 → ks.length ≤ 8 → ks2.length ≤ 8 → (∀ k ∈ ks, k ∉ ks2) → DueS K G (ks.length + ks2.length) v → Tabs T G →
      (∀ G', ExtN G G' → Tabs T G' → D.nx [u0, some (.ref o), u2, some (.ref tw), some v, u5, u6] G') → ts D [u0, some (.ref o), u2, some (.ref tw), some v, u5, u6] G := by
  have hu : (A.deeper (envOfC "_law_put_together" (defScope s_law_put_together) s0.heap.objs.size f (.ref c))).units < cLine := Nat.lt_of_succ_lt (hu_of hr)
  obtain ⟨fa, fda, aF, aM, aB⟩ := L.ad
  refine ⟨_, ps_if (pt_cmpR (op_neNT hu) (pe_told (t := fun E => tOp (fun x y H Q => ∃ a dx fs t, x = .ref a ∧ H a = some (.ins C dx fs) ∧ TyX K H y t ∧ AddA K C .Add t ∧ spSumE C SK TM [x, y] H Q E) (tVar 1) (tVar 3)) L.td L.R (by rfl) TT.lt.tb rfl TT.hT TT.one hr (by decide) (show LamS (defScope s_law_put_together) _ from lamS_by (by decide +kernel)) (by rfl) (fun _ _ _ _ _ => by rfl) (fun A outer s H E f c hr => pe_op (op_binN (op := .Add) aF aM L.sf L.na aB (hr.mono (by decide)) passN) (pv 1) (pv 3))) (pv 4) (nomark _)) (pss_one (ps_ret pe_bl)) pss_nil, ?_⟩
  intro D u0 u2 u5 u6 o tw ks ks2 X X2 v G po pt l8 l82 no due tb fin
  refine ⟨tb, fun H1 e1 tb1 => ?_⟩
  have po1 := PlanAt.ext po e1
  have pt1 := PlanAt.ext pt e1
  obtain ⟨dx, _, _, _, h1, _⟩ := po1.ex
  obtain ⟨dy, _, _, _, g1, _⟩ := pt1.ex
  have no' : ∀ k ∈ ks, k ∉ ks2 := no
  refine ⟨_, rfl, _, rfl, o, dx, _, _, rfl, h1, .base (.ins g1 L.iP.cl L.iP.ha L.iP.hn L.iP.htk L.iP.hm), .same, o, tw, ks, ks2, X, X2, rfl, po1, pt1, by omega, by omega, ?_⟩
  rcases due with ⟨gt, td, rfl, gd⟩ | ⟨le, rfl⟩
  · refine .inr (.inl ⟨no', by omega, fun d H2 g2 s2 => ⟨TM, _, _, d, _, .inr (.inr (.inl ⟨rfl, rfl, rfl⟩)), rfl, rfl, g2, fun tq H3 g3 s3 => ?_⟩⟩)
    refine ⟨_, rfl, ⟨.inr ⟨tq, td, _, _, rfl, rfl, SqT.of g3, SqT.ext gd (e1.trans (ExtN.same (s2.trans s3))), rfl⟩, ?_⟩⟩
    exact ⟨_, rfl, iteF (fin H3 (e1.trans (ExtN.same (s2.trans s3))) (tb1.ext (s2.trans s3)))⟩
  · refine .inr (.inr ⟨no', by omega, fun r H2 s2 => ?_⟩)
    refine ⟨_, rfl, ⟨.inl ⟨rfl, rfl⟩, ?_⟩⟩
    exact ⟨_, rfl, iteF (fin H2 (e1.trans (ExtN.same s2)) (tb1.ext s2))⟩
theorem pts3 (L : Hlp P w K mg base C IP SK TM IK FE) (TT : TabT K mg base T "_law_put_together" s_law_put_together c Pt) (f : Addr) (A : Around) (outer : List Env) (s0 : PySem.Shared) (H0 : Hp) (E0 : XK) (hr : L2.Room 9 (A.deeper (envOfC "_law_put_together" (defScope s_law_put_together) s0.heap.objs.size f (.ref c))))  :
    ∃ ts, PS (px P w K mg base f c A outer s0 H0 E0) ((defBody s_law_put_together).getD 3 (.Pass ⟨0, 0, 0, 0⟩)) ts ∧ ∀ (D : Ends) (u0 u2 u5 u6 : Option V) (o tw : Addr) (ks ks2 : List Nat) (X X2 : Nat → Nat → Bool) (v : V) (G : Hp), PlanAt C G o ks X → PlanAt C G tw ks2 X2 → ks.length ≤ 8 → ks2.length ≤ 8 → (∀ k ∈ ks, k ∉ ks2) → DueS K G (ks.length + ks2.length) v → Tabs T G →
      (∀ G', ExtN G G' → Tabs T G' → D.nx [u0, some (.ref o), u2, some (.ref tw), some v, u5, u6] G') → ts D [u0, some (.ref o), u2, some (.ref tw), some v, u5, u6] G := by
  have hu : (A.deeper (envOfC "_law_put_together" (defScope s_law_put_together) s0.heap.objs.size f (.ref c))).units < cLine := Nat.lt_of_succ_lt (hu_of hr)
  obtain ⟨fm, fdm, mF, mM, mB⟩ := L.mu
  refine ⟨_, ps_if (pt_cmpR (op_neNT hu) (pe_told (t := fun E => tOp (fun x y H Q => ∃ a dx fs t, x = .ref a ∧ H a = some (.ins C dx fs) ∧ TyX K H y t ∧ AddA K C .Mult t ∧ spSumE C SK TM [x, y] H Q E) (tVar 3) (tVar 1)) L.td L.R (by rfl) TT.lt.tb rfl TT.hT TT.one hr (by decide) (show LamS (defScope s_law_put_together) _ from lamS_by (by decide +kernel)) (by rfl) (fun _ _ _ _ _ => by rfl) (fun A outer s H E f c hr => pe_op (op_binN (op := .Mult) mF mM L.sf L.nm mB (hr.mono (by decide)) passN) (pv 3) (pv 1))) (pv 4) (nomark _)) (pss_one (ps_ret pe_bl)) pss_nil, ?_⟩
  intro D u0 u2 u5 u6 o tw ks ks2 X X2 v G po pt l8 l82 no due tb fin
  refine ⟨tb, fun H1 e1 tb1 => ?_⟩
  have po1 := PlanAt.ext po e1
  have pt1 := PlanAt.ext pt e1
  obtain ⟨dx, _, _, _, h1, _⟩ := pt1.ex
  obtain ⟨dy, _, _, _, g1, _⟩ := po1.ex
  have no' : ∀ k ∈ ks2, k ∉ ks := fun k h1 h2 => no k h2 h1
  refine ⟨_, rfl, _, rfl, tw, dx, _, _, rfl, h1, .base (.ins g1 L.iP.cl L.iP.ha L.iP.hn L.iP.htk L.iP.hm), .same, tw, o, ks2, ks, X2, X, rfl, pt1, po1, by omega, by omega, ?_⟩
  rcases due with ⟨gt, td, rfl, gd⟩ | ⟨le, rfl⟩
  · refine .inr (.inl ⟨no', by omega, fun d H2 g2 s2 => ⟨TM, _, _, d, _, .inr (.inr (.inl ⟨rfl, rfl, rfl⟩)), rfl, rfl, g2, fun tq H3 g3 s3 => ?_⟩⟩)
    refine ⟨_, rfl, ⟨.inr ⟨tq, td, _, _, rfl, rfl, SqT.of g3, SqT.ext gd (e1.trans (ExtN.same (s2.trans s3))), rfl⟩, ?_⟩⟩
    exact ⟨_, rfl, iteF (fin H3 (e1.trans (ExtN.same (s2.trans s3))) (tb1.ext (s2.trans s3)))⟩
  · refine .inr (.inr ⟨no', by omega, fun r H2 s2 => ?_⟩)
    refine ⟨_, rfl, ⟨.inl ⟨rfl, rfl⟩, ?_⟩⟩
    exact ⟨_, rfl, iteF (fin H2 (e1.trans (ExtN.same s2)) (tb1.ext s2))⟩
theorem pts1 (L : Hlp P w K mg base C IP SK TM IK FE) (TT : TabT K mg base T "_law_put_together" s_law_put_together c Pt) (f : Addr) (A : Around) (outer : List Env) (s0 : PySem.Shared) (H0 : Hp) (E0 : XK) (hr : L2.Room 9 (A.deeper (envOfC "_law_put_together" (defScope s_law_put_together) s0.heap.objs.size f (.ref c))))  :
    ∃ ts, PS (px P w K mg base f c A outer s0 H0 E0) ((defBody s_law_put_together).getD 1 (.Pass ⟨0, 0, 0, 0⟩)) ts ∧ ∀ (D : Ends) (u0 u2 u4 u5 u6 : Option V) (o tw : Addr) (ks ks2 : List Nat) (X X2 : Nat → Nat → Bool) (G : Hp), PlanAt C G o ks X → PlanAt C G tw ks2 X2 → ks.length ≤ 8 → ks2.length ≤ 8 →
      (∀ v G', DueS K G' (ks.length + ks2.length) v → L2.Same G G' → D.nx [u0, some (.ref o), u2, some (.ref tw), some v, u5, u6] G') → ts D [u0, some (.ref o), u2, some (.ref tw), u4, u5, u6] G := by
  refine ⟨_, ps_set (i := 4) sc_pt.nd rfl (.inl rfl) (pe_ifExp (pt_cmpR op_gt (pe_callB call_len_str (by rfl) L.zl PySem.boot_len (pa_cons (pe_op op_add_str (pe_fld (pv 1) rfl) (pe_fld (pv 3) rfl)) pa_nil)) pe_int (nomark _)) (pe_tup (pa_cons pe_str (pa_cons pe_int pa_nil))) pe_non), ?_⟩
  intro D u0 u2 u4 u5 u6 o tw ks ks2 X X2 G po pt l8 l82 fin
  obtain ⟨dx, _, _, _, h1, _⟩ := po.ex
  obtain ⟨dy, _, _, _, g1, _⟩ := pt.ex
  refine ⟨_, rfl, o, C, dx, _, _, rfl, h1, L.T.cl, L.T.nk, pf_kinds _ _ _ _, _, rfl, tw, C, dy, _, _, rfl, g1, L.T.cl, L.T.nk, pf_kinds _ _ _ _, _, _, rfl, rfl, (by rw [S_len, S_len]; exact len_line (by omega)), ?_⟩
  rw [S_cat]
  refine ⟨_, rfl, (by rw [S_len, List.length_append]; exact len_line (by omega)), ?_⟩
  rw [S_len, List.length_append]
  refine ⟨_, _, rfl, rfl, _, rfl, ?_⟩
  by_cases e : 8 < ks.length + ks2.length
  · rw [decide_eq_true (by omega : (8 : Int) < ((ks.length + ks2.length : Nat) : Int))]
    refine iteT ⟨(by show 2 ≤ sizeLine; exact len_line (by decide)), fun tq htq => ?_⟩
    exact fin _ _ (.inl ⟨e, tq, rfl, SqT.of upd_same⟩) (same_new htq)
  · rw [decide_eq_false (by omega : ¬ (8 : Int) < ((ks.length + ks2.length : Nat) : Int))]
    exact iteF (fin _ G (.inr ⟨by omega, rfl⟩) (L2.Same.refl _))
/-- the letters of the third plan -/
def zThird (ks mo : List Nat) : List Nat := if ks.length < 8 then ks.drop 1 ++ mo.take 2 else ks.drop 1
theorem pts4 (L : Hlp P w K mg base C IP SK TM IK FE) (TT : TabT K mg base T "_law_put_together" s_law_put_together c Pt) (f : Addr) (A : Around) (outer : List Env) (s0 : PySem.Shared) (H0 : Hp) (E0 : XK) (hr : L2.Room 9 (A.deeper (envOfC "_law_put_together" (defScope s_law_put_together) s0.heap.objs.size f (.ref c))))  :
    ∃ ts, PS (px P w K mg base f c A outer s0 H0 E0) ((defBody s_law_put_together).getD 4 (.Pass ⟨0, 0, 0, 0⟩)) ts ∧ ∀ (D : Ends) (u0 u3 u4 u5 u6 : Option V) (o : Addr) (ks mo : List Nat) (X : Nat → Nat → Bool) (G : Hp), PlanAt C G o ks X → ks.length ≤ 8 → (∀ k ∈ ks, k ≤ 120) → MoreL ks mo →
      (∀ (th : Addr) (ks3 : List Nat) (G' : Hp), PlanAt C G' th ks3 (xOf []) → (zThird ks mo).Perm ks3 → L2.Same G G' → D.nx [u0, some (.ref o), some (.str (S mo)), u3, u4, some (.ref th), u6] G') → ts D [u0, some (.ref o), some (.str (S mo)), u3, u4, u5, u6] G := by
  obtain ⟨d0, k1, dE⟩ := L.k1
  refine ⟨_, ps_set (i := 5) sc_pt.nd rfl (.inr rfl) (C8.pe_mk k1 hr (by decide) (by rfl) (pa_cons (pe_ifExp (pt_cmpR op_lt (pe_callB call_len_str (by rfl) L.zl PySem.boot_len (pa_cons (pe_fld (pv 1) rfl) pa_nil)) pe_int (nomark _)) (pe_op op_add_str (pe_slice sl_str (pe_fld (pv 1) rfl) (po_some pe_int) po_none) (pe_slice sl_str (pv 2) po_none (po_some pe_int))) (pe_slice sl_str (pe_fld (pv 1) rfl) (po_some pe_int) po_none)) pa_nil)), ?_⟩
  intro D u0 u3 u4 u5 u6 o ks mo X G po l8 k120 ml fin
  obtain ⟨dx, _, _, _, h1, _⟩ := po.ex
  have lk : (S ks).length ≤ sizeLine := by rw [S_len]; exact len_line (by omega)
  have lm : (S mo).length ≤ sizeLine := by rw [S_len]; exact len_line (by have := ml.len; omega)
  have mk : ∀ zs : List Nat, zs = zThird ks mo → letB zs = true → zs.length ≤ 8 → ∀ x dx, G x = none → G dx = none → dx ≠ x → spPlanInit K C (.ref x :: ([.str (S zs)] ++ [.ref d0])) (upd (upd G dx (.own x)) x (.ins C dx [])) (fun v H2 => v = .non ∧ (D.nx [u0, some (.ref o), some (.str (S mo)), u3, u4, some (.ref x), u6] H2)) C8.E0 := fun zs ez lt lz x dx hx hdx nd => by
    have s2 : L2.Same G (upd (upd G dx (.own x)) x (.ins C dx [])) := fun b o e => by
      rw [upd_ne (ne_of_none e hx), upd_ne (ne_of_none e hdx)]
      exact e
    exact plan0 upd_same lt lz (dE _) fun ks3 G' pm up bx pl => ⟨rfl, fin x ks3 G' pl (ez ▸ pm) fun b o e => bx _ _ (ne_of_none e hx) (s2 _ _ e)⟩
  have nd := nodup_up po.up
  have rng : ∀ k ∈ ks, inAZ k = true := fun k hk => by
    obtain ⟨a, b⟩ := po.abc k hk
    unfold inAZ
    rw [decide_eq_true a, decide_eq_true b]
    rfl
  have rngm : ∀ k ∈ mo, inAZ k = true := fun k hk => by
    obtain ⟨a, b⟩ := ml.abc k hk
    unfold inAZ
    rw [decide_eq_true (by omega : 97 ≤ k), decide_eq_true b]
    rfl
  refine ⟨_, rfl, o, C, dx, _, _, rfl, h1, L.T.cl, L.T.nk, pf_kinds _ _ _ _, _, rfl, lk, ?_⟩
  rw [S_len]
  refine ⟨_, _, rfl, rfl, _, rfl, ?_⟩
  by_cases e : ks.length < 8
  · rw [decide_eq_true (by omega : (ks.length : Int) < 8)]
    refine iteT ?_
    refine ⟨_, rfl, o, C, dx, _, _, rfl, h1, L.T.cl, L.T.nk, pf_kinds _ _ _ _, _, rfl, _, rfl, lk, ?_⟩
    rw [show cutS (S ks) (some 1) none = S (ks.drop 1) from S_cutFrom ks 1]
    refine ⟨_, rfl, _, rfl, _, rfl, lm, ?_⟩
    rw [show cutS (S mo) none (some 2) = S (mo.take 2) from S_cutTo mo 2]
    refine ⟨_, _, rfl, rfl, (by rw [S_len, S_len, List.length_drop, List.length_take]; exact len_line (by omega)), ?_⟩
    rw [S_cat]
    refine mk _ (by unfold zThird; rw [if_pos e]) ?_ (by rw [List.length_append, List.length_drop, List.length_take]; omega)
    unfold letB
    rw [Bool.and_eq_true, decide_eq_true_iff]
    refine ⟨List.nodup_append.mpr ⟨nd.sublist (List.drop_sublist _ _), ml.nd.sublist (List.take_sublist _ _), fun a ha b hb e2 => ml.no b (List.mem_of_mem_take hb) (e2 ▸ List.mem_of_mem_drop ha)⟩, List.all_eq_true.mpr fun k hk => ?_⟩
    exact (List.mem_append.mp hk).elim (fun z => rng k (List.mem_of_mem_drop z)) fun z => rngm k (List.mem_of_mem_take z)
  · rw [decide_eq_false (by omega : ¬ (ks.length : Int) < 8)]
    refine iteF ?_
    refine ⟨_, rfl, o, C, dx, _, _, rfl, h1, L.T.cl, L.T.nk, pf_kinds _ _ _ _, _, rfl, _, rfl, lk, ?_⟩
    rw [show cutS (S ks) (some 1) none = S (ks.drop 1) from S_cutFrom ks 1]
    refine mk _ (by unfold zThird; rw [if_neg e]) ?_ (by rw [List.length_drop]; omega)
    unfold letB
    rw [Bool.and_eq_true, decide_eq_true_iff]
    exact ⟨nd.sublist (List.drop_sublist _ _), List.all_eq_true.mpr fun k hk => rng k (List.mem_of_mem_drop hk)⟩
/-- what is due of the third plan -/
def DueT (K : PySem.W.Frag) (H : Hp) (ks : List Nat) (v : V) : Prop := (∃ k tq, ks[1]? = some k ∧ v = .ref tq ∧ SqT K H tq [.str "same", .str (S [k])]) ∨ (ks.length ≤ 1 ∧ v = .non)
theorem pts5 (L : Hlp P w K mg base C IP SK TM IK FE) (TT : TabT K mg base T "_law_put_together" s_law_put_together c Pt) (f : Addr) (A : Around) (outer : List Env) (s0 : PySem.Shared) (H0 : Hp) (E0 : XK) (hr : L2.Room 9 (A.deeper (envOfC "_law_put_together" (defScope s_law_put_together) s0.heap.objs.size f (.ref c))))  :
    ∃ ts, PS (px P w K mg base f c A outer s0 H0 E0) ((defBody s_law_put_together).getD 5 (.Pass ⟨0, 0, 0, 0⟩)) ts ∧ ∀ (D : Ends) (u0 u2 u3 u4 u5 u6 : Option V) (o : Addr) (ks : List Nat) (X : Nat → Nat → Bool) (G : Hp), PlanAt C G o ks X → ks.length ≤ 8 →
      (∀ v G', DueT K G' ks v → L2.Same G G' → D.nx [u0, some (.ref o), u2, u3, some v, u5, u6] G') → ts D [u0, some (.ref o), u2, u3, u4, u5, u6] G := by
  refine ⟨_, ps_set (i := 4) sc_pt.nd rfl (.inl rfl) (pe_ifExp (pt_cmpR op_gt (pe_callB call_len_str (by rfl) L.zl PySem.boot_len (pa_cons (pe_fld (pv 1) rfl) pa_nil)) pe_int (nomark _)) (pe_tup (pa_cons pe_str (pa_cons (pe_ix ix_str (pe_fld (pv 1) rfl) pe_int (fun _ _ => rfl)) pa_nil))) pe_non), ?_⟩
  intro D u0 u2 u3 u4 u5 u6 o ks X G po l8 fin
  obtain ⟨dx, _, _, _, h1, _⟩ := po.ex
  have lk : (S ks).length ≤ sizeLine := by rw [S_len]; exact len_line (by omega)
  refine ⟨_, rfl, o, C, dx, _, _, rfl, h1, L.T.cl, L.T.nk, pf_kinds _ _ _ _, _, rfl, lk, ?_⟩
  rw [S_len]
  refine ⟨_, _, rfl, rfl, _, rfl, ?_⟩
  by_cases e : 1 < ks.length
  · rw [decide_eq_true (by omega : (1 : Int) < (ks.length : Int))]
    have hk : ks[1]? = some ks[1] := List.getElem?_eq_getElem e
    generalize ks[1] = k at hk
    have at1 : atI ks 1 = some k := by
      show atI ks ((1 : Nat) : Int) = _
      exact atI_nat hk
    refine iteT ⟨_, rfl, o, C, dx, _, _, rfl, h1, L.T.cl, L.T.nk, pf_kinds _ _ _ _, _, _, k, rfl, rfl, lk, at1, (by show 2 ≤ sizeLine; exact len_line (by decide)), fun tq htq => ?_⟩
    exact fin _ _ (.inl ⟨k, tq, hk, rfl, SqT.of upd_same⟩) (same_new htq)
  · rw [decide_eq_false (by omega : ¬ (1 : Int) < (ks.length : Int))]
    exact iteF (fin _ G (.inr ⟨by omega, rfl⟩) (L2.Same.refl _))
/-- what the third plan has with the first one -/
structure Third (ks ks3 : List Nat) : Prop where
  l8 : ks3.length ≤ 8
  few : ks.length ≤ 1 → (∀ k ∈ ks, k ∉ ks3) ∧ ks3.length ≤ 2
  one : ∀ k, ks[1]? = some k → k ∈ ks3 ∧ (∀ i c, i < 1 → ks[i]? = some c → c ∉ ks3) ∧ ks3[0]? = some k ∧ k ∈ ks
theorem third_of {ks mo ks3 : List Nat} (up : ks.Pairwise (· < ·)) (l8 : ks.length ≤ 8) (k120 : ∀ k ∈ ks, k ≤ 120) (ml : MoreL ks mo) (pm : (zThird ks mo).Perm ks3) (up3 : ks3.Pairwise (· < ·)) : Third ks ks3 := by
  have inz : ∀ x ∈ ks3, x ∈ ks.drop 1 ∨ x ∈ mo.take 2 := fun x hx => by
    have h := pm.mem_iff.mpr hx
    unfold zThird at h
    split at h
    · exact List.mem_append.mp h
    · exact .inl h
  have inz' : ∀ x ∈ ks.drop 1, x ∈ ks3 := fun x hx => pm.mem_iff.mp (by
    unfold zThird
    split
    · exact List.mem_append_left _ hx
    · exact hx)
  have len : ks3.length = (zThird ks mo).length := pm.length_eq.symm
  have lz : (zThird ks mo).length ≤ 8 ∧ (ks.length ≤ 1 → (zThird ks mo).length ≤ 2) := by
    unfold zThird
    split
    · rw [List.length_append, List.length_drop, List.length_take]
      omega
    · rw [List.length_drop]
      omega
  refine ⟨by omega, fun h1 => ⟨fun k hk h => ?_, by omega⟩, fun k hk => ?_⟩
  · rcases inz k h with z | z
    · rw [List.drop_eq_nil_of_le h1] at z
      cases z
    · exact ml.no k (List.mem_of_mem_take z) hk
  · obtain ⟨h1, e1⟩ := List.getElem?_eq_some_iff.mp hk
    have kin := List.mem_of_getElem? hk
    have kd : k ∈ ks.drop 1 := by
      refine List.mem_of_getElem? (i := 0) ?_
      rw [List.getElem?_drop]
      exact hk
    have k3 := inz' k kd
    have low : ∀ x ∈ ks3, k ≤ x := fun x hx => by
      rcases inz x hx with z | z
      · obtain ⟨j, hj⟩ := List.getElem?_of_mem z
        rw [List.getElem?_drop] at hj
        obtain ⟨h2, e2⟩ := List.getElem?_eq_some_iff.mp hj
        by_cases e : j = 0
        · subst e
          rw [hk] at hj
          cases hj
          exact Nat.le_refl _
        · have := List.pairwise_iff_getElem.mp up 1 (1 + j) h1 h2 (by omega)
          omega
      · rw [ml.two] at z
        have := k120 k kin
        rcases List.mem_cons.mp z with e | z
        · omega
        · have := List.mem_singleton.mp z
          omega
    refine ⟨k3, fun i c hi hc h => ?_, ?_, kin⟩
    · have i0 : i = 0 := by omega
      subst i0
      obtain ⟨h2, e2⟩ := List.getElem?_eq_some_iff.mp hc
      have lt := List.pairwise_iff_getElem.mp up 0 1 h2 h1 (by omega)
      have := low c h
      omega
    · cases ks3 with
      | nil => cases k3
      | cons a r =>
        have h2 := low a List.mem_cons_self
        rcases List.mem_cons.mp k3 with e | e
        · rw [e]; rfl
        · have := (List.pairwise_cons.mp up3).1 k e
          omega
theorem pts6 (L : Hlp P w K mg base C IP SK TM IK FE) (TT : TabT K mg base T "_law_put_together" s_law_put_together c Pt) (f : Addr) (A : Around) (outer : List Env) (s0 : PySem.Shared) (H0 : Hp) (E0 : XK) (hr : L2.Room 9 (A.deeper (envOfC "_law_put_together" (defScope s_law_put_together) s0.heap.objs.size f (.ref c))))  :
    ∃ ts, PS (px P w K mg base f c A outer s0 H0 E0) ((defBody s_law_put_together).getD 6 (.Pass ⟨0, 0, 0, 0⟩)) ts ∧ ∀ (D : Ends) (u0 u2 u3 u6 : Option V) (o th : Addr) (ks ks3 : List Nat) (X X3 : Nat → Nat → Bool) (v : V) (G : Hp), PlanAt C G o ks X → PlanAt C G th ks3 X3 → ks.length ≤ 8 → Third ks ks3 → DueT K G ks v → Tabs T G →
      (∀ G', ExtN G G' → Tabs T G' → D.nx [u0, some (.ref o), u2, u3, some v, some (.ref th), u6] G') → ts D [u0, some (.ref o), u2, u3, some v, some (.ref th), u6] G := by
  have hu : (A.deeper (envOfC "_law_put_together" (defScope s_law_put_together) s0.heap.objs.size f (.ref c))).units < cLine := Nat.lt_of_succ_lt (hu_of hr)
  obtain ⟨fm, fdm, mF, mM, mB⟩ := L.mu
  refine ⟨_, ps_if (pt_cmpR (op_neNT hu) (pe_told (t := fun E => tOp (fun x y H Q => ∃ a dx fs t, x = .ref a ∧ H a = some (.ins C dx fs) ∧ TyX K H y t ∧ AddA K C .Mult t ∧ spSumE C SK TM [x, y] H Q E) (tVar 1) (tVar 5)) L.td L.R (by rfl) TT.lt.tb rfl TT.hT TT.one hr (by decide) (show LamS (defScope s_law_put_together) _ from lamS_by (by decide +kernel)) (by rfl) (fun _ _ _ _ _ => by rfl) (fun A outer s H E f c hr => pe_op (op_binN (op := .Mult) mF mM L.sf L.nm mB (hr.mono (by decide)) passN) (pv 1) (pv 5))) (pv 4) (nomark _)) (pss_one (ps_ret pe_bl)) pss_nil, ?_⟩
  intro D u0 u2 u3 u6 o th ks ks3 X X3 v G po pt l8 th3 due tb fin
  refine ⟨tb, fun H1 e1 tb1 => ?_⟩
  have po1 := PlanAt.ext po e1
  have pt1 := PlanAt.ext pt e1
  obtain ⟨dx, _, _, _, h1, _⟩ := po1.ex
  obtain ⟨dy, _, _, _, g1, _⟩ := pt1.ex
  have l83 := th3.l8
  refine ⟨_, rfl, _, rfl, o, dx, _, _, rfl, h1, .base (.ins g1 L.iP.cl L.iP.ha L.iP.hn L.iP.htk L.iP.hm), .same, o, th, ks, ks3, X, X3, rfl, po1, pt1, by omega, by omega, ?_⟩
  rcases due with ⟨k, td, hk, rfl, gd⟩ | ⟨le, rfl⟩
  · obtain ⟨a1, a2, a3, a4⟩ := th3.one k hk
    refine .inl ⟨1, k, hk, a1, a2, fun d H2 g2 s2 => ⟨SK, _, _, d, _, .inr (.inl ⟨rfl, rfl, rfl⟩), rfl, rfl, g2, fun tq H3 g3 s3 => ?_⟩⟩
    refine ⟨_, rfl, ⟨.inr ⟨tq, td, _, _, rfl, rfl, SqT.of g3, SqT.ext gd (e1.trans (ExtN.same (s2.trans s3))), rfl⟩, ?_⟩⟩
    exact ⟨_, rfl, iteF (fin H3 (e1.trans (ExtN.same (s2.trans s3))) (tb1.ext (s2.trans s3)))⟩
  · obtain ⟨b1, b2⟩ := th3.few le
    refine .inr (.inr ⟨b1, by omega, fun r H2 s2 => ?_⟩)
    refine ⟨_, rfl, ⟨.inl ⟨rfl, rfl⟩, ?_⟩⟩
    exact ⟨_, rfl, iteF (fin H2 (e1.trans (ExtN.same s2)) (tb1.ext s2))⟩
theorem pts7 (L : Hlp P w K mg base C IP SK TM IK FE) (TT : TabT K mg base T "_law_put_together" s_law_put_together c Pt) (f : Addr) (A : Around) (outer : List Env) (s0 : PySem.Shared) (H0 : Hp) (E0 : XK) (hr : L2.Room 9 (A.deeper (envOfC "_law_put_together" (defScope s_law_put_together) s0.heap.objs.size f (.ref c))))  :
    ∃ ts, PS (px P w K mg base f c A outer s0 H0 E0) ((defBody s_law_put_together).getD 7 (.Pass ⟨0, 0, 0, 0⟩)) ts ∧ ∀ (D : Ends) (u0 u2 u3 u6 : Option V) (o th : Addr) (ks ks3 : List Nat) (X X3 : Nat → Nat → Bool) (v : V) (G : Hp), PlanAt C G o ks X → PlanAt C G th ks3 X3 → ks.length ≤ 8 → Third ks ks3 → DueT K G ks v → Tabs T G →
      (∀ G', ExtN G G' → Tabs T G' → D.nx [u0, some (.ref o), u2, u3, some v, some (.ref th), u6] G') → ts D [u0, some (.ref o), u2, u3, some v, some (.ref th), u6] G := by
  have hu : (A.deeper (envOfC "_law_put_together" (defScope s_law_put_together) s0.heap.objs.size f (.ref c))).units < cLine := Nat.lt_of_succ_lt (hu_of hr)
  obtain ⟨fa, fda, aF, aM, aB⟩ := L.ad
  refine ⟨_, ps_if (pt_cmpR (op_neNT hu) (pe_told (t := fun E => tOp (fun x y H Q => ∃ a dx fs t, x = .ref a ∧ H a = some (.ins C dx fs) ∧ TyX K H y t ∧ AddA K C .Add t ∧ spSumE C SK TM [x, y] H Q E) (tVar 5) (tVar 1)) L.td L.R (by rfl) TT.lt.tb rfl TT.hT TT.one hr (by decide) (show LamS (defScope s_law_put_together) _ from lamS_by (by decide +kernel)) (by rfl) (fun _ _ _ _ _ => by rfl) (fun A outer s H E f c hr => pe_op (op_binN (op := .Add) aF aM L.sf L.na aB (hr.mono (by decide)) passN) (pv 5) (pv 1))) (pv 4) (nomark _)) (pss_one (ps_ret pe_bl)) pss_nil, ?_⟩
  intro D u0 u2 u3 u6 o th ks ks3 X X3 v G po pt l8 th3 due tb fin
  refine ⟨tb, fun H1 e1 tb1 => ?_⟩
  have po1 := PlanAt.ext po e1
  have pt1 := PlanAt.ext pt e1
  obtain ⟨dx, _, _, _, h1, _⟩ := pt1.ex
  obtain ⟨dy, _, _, _, g1, _⟩ := po1.ex
  have l83 := th3.l8
  refine ⟨_, rfl, _, rfl, th, dx, _, _, rfl, h1, .base (.ins g1 L.iP.cl L.iP.ha L.iP.hn L.iP.htk L.iP.hm), .same, th, o, ks3, ks, X3, X, rfl, pt1, po1, by omega, by omega, ?_⟩
  rcases due with ⟨k, td, hk, rfl, gd⟩ | ⟨le, rfl⟩
  · obtain ⟨a1, a2, a3, a4⟩ := th3.one k hk
    refine .inl ⟨0, k, a3, a4, (fun i c h => absurd h (by omega)), fun d H2 g2 s2 => ⟨SK, _, _, d, _, .inr (.inl ⟨rfl, rfl, rfl⟩), rfl, rfl, g2, fun tq H3 g3 s3 => ?_⟩⟩
    refine ⟨_, rfl, ⟨.inr ⟨tq, td, _, _, rfl, rfl, SqT.of g3, SqT.ext gd (e1.trans (ExtN.same (s2.trans s3))), rfl⟩, ?_⟩⟩
    exact ⟨_, rfl, iteF (fin H3 (e1.trans (ExtN.same (s2.trans s3))) (tb1.ext (s2.trans s3)))⟩
  · obtain ⟨b1, b2⟩ := th3.few le
    refine .inr (.inr ⟨fun k h1 h2 => b1 k h2 h1, by omega, fun r H2 s2 => ?_⟩)
    refine ⟨_, rfl, ⟨.inl ⟨rfl, rfl⟩, ?_⟩⟩
    exact ⟨_, rfl, iteF (fin H2 (e1.trans (ExtN.same s2)) (tb1.ext s2))⟩
def nine : List Nat := [97, 98, 99, 100, 101, 102, 103, 104, 105]
def RingBad (K : PySem.W.Frag) (H : Hp) (x : V) : Prop := NoLet K H x ∨ ∃ l : List Nat, x = .str (S l) ∧ letB l = true ∧ l.length < 4
theorem NoLet.ext {K : PySem.W.Frag} {H H' : Hp} {y : V} (h : NoLet K H y) (s : ExtN H H') : NoLet K H' y := h.elim (fun ⟨t, a, b⟩ => .inl ⟨t, TyX.ext a s, b⟩) .inr
theorem RingBad.ext {K : PySem.W.Frag} {H H' : Hp} {y : V} (h : RingBad K H y) (s : ExtN H H') : RingBad K H' y := h.elim (fun z => .inl (NoLet.ext z s)) .inr
def OddR (K : PySem.W.Frag) (H : Hp) (x : V) : Prop := plainV x = true ∧ ∃ d, Dp K H x d ∧ SeqAt.shaped d = true ∧ ((x = .str (S nine) ∧ PyData.eqv d (.str (S nine)) = true) ∨ (PyData.eqv d (.str (S nine)) = false ∧ RingBad K H x))
theorem odd_str {K : PySem.W.Frag} {H : Hp} (l : List Nat) (hl : l.length ≤ 900) (h : ∀ c ∈ l, c < 1114112) (ne : l ≠ nine) (b : letB l = false ∨ l.length < 4) : OddR K H (.str (S l)) := by
  refine ⟨rfl, _, .str _, ?_, .inr ⟨?_, ?_⟩⟩
  · show ((l.toArray.all fun x => decide (x < 1114112)) && decide (PyData.depth (.str (S l)) ≤ 64)) = true
    rw [Bool.and_eq_true]
    exact ⟨by simpa using h, rfl⟩
  · show (S l == S nine) = false
    exact beq_eq_false_iff_ne.mpr fun e => ne (S_inj e)
  · cases z : letB l with
    | false => exact .inl (.inr ⟨l, rfl, by omega, z⟩)
    | true =>
      rw [z] at b
      exact .inr ⟨l, rfl, z, b.elim (fun h => by cases h) id⟩
theorem pts8 (L : Hlp P w K mg base C IP SK TM IK FE) (TT : TabT K mg base T "_law_put_together" s_law_put_together c Pt) (f : Addr) (A : Around) (outer : List Env) (s0 : PySem.Shared) (H0 : Hp) (E0 : XK) (hr : L2.Room 9 (A.deeper (envOfC "_law_put_together" (defScope s_law_put_together) s0.heap.objs.size f (.ref c)))) (cPk : C8.Cal P w K mg base 2 "_law_pick" spPick []) :
    ∃ ts, PS (px P w K mg base f c A outer s0 H0 E0) ((defBody s_law_put_together).getD 8 (.Pass ⟨0, 0, 0, 0⟩)) ts ∧ ∀ (D : Ends) (u1 u2 u3 u4 u5 u6 : Option V) (p ce : Addr) (m : Nat) (G : Hp), PenAt G p ce m → m ≤ 10000000 →
      (∀ (x : V) G', OddR K G' x → PenAt G' p ce (m + 1) → But p G G' → D.nx [some (.ref p), u1, u2, u3, u4, u5, some x] G') → ts D [some (.ref p), u1, u2, u3, u4, u5, u6] G := by
  refine ⟨_, ps_set (i := 6) sc_pt.nd rfl (.inr rfl) (C8.pe_c cPk hr (by decide) (by rfl) (pa_cons (pv 0) (pa_cons (pe_lst (pa_cons pe_str (pa_cons pe_str (pa_cons pe_str (pa_cons pe_non (pa_cons pe_int (pa_cons pe_str (pa_cons pe_str (pa_cons (pe_lst (pa_cons pe_str pa_nil)) (pa_cons pe_str (pa_cons pe_str pa_nil))))))))))) pa_nil))), ?_⟩
  intro D u1 u2 u3 u4 u5 u6 p ce m G gp hm fin
  refine ⟨_, rfl, (by show 1 ≤ sizeLine; exact len_line (by decide)), fun l hl => ?_⟩
  have s1 := same_new (o := .lst [V.str "abcd"]) hl
  have g1 : (upd G l (.lst [V.str "abcd"])) l = some (.lst [V.str "abcd"]) := upd_same
  generalize (upd G l (.lst [V.str "abcd"])) = G1 at s1 g1 ⊢
  refine ⟨(by show 10 ≤ sizeLine; exact len_line (by decide)), fun q hq => ?_⟩
  have s2 := same_new (o := .lst [V.str "", V.str "ab", V.str "abc", V.non, V.int 4, V.str "abca", V.str "abcD", V.ref l, V.str "abcdefghi", V.str "ab cd"]) hq
  have g2 : (upd G1 q (.lst [V.str "", V.str "ab", V.str "abc", V.non, V.int 4, V.str "abca", V.str "abcD", V.ref l, V.str "abcdefghi", V.str "ab cd"])) q = some (.lst [V.str "", V.str "ab", V.str "abc", V.non, V.int 4, V.str "abca", V.str "abcD", V.ref l, V.str "abcdefghi", V.str "ab cd"]) := upd_same
  generalize (upd G1 q (.lst [V.str "", V.str "ab", V.str "abc", V.non, V.int 4, V.str "abca", V.str "abcD", V.ref l, V.str "abcdefghi", V.str "ab cd"])) = G2 at s2 g2 ⊢
  have gp2 := (gp.same s1).same s2
  have gl2 := s2 _ _ g1
  refine ⟨p, ce, q, m, _, rfl, gp2, by omega, g2, (by show 0 < 10; decide), (by show 10 < 1073741824; decide), fun i x G3 hx gp3 b3 => ?_⟩
  have gl3 := b3 _ _ (pen_ne gp2 gl2 fun _ _ _ z => by cases z) gl2
  refine fin x G3 ?_ gp3 ((But.of (s1.trans s2)).trans b3)
  match i, hx with
  | 0, hx => cases hx; rw [show ("" : Str) = S [] from by decide +kernel]; exact odd_str [] (by decide) (by decide) (by decide) (.inr (by decide))
  | 1, hx => cases hx; rw [show ("ab" : Str) = S [97, 98] from by decide +kernel]; exact odd_str _ (by decide) (by decide) (by decide) (.inr (by decide))
  | 2, hx => cases hx; rw [show ("abc" : Str) = S [97, 98, 99] from by decide +kernel]; exact odd_str _ (by decide) (by decide) (by decide) (.inr (by decide))
  | 3, hx => cases hx; exact ⟨rfl, _, .non, rfl, .inr ⟨rfl, .inl (.inl ⟨_, .base .non, kit_ty (by decide +kernel)⟩)⟩⟩
  | 4, hx => cases hx; exact ⟨rfl, _, .int _, rfl, .inr ⟨rfl, .inl (.inl ⟨_, .base (.int _), kit_ty (by decide +kernel)⟩)⟩⟩
  | 5, hx => cases hx; rw [show ("abca" : Str) = S [97, 98, 99, 97] from by decide +kernel]; exact odd_str _ (by decide) (by decide) (by decide) (.inl (by decide))
  | 6, hx => cases hx; rw [show ("abcD" : Str) = S [97, 98, 99, 68] from by decide +kernel]; exact odd_str _ (by decide) (by decide) (by decide) (.inl (by decide))
  | 7, hx => cases hx; exact ⟨rfl, _, .lst (SqL.of gl3) (.cons (.str _) .nil), by decide +kernel, .inr ⟨rfl, .inl (.inl ⟨_, .base (.lst gl3), kit_ty (by decide +kernel)⟩)⟩⟩
  | 8, hx => cases hx; rw [show ("abcdefghi" : Str) = S nine from by decide +kernel]; exact ⟨rfl, _, .str _, by decide +kernel, .inl ⟨rfl, by decide +kernel⟩⟩
  | 9, hx => cases hx; rw [show ("ab cd" : Str) = S [97, 98, 32, 99, 100] from by decide +kernel]; exact odd_str _ (by decide) (by decide) (by decide) (.inl (by decide))
def DueR (K : PySem.W.Frag) (H : Hp) (x v : V) : Prop := plainV x = true ∧ ((x = .str (S nine) ∧ ∃ tq, v = .ref tq ∧ SqT K H tq [.str "many", .int 8]) ∨ (RingBad K H x ∧ ∃ tq, v = .ref tq ∧ SqT K H tq [.str "plan", x]))
theorem RingBad.same {K : PySem.W.Frag} {H H' : Hp} {y : V} (h : RingBad K H y) (s : L2.Same H H') : RingBad K H' y := h.elim (fun z => .inl (NoLet.same z s)) .inr
theorem pts9 (L : Hlp P w K mg base C IP SK TM IK FE) (TT : TabT K mg base T "_law_put_together" s_law_put_together c Pt) (f : Addr) (A : Around) (outer : List Env) (s0 : PySem.Shared) (H0 : Hp) (E0 : XK) (hr : L2.Room 9 (A.deeper (envOfC "_law_put_together" (defScope s_law_put_together) s0.heap.objs.size f (.ref c))))  :
    ∃ ts, PS (px P w K mg base f c A outer s0 H0 E0) ((defBody s_law_put_together).getD 9 (.Pass ⟨0, 0, 0, 0⟩)) ts ∧ ∀ (D : Ends) (u0 u1 u2 u3 u4 u5 : Option V) (x : V) (G : Hp), OddR K G x →
      (∀ (v : V) G', DueR K G' x v → L2.Same G G' → D.nx [u0, u1, u2, u3, some v, u5, some x] G') → ts D [u0, u1, u2, u3, u4, u5, some x] G := by
  refine ⟨_, ps_set (i := 4) sc_pt.nd rfl (.inl rfl) (pe_ifExp (pt_cmpR (op_eqD hr.units) (pv 6) pe_str (nomark _)) (pe_tup (pa_cons pe_str (pa_cons pe_int pa_nil))) (pe_tup (pa_cons pe_str (pa_cons (pv 6) pa_nil)))), ?_⟩
  intro D u0 u1 u2 u3 u4 u5 x G odd fin
  obtain ⟨pl, d, dp, sh, h⟩ := odd
  rw [show ("abcdefghi" : Str) = S nine from by decide +kernel]
  refine ⟨_, rfl, d, _, dp, .str _, sh, by decide +kernel, _, rfl, ?_⟩
  rcases h with ⟨ex, e⟩ | ⟨e, bad⟩
  · rw [e]
    refine iteT ⟨(by show 2 ≤ sizeLine; exact len_line (by decide)), fun tq htq => ?_⟩
    exact fin _ _ ⟨pl, .inl ⟨ex, tq, rfl, SqT.of upd_same⟩⟩ (same_new htq)
  · rw [e]
    refine iteF ⟨_, rfl, (by show 2 ≤ sizeLine; exact len_line (by decide)), fun tq htq => ?_⟩
    exact fin _ _ ⟨pl, .inr ⟨RingBad.same bad (same_new htq), tq, rfl, SqT.of upd_same⟩⟩ (same_new htq)
theorem pts10 (L : Hlp P w K mg base C IP SK TM IK FE) (TT : TabT K mg base T "_law_put_together" s_law_put_together c Pt) (f : Addr) (A : Around) (outer : List Env) (s0 : PySem.Shared) (H0 : Hp) (E0 : XK) (hr : L2.Room 9 (A.deeper (envOfC "_law_put_together" (defScope s_law_put_together) s0.heap.objs.size f (.ref c))))  :
    ∃ ts, PS (px P w K mg base f c A outer s0 H0 E0) ((defBody s_law_put_together).getD 10 (.Pass ⟨0, 0, 0, 0⟩)) ts ∧ ∀ (D : Ends) (u0 u1 u2 u3 u5 : Option V) (x v : V) (G : Hp), DueR K G x v → Tabs T G → (∀ G', ExtN G G' → Tabs T G' → D.rt (.bl true) G') → ts D [u0, u1, u2, u3, some v, u5, some x] G := by
  have hu : (A.deeper (envOfC "_law_put_together" (defScope s_law_put_together) s0.heap.objs.size f (.ref c))).units < cLine := Nat.lt_of_succ_lt (hu_of hr)
  obtain ⟨rp, rg, rfd, rmc, rC, rF, rB⟩ := L.rg
  refine ⟨_, ps_ret (pe_cmpR (op_eqNT hu) (pe_told (t := fun E => tCSt C (spRingE K IP TM) E (tC (.ref C)) (tCons (tVar 6) tNil)) L.td L.R (by rfl) TT.lt.tb rfl TT.hT TT.one hr (by decide) (show LamS (defScope s_law_put_together) _ from lamS_by (by decide +kernel)) (by rfl) (fun _ _ _ _ _ => by rfl) (fun A outer s H E f c hr => pe_cst (C8.pe_gc (v := .ref C) (by rfl) ⟨_, L.M.g, rfl⟩) rC rF rB (hr.mono (by decide)) passN (pa_cons (pv 6) pa_nil))) (pv 4) (nomark _)), ?_⟩
  intro D u0 u1 u2 u3 u5 x v G due tb fin
  refine ⟨tb, fun H1 e1 tb1 => ?_⟩
  obtain ⟨pl, ⟨rfl, td, rfl, gd⟩ | ⟨bad, td, rfl, gd⟩⟩ := due
  · refine ⟨rfl, _, rfl, _, rfl, .inr ⟨nine, rfl, by decide, by decide, by decide, fun d H2 g2 s2 => ⟨TM, _, _, d, _, .inr (.inr (.inl ⟨rfl, rfl, rfl⟩)), rfl, rfl, g2, fun tq H3 g3 s3 => ?_⟩⟩⟩
    refine ⟨_, rfl, .inr ⟨tq, td, _, _, rfl, rfl, SqT.of g3, SqT.ext gd (e1.trans (ExtN.same (s2.trans s3))), rfl⟩, ?_⟩
    exact fin H3 (e1.trans (ExtN.same (s2.trans s3))) (tb1.ext (s2.trans s3))
  · refine ⟨rfl, _, rfl, _, rfl, .inl ⟨RingBad.ext bad e1, fun d H2 g2 s2 => ⟨IP, _, _, d, _, .inl ⟨rfl, rfl, rfl⟩, rfl, rfl, g2, fun tq H3 g3 s3 => ?_⟩⟩⟩
    refine ⟨_, rfl, .inr ⟨tq, td, _, _, rfl, rfl, SqT.of g3, SqT.ext gd (e1.trans (ExtN.same (s2.trans s3))), pl⟩, ?_⟩
    exact fin H3 (e1.trans (ExtN.same (s2.trans s3))) (tb1.ext (s2.trans s3))
end
end TX
end
section
set_option maxRecDepth 100000
set_option maxHeartbeats 8000000
/-! _law_put_together -/
namespace TX
open PySem PySem.Spec PyProof.Rows L2 LamX SX CW
def spPut (C : Addr) (T : List (Addr × Str)) : Sp := fun vs H Q _ => ∃ (p ce o : Addr) (m : Nat) (ks mo : List Nat) (X : Nat → Nat → Bool), vs = [.ref p, .ref o, .str (S mo)] ∧ PenAt H p ce m ∧ m ≤ 9000000 ∧ PlanAt C H o ks X ∧ ks.length ≤ 8 ∧ (∀ k ∈ ks, k ≤ 120) ∧ MoreL ks mo ∧ Tabs T H ∧
  ∀ H', PenAt H' p ce (m + 2) → Tabs T H' → Keeps p H H' → Q (.bl true) H'
section
variable {P : Program} {w : World} {K : PySem.W.Frag} {mg : Str → Option Value} {base : Heap} {C IP SK TM IK FE c Pt : Addr} {T : List (Addr × Str)}
theorem ok_put (F : D K mg "_law_put_together" s_law_put_together []) (L : Hlp P w K mg base C IP SK TM IK FE) (TT : TabT K mg base T "_law_put_together" s_law_put_together c Pt) (cD : C8.Cal P w K mg base 1 "_law_draw" spDraw []) (cPk : C8.Cal P w K mg base 2 "_law_pick" spPick []) : C8.Cal P w K mg base 10 "_law_put_together" (spPut C T) [] := by
  obtain ⟨f, fd, F, g⟩ := F.ex
  refine ⟨f, fd, ["_law_pen_here", "_law_one", "_law_more"], [], FunD.okC F g TT.lt sc_pt (fun vs H Q E h => ?_) (fun A outer s H vs Q E hr h => ?_), g, F.kp, F.bindsN fun _ _ _ _ _ _ us hl => match us, hl with | [_, _, _], _ => rfl, .nil⟩
  · obtain ⟨p, ce, o, m, ks, mo, X, rfl, _⟩ := h
    rfl
  · obtain ⟨p, ce, o, m, ks, mo, X, rfl, gp, hm, po, l8, k120, ml, tb, q⟩ := h
    obtain ⟨t0, h0, q0⟩ := pts0 L cD f A outer s H E hr
    obtain ⟨t1, h1, q1⟩ := pts1 L TT f A outer s H E hr
    obtain ⟨t2, h2, q2⟩ := pts2 L TT f A outer s H E hr
    obtain ⟨t3, h3, q3⟩ := pts3 L TT f A outer s H E hr
    obtain ⟨t4, h4, q4⟩ := pts4 L TT f A outer s H E hr
    obtain ⟨t5, h5, q5⟩ := pts5 L TT f A outer s H E hr
    obtain ⟨t6, h6, q6⟩ := pts6 L TT f A outer s H E hr
    obtain ⟨t7, h7, q7⟩ := pts7 L TT f A outer s H E hr
    obtain ⟨t8, h8, q8⟩ := pts8 L TT f A outer s H E hr cPk
    obtain ⟨t9, h9, q9⟩ := pts9 L TT f A outer s H E hr
    obtain ⟨t10, h10, q10⟩ := pts10 L TT f A outer s H E hr
    refine ⟨_, PSs.nox (pss_cons h0 (pss_cons h1 (pss_cons h2 (pss_cons h3 (pss_cons h4 (pss_cons h5 (pss_cons h6 (pss_cons h7 (pss_cons h8 (pss_cons h9 (pss_one h10))))))))))), ?_⟩
    refine q0 _ _ _ _ _ _ p ce m mo H gp (by omega) ml.nd ml.len ml.abc fun d tw ks2 G1 pt1 pm l82 gp1 b1 => ?_
    have po1 := PlanAt.keeps po gp (Keeps.but b1)
    have tb1 := Tabs.pen tb gp b1
    have no2 : ∀ k ∈ ks, k ∉ ks2 := fun k hk h => ml.no k (List.mem_of_mem_take (pm.mem_iff.mpr h)) hk
    refine q1 _ _ _ _ _ _ o tw ks ks2 X _ G1 po1 pt1 l8 l82 fun v1 G2 due2 s2 => ?_
    have due2' := due2
    refine q2 _ _ _ _ _ o tw ks ks2 X _ v1 G2 (po1.same s2) (pt1.same s2) l8 l82 no2 due2 (tb1.ext s2) fun G3 e3 tb3 => ?_
    have due3 : DueS K G3 (ks.length + ks2.length) v1 := due2'.elim (fun ⟨a, tq, b, g⟩ => .inl ⟨a, tq, b, SqT.ext g e3⟩) .inr
    refine q3 _ _ _ _ _ o tw ks ks2 X _ v1 G3 (PlanAt.ext (po1.same s2) e3) (PlanAt.ext (pt1.same s2) e3) l8 l82 no2 due3 tb3 fun G4 e4 tb4 => ?_
    have e24 := (ExtN.same s2).trans (e3.trans e4)
    have po4 := PlanAt.ext po1 e24
    refine q4 _ _ _ _ _ _ o ks mo X G4 po4 l8 k120 ml fun th ks3 G5 pth pm3 s5 => ?_
    have th3 := third_of po.up l8 k120 ml pm3 pth.up
    refine q5 _ _ _ _ _ _ _ o ks X G5 (po4.same s5) l8 fun v2 G6 due6 s6 => ?_
    have po6 := (po4.same s5).same s6
    refine q6 _ _ _ _ _ o th ks ks3 X _ v2 G6 po6 (pth.same s6) l8 th3 due6 (tb4.ext (s5.trans s6)) fun G7 e7 tb7 => ?_
    have due7 : DueT K G7 ks v2 := due6.elim (fun ⟨k, tq, a, b, g⟩ => .inl ⟨k, tq, a, b, SqT.ext g e7⟩) .inr
    refine q7 _ _ _ _ _ o th ks ks3 X _ v2 G7 (PlanAt.ext po6 e7) (PlanAt.ext (pth.same s6) e7) l8 th3 due7 tb7 fun G8 e8 tb8 => ?_
    have e18 : ExtN G1 G8 := e24.trans ((ExtN.same (s5.trans s6)).trans (e7.trans e8))
    have gp8 := PenAt.ext gp1 e18
    refine q8 _ _ _ _ _ _ _ p ce (m + 1) G8 gp8 (by omega) fun x G9 odd gp9 b9 => ?_
    refine q9 _ _ _ _ _ _ _ x G9 odd fun v3 G10 due10 s10 => ?_
    refine q10 _ _ _ _ _ _ x v3 G10 due10 ((Tabs.pen tb8 gp8 b9).ext s10) fun G11 e11 tb11 => ?_
    exact q G11 (PenAt.ext (gp9.same s10) e11) tb11 ((Keeps.but b1).trans ((Keeps.ext e18).trans ((Keeps.but b9).trans ((Keeps.same s10).trans (Keeps.ext e11)))))
end
end TX
end
section
set_option maxRecDepth 100000
set_option maxHeartbeats 8000000
/-! plain values: None, truths, numbers, texts, lists and tuples of texts; lists of them -/
namespace TX
open PySem PySem.Spec PyProof.Rows L2 LamX SX CW
def strOK (e : Str) : Prop := (e.cps.all fun x => decide (x < 1114112)) = true
inductive Pv (H : Hp) : V → Prop
  | non : Pv H .non
  | bl (b : Bool) : Pv H (.bl b)
  | int (i : Int) : Pv H (.int i)
  | str (l : List Nat) (hl : l.length ≤ 900) (hc : ∀ c ∈ l, c < 1114112) : Pv H (.str (S l))
  | lst {a : Addr} {es : List Str} (h : H a = some (.lst (es.map V.str))) (hc : ∀ e ∈ es, strOK e) : Pv H (.ref a)
  | tup {a : Addr} {es : List Str} (h : H a = some (.tup (es.map V.str))) (hc : ∀ e ∈ es, strOK e) : Pv H (.ref a)
theorem Pv.plain {H : Hp} {y : V} (h : Pv H y) : plainV y = true := by cases h <;> rfl
theorem Pv.ty {K : PySem.W.Frag} {H : Hp} {y : V} (h : Pv H y) : ∃ t bb, TyX K H y t ∧ PySem.W.kitOne K t (.type "bool") = some bb := by
  cases h with
  | non => exact ⟨_, false, .base .non, kit_ty (by decide +kernel)⟩
  | bl b => exact ⟨_, true, .base (.bl b), kit_ty (by decide +kernel)⟩
  | int i => exact ⟨_, false, .base (.int i), kit_ty (by decide +kernel)⟩
  | str l _ _ => exact ⟨_, false, .base (.str _), kit_ty (by decide +kernel)⟩
  | lst h _ => exact ⟨_, false, .base (.lst h), kit_ty (by decide +kernel)⟩
  | tup h _ => exact ⟨_, false, .base (.tup h), kit_ty (by decide +kernel)⟩
theorem Pv.cases {K : PySem.W.Frag} {H : Hp} {y : V} (h : Pv H y) : (∃ t, TyX K H y t ∧ PySem.W.kitOne K t (.type "str") = some false) ∨ ∃ l, y = .str (S l) ∧ l.length ≤ 900 := by
  cases h with
  | non => exact .inl ⟨_, .base .non, kit_ty (by decide +kernel)⟩
  | bl b => exact .inl ⟨_, .base (.bl b), kit_ty (by decide +kernel)⟩
  | int i => exact .inl ⟨_, .base (.int i), kit_ty (by decide +kernel)⟩
  | str l hl _ => exact .inr ⟨l, rfl, hl⟩
  | lst h _ => exact .inl ⟨_, .base (.lst h), kit_ty (by decide +kernel)⟩
  | tup h _ => exact .inl ⟨_, .base (.tup h), kit_ty (by decide +kernel)⟩
theorem lay_strs {es : List Str} (hc : ∀ e ∈ es, strOK e) : ∀ d ∈ es.map PyData.str, PyData.canLay0 d = true ∧ PyData.depth d ≤ 50 := fun d hd => by
  obtain ⟨e, he, rfl⟩ := List.mem_map.mp hd
  exact ⟨hc e he, by show (0 : Nat) ≤ 50; omega⟩
theorem lay_all : ∀ ds : List PyData, (∀ d ∈ ds, PyData.canLay0 d = true ∧ PyData.depth d ≤ 50) → PyData.canLayAll0 ds = true ∧ PyData.depthAll ds ≤ 50
  | [], _ => ⟨rfl, by show 0 ≤ 50; omega⟩
  | a :: ds, h => by
    obtain ⟨i1, i2⟩ := lay_all ds fun d hd => h d (List.mem_cons_of_mem _ hd)
    obtain ⟨a1, a2⟩ := h a List.mem_cons_self
    constructor
    · show (PyData.canLay0 a && PyData.canLayAll0 ds) = true
      rw [a1, i1]
      rfl
    · show max (PyData.depth a) (PyData.depthAll ds) ≤ 50
      omega
theorem Pv.dp {K : PySem.W.Frag} {H : Hp} {y : V} (h : Pv H y) : ∃ d, Dp K H y d ∧ PyData.canLay0 d = true ∧ PyData.depth d ≤ 60 := by
  cases h with
  | non => exact ⟨_, .non, rfl, by show (0 : Nat) ≤ 60; omega⟩
  | bl b => exact ⟨_, .bl b, rfl, by show (0 : Nat) ≤ 60; omega⟩
  | int i => exact ⟨_, .int i, rfl, by show (0 : Nat) ≤ 60; omega⟩
  | str l _ hc => exact ⟨_, .str _, by show (l.toArray.all fun x => decide (x < 1114112)) = true; simpa using hc, by show (0 : Nat) ≤ 60; omega⟩
  | @lst a es h hc =>
    obtain ⟨l1, l2⟩ := lay_all _ (lay_strs hc)
    exact ⟨_, .lst (SqL.of h) (dp_strs es), l1, by show PyData.depthAll (es.map PyData.str) + 1 ≤ 60; omega⟩
  | @tup a es h hc =>
    obtain ⟨l1, l2⟩ := lay_all _ (lay_strs hc)
    exact ⟨_, .tup (SqT.of h) (dp_strs es), l1, by show PyData.depthAll (es.map PyData.str) + 1 ≤ 60; omega⟩
theorem Pv.keeps {H H' : Hp} {p c : Addr} {m : Nat} {y : V} (h : Pv H y) (hp : PenAt H p c m) (k : Keeps p H H') : Pv H' y := by
  cases h with
  | non => exact .non
  | bl b => exact .bl b
  | int i => exact .int i
  | str l a b => exact .str l a b
  | lst h hc => exact .lst (k _ _ (pen_ne hp h fun _ _ _ z => by cases z) h fun ps z => by cases z) hc
  | tup h hc => exact .tup (k _ _ (pen_ne hp h fun _ _ _ z => by cases z) h fun ps z => by cases z) hc
theorem Pv.same {H H' : Hp} {y : V} (h : Pv H y) (k : L2.Same H H') : Pv H' y := by
  cases h with
  | non => exact .non
  | bl b => exact .bl b
  | int i => exact .int i
  | str l a b => exact .str l a b
  | lst h hc => exact .lst (k _ _ h) hc
  | tup h hc => exact .tup (k _ _ h) hc
/-- what of such a value matters here -/
def OddP (H : Hp) (zs : List Nat) (es : List Str) (y : V) : Prop := Pv H y ∧ ∀ l, y = .str (S l) → pairB zs l = false ∧ S l ∉ es
theorem OddP.np {K : PySem.W.Frag} {H : Hp} {zs : List Nat} {es : List Str} {y : V} (h : OddP H zs es y) : NoPair K H zs y := by
  rcases h.1.cases (K := K) with z | ⟨l, e, hl⟩
  · exact .inl z
  · exact .inr ⟨l, e, by omega, (h.2 l e).1⟩
/-- the list that is told: good pairs and odd ones -/
def GivL (H : Hp) (zs : List Nat) (es : List Str) (gs : List V) : Prop := gs.length ≤ 2000 ∧ (∀ y ∈ gs, (∃ e ∈ es, y = .str e) ∨ OddP H zs es y) ∧ (gs = es.map V.str ∨ ∃ y ∈ gs, OddP H zs es y)
theorem GivL.keeps {H H' : Hp} {p c : Addr} {m : Nat} {zs : List Nat} {es : List Str} {gs : List V} (h : GivL H zs es gs) (hp : PenAt H p c m) (k : Keeps p H H') : GivL H' zs es gs :=
  ⟨h.1, fun y hy => (h.2.1 y hy).imp id fun z => ⟨z.1.keeps hp k, z.2⟩, h.2.2.imp id fun ⟨y, a, b⟩ => ⟨y, a, b.1.keeps hp k, b.2⟩⟩
/-- the wrong ones of the list, in their order -/
def wrB (es : List Str) : V → Bool
  | .str e => !decide (e ∈ es)
  | _ => true
theorem inV_strs (e : Str) (es : List Str) : inV (.str e) (es.map V.str) = decide (e ∈ es) := by
  induction es with
  | nil => rfl
  | cons a es ih =>
    show (eqV (.str a) (.str e) || inV (.str e) (es.map V.str)) = _
    rw [ih]
    have z : eqV (.str a) (.str e) = decide (a = e) := by rfl
    rw [z]
    by_cases h : a = e
    · subst h; simp
    · have h2 : ¬ e = a := fun x => h x.symm
      simp [h, h2]
end TX
end
section
set_option maxRecDepth 100000
set_option maxHeartbeats 16000000
/-! the lap's statements -/
namespace TX
open PySem PySem.Spec PyProof.Rows L2 LamX SX CW
abbrev nLaw2 : List Str := ["_law_script", "_law_pen_here", "_law_lap", "_law_pairs", "_law_more", "_law_many", "_law_due", "_law_k", "_law_odd", "_law_at", "_law_good", "_law_one", "_law_wrong", "_law_given", "_law_kinds", "_law_name", "_law_told_here", "_law_letter"]
theorem sc_law : FnScope nLaw2 ["_law_script"] (defScope s_law) := ⟨rfl, rfl, rfl, by decide +kernel, rfl, by decide +kernel, by decide +kernel⟩
def forBody : Stmt → List Stmt
  | .For _ _ b _ _ => b
  | _ => []
abbrev bLoop : List Stmt := forBody ((defBody s_law).getD 1 (.Pass ⟨0, 0, 0, 0⟩))
abbrev lx (P : Program) (w : World) (K : PySem.W.Frag) (mg : Str → Option Value) (base : Heap) (f c : Addr) (A : Around) (outer : List Env) (s : PySem.Shared) (H : Hp) (E : XK) : Cx :=
  (cxOf C8.CX0 P w K mg base nLaw2 "law" (defScope s_law) f (.ref c) A outer s H E).nox
def zqL : List Nat := [122, 121, 120, 119, 118, 117, 116, 115, 114, 113]
def moreOf (ks : List Nat) : List Nat := zqL.filter fun c => !ks.contains c
theorem fstep {p : Nat → Bool} {l : List Nat} {i c : Nat} (h : l[i]? = some c) : (l.take (i + 1)).filter p = (l.take i).filter p ++ (if p c = true then [c] else []) := by
  rw [take_one h, List.filter_append]
  congr 1
  by_cases z : p c = true <;> simp [List.filter, z]
theorem moreL_of {ks : List Nat} (h : ∀ k ∈ ks, k ≤ 120) : MoreL ks (moreOf ks) := by
  have n1 : ks.contains 122 = false := by
    cases z : ks.contains 122 with
    | false => rfl
    | true => have := h 122 (List.contains_iff_mem.mp z); omega
  have n2 : ks.contains 121 = false := by
    cases z : ks.contains 121 with
    | false => rfl
    | true => have := h 121 (List.contains_iff_mem.mp z); omega
  refine ⟨(show zqL.Nodup from by decide).sublist List.filter_sublist, fun c hc => ?_, fun c hc hk => ?_, ?_, ?_⟩
  · have z := (List.mem_filter.mp hc).1
    exact (show ∀ c ∈ zqL, 113 ≤ c ∧ c ≤ 122 from by decide) c z
  · have z := (List.mem_filter.mp hc).2
    rw [List.contains_iff_mem.mpr hk] at z
    cases z
  · unfold moreOf zqL
    rw [List.filter_cons, n1, List.filter_cons, n2]
    rfl
  · have := List.length_filter_le (fun c => !ks.contains c) zqL
    have e : zqL.length = 10 := rfl
    unfold moreOf
    omega
/-- the letters that are told -/
structure ToldZ (ks zs : List Nat) : Prop where
  ok : letB zs = true
  l9 : zs.length ≤ 9
  sub : ∀ k ∈ ks, k ∈ zs
  out : ∀ x, (moreOf ks).getLast? = some x → x ∉ zs
theorem filt_out : ∀ (zq ks : List Nat), zq.Nodup → zq.length ≤ (zq.filter fun c => !ks.contains c).length + ks.length
  | [], ks, _ => Nat.zero_le _
  | a :: r, ks, nd => by
    obtain ⟨na, nr⟩ := List.nodup_cons.mp nd
    cases e : ks.contains a with
    | false =>
      have h := filt_out r ks nr
      rw [List.filter_cons, e]
      simp only [Bool.not_false, if_true, List.length_cons]
      omega
    | true =>
      have h := filt_out r (ks.erase a) nr
      have hm := List.contains_iff_mem.mp e
      have hl := List.length_erase_of_mem hm
      have l0 : 0 < ks.length := List.length_pos_of_mem hm
      have ef : (r.filter fun c => !(ks.erase a).contains c) = r.filter fun c => !ks.contains c := List.filter_congr fun x hx => by
        have ne : x ≠ a := fun z => na (z ▸ hx)
        congr 1
        rw [Bool.eq_iff_iff, List.contains_iff_mem, List.contains_iff_mem]
        exact List.mem_erase_of_ne ne
      rw [ef] at h
      rw [List.filter_cons, e]
      simp only [Bool.not_true, Bool.false_eq_true, if_false, List.length_cons]
      omega
theorem toldZ {ks : List Nat} {es : List Str} (pl : PlanL ks es) {kk : Nat} (h : kk = 0 ∨ kk = 9 - ks.length) : ToldZ ks (ks ++ (moreOf ks).take kk) := by
  have ml := moreL_of (ks := ks) fun k hk => (pl.abc k hk).2
  have l8 := pl.l8
  have nd := nodup_up pl.up
  have cnt : 10 ≤ (moreOf ks).length + ks.length := by
    have h1 := filt_out zqL ks (by decide)
    have h3 : zqL.length = 10 := rfl
    unfold moreOf
    omega
  refine ⟨?_, ?_, fun k hk => List.mem_append_left _ hk, fun x hx hz => ?_⟩
  · unfold letB
    rw [Bool.and_eq_true, decide_eq_true_iff]
    refine ⟨List.nodup_append.mpr ⟨nd, ml.nd.sublist (List.take_sublist _ _), fun a ha b hb e => ml.no b (List.mem_of_mem_take hb) (e ▸ ha)⟩, List.all_eq_true.mpr fun k hk => ?_⟩
    have z : 97 ≤ k ∧ k ≤ 122 := (List.mem_append.mp hk).elim (fun z => by have := pl.abc k z; omega) fun z => by have := ml.abc k (List.mem_of_mem_take z); omega
    unfold inAZ
    rw [decide_eq_true z.1, decide_eq_true z.2]
    rfl
  · rw [List.length_append, List.length_take]
    omega
  · have lt : kk < (moreOf ks).length := by omega
    have xin := List.mem_of_getLast? hx
    rcases List.mem_append.mp hz with z | z
    · exact ml.no x xin z
    · obtain ⟨i, hi⟩ := List.getElem?_of_mem z
      rw [List.getElem?_take] at hi
      split at hi
      · rename_i hik
        rw [List.getLast?_eq_getElem?] at hx
        have := idx_inj ml.nd hi hx
        omega
      · cases hi
section
variable {P : Program} {w : World} {K : PySem.W.Frag} {mg : Str → Option Value} {base : Heap} {C IP SK TM IK FE c Pt : Addr} {T : List (Addr × Str)}
theorem st01 (cPl : C8.Cal P w K mg base 3 "_law_plan" spPlanD []) (f : Addr) (A : Around) (outer : List Env) (s0 : PySem.Shared) (H0 : Hp) (E0 : XK) (hr : L2.Room 10 (A.deeper (envOfC "law" (defScope s_law) s0.heap.objs.size f (.ref c)))) :
    ∃ t0 t1, PS (lx P w K mg base f c A outer s0 H0 E0) (bLoop.getD 0 (.Pass ⟨0, 0, 0, 0⟩)) t0 ∧ PS (lx P w K mg base f c A outer s0 H0 E0) (bLoop.getD 1 (.Pass ⟨0, 0, 0, 0⟩)) t1 ∧ ∀ (D : Ends) (u0 u2 u3 u4 u5 u6 u7 u8 u9 u10 u11 u12 u13 u14 u15 u16 u17 : Option V) (p ce : Addr) (m : Nat) (G : Hp), PenAt G p ce m → m ≤ 1000000 → Tabs T G →
      (∀ (pl : Addr) (ks : List Nat) (es : List Str) (G' : Hp), PlanL ks es → G' pl = some (.lst (es.map V.str)) → PenAt G' p ce (m + 100) → Tabs T G' → D.nx [u0, some (.ref p), u2, some (.ref pl), some (.str (S (moreOf ks))), u5, u6, u7, u8, u9, u10, u11, u12, u13, some (.str (S ks)), u15, u16, u17] G') →
      tSeq t0 t1 D [u0, some (.ref p), u2, u3, u4, u5, u6, u7, u8, u9, u10, u11, u12, u13, u14, u15, u16, u17] G := by
  refine ⟨_, _, ps_asg (C8.pe_c cPl hr (by decide) (by rfl) (pa_cons (pv 1) (pa_cons pe_int pa_nil))) (pg_tup (by rfl) (pgs_cons (pg_name (i := 14) sc_law.nd rfl (.inr rfl)) (pgs_cons (pg_name (i := 3) sc_law.nd rfl (.inl rfl)) pgs_nil))),
    ps_set (i := 4) sc_law.nd rfl (.inl rfl) (pe_join pe_str (pe_lc (own := [("_law_letter", 17)]) (g := gName 17) (tt := tTest (tOp (fun x y H Q => ∃ (c : Nat) (z : Str), x = .str ⟨#[c]⟩ ∧ y = .str z ∧ Q (.bl (!decide (c ∈ z.cps.toList))) H) (tVar 17) (tVar 14))) rfl sc_law.nd (pi_str pe_str) (blkOk_by (own := [("_law_letter", 17)]) (N := nLaw2) (sc := defScope s_law) (by decide +kernel))
      (fun _ _ _ _ _ => pg_name (i := 17) sc_law.nd rfl (.inl rfl)) (fun _ _ _ _ _ => by exact pts_one (pt_cmpR op_notIn_sign (pv 17) (pv 14) (by rfl))) (fun _ _ _ _ _ => pv 17))), ?_⟩
  intro D u0 u2 u3 u4 u5 u6 u7 u8 u9 u10 u11 u12 u13 u14 u15 u16 u17 p ce m G gp hm tb fin
  refine ⟨_, rfl, p, ce, m, rfl, gp, hm, fun tq pl ks es G1 PL gt gpl hpl gp1 b1 => ?_⟩
  refine ⟨tq, _, rfl, SqT.of gt, rfl, _, _, rfl, _, _, rfl, rfl, ?_⟩
  rw [show ("zyxwvutsrq" : Str) = S zqL from by decide +kernel]
  have tb1 := Tabs.pen tb gp b1
  refine ⟨⟨_, rfl⟩, _, rfl, fun DD hDD => ?_⟩
  have ee : ∀ i, (zqL.take (i + 0)) = zqL.take i := fun i => rfl
  refine lc_it walk_str (fun i H' => H' DD = some (.lst (((zqL.take i).filter fun c => !ks.contains c).map fun c => V.str (S [c]))) ∧ L2.Same G1 H') ⟨upd_same, same_new hDD⟩ (fun _ _ _ _ => trivial) ?_ ?_
  · rintro i x H' H2 hi ⟨hl, sm⟩ ⟨rfl, c, hc, rfl⟩
    have hc' := getS hc
    refine ⟨rfl, _, rfl, _, rfl, c, _, rfl, rfl, _, rfl, ?_⟩
    rw [mem_S]
    have et : (zqL.take (i + 1)).filter (fun c => !ks.contains c) = (zqL.take i).filter (fun c => !ks.contains c) ++ (if (!ks.contains c) = true then [c] else []) := fstep (p := fun c => !ks.contains c) hc'
    have z := List.length_filter_le (fun c => !ks.contains c) (zqL.take i)
    rw [List.length_take] at z
    have zl : zqL.length = 10 := rfl
    cases e1 : (!ks.contains c)
    · refine iteF ⟨?_, sm⟩
      rw [et, e1]
      simpa using hl
    · refine iteT ?_
      refine ⟨_, rfl, _, hl, ?_, ?_, fun a o e => ?_⟩
      · rw [List.length_map]
        exact len_lt (by omega)
      · rw [upd_same, et, e1]
        simp
      · rw [upd_ne (ne_of_none e hDD)]
        exact sm a o e
  · rintro H' ⟨hl, sm⟩
    rw [sizeS, List.take_length] at hl
    have z := List.length_filter_le (fun c => !ks.contains c) zqL
    have zl : zqL.length = 10 := rfl
    exact join_ones (K := K) (Q := fun v H1 => D.nx [u0, some (.ref p), u2, some (.ref pl), some v, u5, u6, u7, u8, u9, u10, u11, u12, u13, some (.str (S ks)), u15, u16, u17] H1) hl (by omega) (fin pl ks es H' PL (sm _ _ gpl) (gp1.same sm) (tb1.ext sm))
theorem st24 (zl : mg "len" = none) (zx : mg "max" = none) (zli : mg "list" = none) (cPk : C8.Cal P w K mg base 2 "_law_pick" spPick []) (f : Addr) (A : Around) (outer : List Env) (s0 : PySem.Shared) (H0 : Hp) (E0 : XK) (hr : L2.Room 10 (A.deeper (envOfC "law" (defScope s_law) s0.heap.objs.size f (.ref c)))) :
    ∃ t0 t1 t2, PS (lx P w K mg base f c A outer s0 H0 E0) (bLoop.getD 2 (.Pass ⟨0, 0, 0, 0⟩)) t0 ∧ PS (lx P w K mg base f c A outer s0 H0 E0) (bLoop.getD 3 (.Pass ⟨0, 0, 0, 0⟩)) t1 ∧ PS (lx P w K mg base f c A outer s0 H0 E0) (bLoop.getD 4 (.Pass ⟨0, 0, 0, 0⟩)) t2 ∧ ∀ (D : Ends) (u0 u2 u5 u6 u7 u8 u9 u10 u11 u12 u13 u15 u16 u17 : Option V) (p ce pl : Addr) (m : Nat) (ks : List Nat) (es : List Str) (G : Hp), PenAt G p ce m → m ≤ 1000000 → Tabs T G → PlanL ks es → G pl = some (.lst (es.map V.str)) →
      (∀ (gv : Addr) (zs : List Nat) (u5 v : V) (G' : Hp), ToldZ ks zs → DueS K G' zs.length v → G' gv = some (.lst (es.map V.str)) → G' pl = some (.lst (es.map V.str)) → PenAt G' p ce (m + 1) → Tabs T G' → D.nx [u0, some (.ref p), u2, some (.ref pl), some (.str (S (moreOf ks))), some u5, some v, u7, u8, u9, u10, u11, u12, some (.ref gv), some (.str (S ks)), u15, some (.str (S zs)), u17] G') →
      tSeq t0 (tSeq t1 t2) D [u0, some (.ref p), u2, some (.ref pl), some (.str (S (moreOf ks))), u5, u6, u7, u8, u9, u10, u11, u12, u13, some (.str (S ks)), u15, u16, u17] G := by
  refine ⟨_, _, _, ps_set (i := 5) sc_law.nd rfl (.inl rfl) (C8.pe_c cPk hr (by decide) (by rfl) (pa_cons (pv 1) (pa_cons (pe_lst (pa_cons pe_int (pa_cons pe_int (pa_cons pe_int (pa_cons (pe_op op_sub pe_int (pe_callB call_len_str (by rfl) zl PySem.boot_len (pa_cons (pv 14) pa_nil))) pa_nil))))) pa_nil))),
    ps_asg (pe_tup (pa_cons (pe_op op_add_str (pv 14) (pe_slice sl_str (pv 4) po_none (po_some (pe_callB (call_max2 rfl) (by rfl) zx (by decide +kernel) (pa_cons pe_int (pa_cons (pv 5) pa_nil)))))) (pa_cons (pe_callTy call_list_of (by rfl) zli (by decide +kernel) (pa_cons (pv 3) pa_nil)) pa_nil))) (pg_tup (by rfl) (pgs_cons (pg_name (i := 16) sc_law.nd rfl (.inr rfl)) (pgs_cons (pg_name (i := 13) sc_law.nd rfl (.inr rfl)) pgs_nil))),
    ps_set (i := 6) sc_law.nd rfl (.inl rfl) (pe_ifExp (pt_cmpR op_gt (pe_callB call_len_str (by rfl) zl PySem.boot_len (pa_cons (pv 16) pa_nil)) pe_int (nomark _)) (pe_tup (pa_cons pe_str (pa_cons pe_int pa_nil))) pe_non), ?_⟩
  intro D u0 u2 u5 u6 u7 u8 u9 u10 u11 u12 u13 u15 u16 u17 p ce pl m ks es G gp hm tb PL gpl fin
  have l8 := PL.l8
  refine ⟨_, rfl, _, rfl, _, rfl, (by rw [S_len]; exact len_line (by omega)), _, _, rfl, rfl, ?_⟩
  rw [S_len]
  refine ⟨(by show 4 ≤ sizeLine; exact len_line (by decide)), fun q hq => ?_⟩
  have s1 := same_new (o := .lst [V.int 0, V.int 0, V.int 0, V.int (9 - (ks.length : Int))]) hq
  have g1 : (upd G q (.lst [V.int 0, V.int 0, V.int 0, V.int (9 - (ks.length : Int))])) q = some (.lst [V.int 0, V.int 0, V.int 0, V.int (9 - (ks.length : Int))]) := upd_same
  refine ⟨p, ce, q, m, _, rfl, gp.same s1, by omega, g1, (by show 0 < 4; decide), (by show 4 < 1073741824; decide), fun i x G1 hx gp1 b1 => ?_⟩
  obtain ⟨z, kk, rfl, hz, hk⟩ : ∃ (z : Int) (kk : Nat), x = .int z ∧ (if z > 0 then z else 0) = (kk : Int) ∧ (kk = 0 ∨ kk = 9 - ks.length) := by
    match i, hx with
    | 0, hx => exact ⟨0, 0, (Option.some.inj hx).symm, rfl, .inl rfl⟩
    | 1, hx => exact ⟨0, 0, (Option.some.inj hx).symm, rfl, .inl rfl⟩
    | 2, hx => exact ⟨0, 0, (Option.some.inj hx).symm, rfl, .inl rfl⟩
    | 3, hx => exact ⟨9 - (ks.length : Int), 9 - ks.length, (Option.some.inj hx).symm, by rw [if_pos (by omega)]; omega, .inr rfl⟩
  have gpl1 := (But.of s1).trans b1 _ _ (pen_ne gp gpl fun _ _ _ z => by cases z) gpl
  have tb1 := Tabs.pen (tb.ext s1) (gp.same s1) b1
  have lml : (moreOf ks).length ≤ 10 := (moreL_of (ks := ks) fun k hk => (PL.abc k hk).2).len
  have tz := toldZ PL hk
  refine ⟨_, rfl, _, rfl, _, rfl, _, _, rfl, ?_⟩
  rw [hz]
  refine ⟨_, rfl, _, rfl, (by rw [S_len]; exact len_line (by omega)), ?_⟩
  rw [S_cutTo]
  refine ⟨_, _, rfl, rfl, (by rw [S_len, S_len, List.length_take]; exact len_line (by omega)), ?_⟩
  rw [S_cat]
  generalize ks ++ (moreOf ks).take kk = zs at tz ⊢
  refine ⟨_, rfl, pl, _, rfl, .inl (SqL.of gpl1), fun gv hgv => ?_⟩
  have s2 := same_new (o := .lst (es.map V.str)) hgv
  have g2 : (upd G1 gv (.lst (es.map V.str))) gv = some (.lst (es.map V.str)) := upd_same
  generalize (upd G1 gv (.lst (es.map V.str))) = G2 at s2 g2 ⊢
  refine ⟨(by show 2 ≤ sizeLine; exact len_line (by decide)), fun tq htq => ?_⟩
  have s3 := same_new (o := .tup [V.str (S zs), V.ref gv]) htq
  have g3 : (upd G2 tq (.tup [V.str (S zs), V.ref gv])) tq = some (.tup [V.str (S zs), V.ref gv]) := upd_same
  generalize (upd G2 tq (.tup [V.str (S zs), V.ref gv])) = G3 at s3 g3 ⊢
  refine ⟨tq, _, rfl, SqT.of g3, rfl, _, _, rfl, _, _, rfl, rfl, ?_⟩
  have l9 := tz.l9
  refine ⟨_, rfl, _, rfl, (by rw [S_len]; exact len_line (by omega)), ?_⟩
  rw [S_len]
  refine ⟨_, _, rfl, rfl, _, rfl, ?_⟩
  have s23 := s2.trans s3
  by_cases e : 8 < zs.length
  · rw [decide_eq_true (by omega : (8 : Int) < (zs.length : Int))]
    refine iteT ⟨(by show 2 ≤ sizeLine; exact len_line (by decide)), fun td htd => ?_⟩
    have s4 := same_new (o := .tup [V.str "many", V.int 8]) htd
    exact fin gv zs _ _ _ tz (.inl ⟨e, td, rfl, SqT.of upd_same⟩) (s4 _ _ (s3 _ _ g2)) (s4 _ _ (s23 _ _ gpl1)) ((gp1.same s23).same s4) ((tb1.ext s23).ext s4)
  · rw [decide_eq_false (by omega : ¬ (8 : Int) < (zs.length : Int))]
    exact iteF (fin gv zs _ _ G3 tz (.inr ⟨by omega, rfl⟩) (s3 _ _ g2) (s23 _ _ gpl1) (gp1.same s23) (tb1.ext s23))
theorem cutV_mem {xs : List V} {lo hi : Option Int} {y : V} (h : y ∈ cutV xs lo hi) : y ∈ xs := by
  unfold cutV at h
  exact List.mem_of_mem_drop (List.mem_of_mem_take h)
theorem atI_last {l : List Nat} (h : l ≠ []) : atI l (-1) = l.getLast? := by
  have l0 : 0 < l.length := List.length_pos_iff.mpr h
  have e : ixN l.length (-1) = some (l.length - 1) := by
    unfold ixN
    rw [if_neg (by decide)]
    simp
    omega
  unfold atI
  rw [e, List.getLast?_eq_getElem?]
  rfl
theorem odd_of {H : Hp} {ks zs : List Nat} {es : List Str} (PL : PlanL ks es) (tz : ToldZ ks zs) {l : List Nat} (hl : l.length ≤ 900) (hc : ∀ c ∈ l, c < 1114112) (h : pairB zs l = false) : OddP H zs es (.str (S l)) := by
  refine ⟨.str l hl hc, fun l' e => ?_⟩
  have e2 := S_inj (V.str.inj e)
  subst e2
  refine ⟨h, fun hm => ?_⟩
  obtain ⟨a, b, e3, ha, hb, lt⟩ := PL.pr _ hm
  have e4 := S_inj e3
  subst e4
  have : pairB zs [a, b] = true := by
    show (a != b && (zs.contains a && zs.contains b)) = true
    rw [List.contains_iff_mem.mpr (tz.sub a ha), List.contains_iff_mem.mpr (tz.sub b hb), bne_iff_ne.mpr (by omega)]
    rfl
  rw [this] at h
  cases h
/-- the loop that puts odd ones into the list -/
theorem st5 (zl : mg "len" = none) (zr : mg "range" = none) (cD : C8.Cal P w K mg base 1 "_law_draw" spDraw []) (cPk : C8.Cal P w K mg base 2 "_law_pick" spPick []) (f : Addr) (A : Around) (outer : List Env) (s0 : PySem.Shared) (H0 : Hp) (E0 : XK) (hr : L2.Room 10 (A.deeper (envOfC "law" (defScope s_law) s0.heap.objs.size f (.ref c)))) :
    ∃ ts, PS (lx P w K mg base f c A outer s0 H0 E0) (bLoop.getD 5 (.Pass ⟨0, 0, 0, 0⟩)) ts ∧ ∀ (D : Ends) (u0 u2 u5 u6 u7 u8 u9 u10 u11 u12 u15 u17 : Option V) (p ce pl gv : Addr) (m : Nat) (ks zs : List Nat) (es : List Str) (G : Hp), PenAt G p ce m → m ≤ 1000000 → Tabs T G → PlanL ks es → ToldZ ks zs → G gv = some (.lst (es.map V.str)) →
      (∀ (gv : Addr) (gs : List V) (u7 u8 u9 : Option V) (G' : Hp), G' gv = some (.lst gs) → GivL G' zs es gs → PenAt G' p ce (m + 10) → Tabs T G' → Keeps p G G' → D.nx [u0, some (.ref p), u2, some (.ref pl), some (.str (S (moreOf ks))), u5, u6, u7, u8, u9, u10, u11, u12, some (.ref gv), some (.str (S ks)), u15, some (.str (S zs)), u17] G') →
      ts D [u0, some (.ref p), u2, some (.ref pl), some (.str (S (moreOf ks))), u5, u6, u7, u8, u9, u10, u11, u12, some (.ref gv), some (.str (S ks)), u15, some (.str (S zs)), u17] G := by
  refine ⟨_, ps_for PassesOwn.never rfl (pi_range1 rfl zr (pa_cons (C8.pe_c cD hr (by decide) (by rfl) (pa_cons (pv 1) (pa_cons pe_int pa_nil))) pa_nil)) (pg_name (i := 7) sc_law.nd rfl (.inl rfl))
    (pss_cons (ps_set (i := 8) sc_law.nd rfl (.inl rfl) (C8.pe_c cPk hr (by decide) (by rfl) (pa_cons (pv 1) (pa_cons (pe_lst (pa_cons pe_non (pa_cons pe_bl (pa_cons pe_int (pa_cons pe_str (pa_cons pe_str (pa_cons pe_str (pa_cons (pe_op op_rep_str (pe_slice sl_str (pv 14) po_none (po_some pe_int)) pe_int) (pa_cons (pe_op op_add_str (pe_slice sl_str (pv 14) po_none (po_some pe_int)) pe_str)
      (pa_cons (pe_lst (pa_cons pe_str pa_nil)) (pa_cons (pe_tup (pa_cons pe_str (pa_cons pe_str pa_nil))) (pa_cons (pe_op op_add_str (pe_slice sl_str (pv 14) po_none (po_some pe_int)) (pe_ix ix_str (pv 4) (pe_un un_neg pe_int) (fun _ _ => rfl))) (pa_cons pe_str pa_nil))))))))))))) pa_nil))))
    (pss_cons (ps_set (i := 9) sc_law.nd rfl (.inl rfl) (C8.pe_c cD hr (by decide) (by rfl) (pa_cons (pv 1) (pa_cons (pe_op op_add (pe_callB call_len_seq (by rfl) zl PySem.boot_len (pa_cons (pv 13) pa_nil)) pe_int) pa_nil))))
    (pss_one (ps_set (i := 13) sc_law.nd rfl (.inr rfl) (pe_op op_cat (pe_op op_cat (pe_slice sl_list (pv 13) po_none (po_some (pv 9))) (pe_lst (pa_cons (pv 8) pa_nil))) (pe_slice sl_list (pv 13) (po_some (pv 9)) po_none)))))), ?_⟩
  intro D u0 u2 u5 u6 u7 u8 u9 u10 u11 u12 u15 u17 p ce pl gv m ks zs es G gp hm tb PL tz gg fin
  have l8 := PL.l8
  have ml := moreL_of (ks := ks) fun k hk => (PL.abc k hk).2
  have lk : (S ks).length ≤ sizeLine := by rw [S_len]; exact len_line (by omega)
  have lm : (S (moreOf ks)).length ≤ sizeLine := by rw [S_len]; exact len_line (by have := ml.len; omega)
  have l1 : (ks.take 1).length ≤ 1 := by rw [List.length_take]; omega
  have mne : moreOf ks ≠ [] := fun e => by have := ml.two; rw [e] at this; cases this
  obtain ⟨x, hx⟩ : ∃ x, (moreOf ks).getLast? = some x := by
    cases e : (moreOf ks).getLast? with
    | none => exact absurd (List.getLast?_eq_none_iff.mp e) mne
    | some x => exact ⟨x, rfl⟩
  have hxz := tz.out x hx
  have xr := ml.abc x (List.mem_of_getLast? hx)
  have atm : atI (moreOf ks) (-1) = some x := (atI_last mne).trans hx
  obtain ⟨znd, zabc⟩ := let_of tz.ok
  have t1 : ks.take 1 = [] ∨ ∃ k, ks.take 1 = [k] ∧ k ∈ ks := by
    cases e : ks with
    | nil => exact .inl rfl
    | cons k r => exact .inr ⟨k, rfl, List.mem_cons_self⟩
  have kr : ∀ k ∈ ks, k < 1114112 := fun k hk => by have := PL.abc k hk; omega
  have n65 : (65 : Nat) ∉ zs := fun h => by have := zabc 65 h; omega
  have cF : ∀ c, c ∉ zs → zs.contains c = false := fun c h => by
    cases e : zs.contains c with
    | false => rfl
    | true => exact absurd (List.contains_iff_mem.mp e) h
  have oA : ∀ H : Hp, OddP H zs es (.str (S (ks.take 1 ++ ks.take 1))) := fun H => by
    rcases t1 with e | ⟨k, e, hk⟩
    · rw [e]; exact odd_of PL tz (by decide) (by decide) rfl
    · rw [e]
      refine odd_of PL tz (by simp) (fun c hc => ?_) ?_
      · have : c = k := by simpa using hc
        rw [this]; exact kr k hk
      · show (k != k && _) = false
        rw [show (k != k) = false from by simp, Bool.false_and]
  have oB : ∀ (H : Hp) (y : Nat), y ∉ zs → y < 1114112 → OddP H zs es (.str (S (ks.take 1 ++ [y]))) := fun H y hy hy2 => by
    rcases t1 with e | ⟨k, e, hk⟩
    · rw [e]
      refine odd_of PL tz (by simp) (fun c hc => ?_) rfl
      have z : c = y := by simpa using hc
      rw [z]; exact hy2
    · rw [e]
      refine odd_of PL tz (by simp) (fun c hc => ?_) ?_
      · have : c = k ∨ c = y := by simpa using hc
        rcases this with z | z
        · rw [z]; exact kr k hk
        · rw [z]; exact hy2
      · show (k != y && (zs.contains k && zs.contains y)) = false
        rw [cF y hy, Bool.and_false, Bool.and_false]
  refine ⟨_, rfl, p, ce, m, 3, rfl, gp, by decide, by decide, by omega, fun r G1 hr1 gp1 b1 => ?_⟩
  refine ⟨_, rfl, by omega, by omega, ?_⟩
  have gg1 := b1 _ _ (pen_ne gp gg fun _ _ _ z => by cases z) gg
  refine for_range (lo := 0) (n := (r : Int).toNat) (fun i σ G' => ∃ (gv : Addr) (gs : List V) (u7 u8 u9 : Option V), σ = [u0, some (.ref p), u2, some (.ref pl), some (.str (S (moreOf ks))), u5, u6, u7, u8, u9, u10, u11, u12, some (.ref gv), some (.str (S ks)), u15, some (.str (S zs)), u17] ∧ G' gv = some (.lst gs) ∧ gs.length + 1 ≤ 61 * 2 ^ i ∧ (∀ y ∈ gs, (∃ e ∈ es, y = .str e) ∨ OddP G' zs es y) ∧ (gs = es.map V.str ∨ ∃ y ∈ gs, OddP G' zs es y) ∧ PenAt G' p ce (m + 1 + 2 * i) ∧ Tabs T G' ∧ Keeps p G G')
    ⟨gv, _, u7, u8, u9, rfl, gg1, by rw [List.length_map]; have := PL.le; omega, (fun y hy => by obtain ⟨e, he, rfl⟩ := List.mem_map.mp hy; exact .inl ⟨e, he, rfl⟩), .inl rfl, gp1, Tabs.pen tb gp b1, Keeps.but b1⟩ ?_ ?_
  · rintro i σ G2 hi ⟨gv, gs, u7, u8, u9, rfl, gg2, len, all, some_, gp2, tb2, k2⟩
    have i3 : i < 3 := by omega
    have p2 : (2 : Nat) ^ i ≤ 4 := by
      have : i = 0 ∨ i = 1 ∨ i = 2 := by omega
      rcases this with e | e | e <;> rw [e] <;> decide
    have lg : gs.length ≤ 244 := by omega
    have gp2m : m + 1 + 2 * i ≤ 2000000 := by omega
    have cut1 : cutS (S ks) none (some 1) = S (ks.take 1) := S_cutTo ks 1
    refine ⟨_, rfl, _, rfl, _, rfl, _, rfl, lk, ?_⟩
    rw [cut1]
    refine ⟨ks.take 1, 2, rfl, rfl, by omega, by decide, by omega, ?_⟩
    rw [show (List.replicate 2 (ks.take 1)).flatten = ks.take 1 ++ ks.take 1 from by simp [List.replicate]]
    refine ⟨_, rfl, _, rfl, _, rfl, lk, ?_⟩
    rw [cut1, show ("A" : Str) = S [65] from by decide +kernel]
    refine ⟨_, _, rfl, rfl, (by rw [S_len, S_len]; exact len_line (by show _ + 1 ≤ _; omega)), ?_⟩
    rw [S_cat]
    refine ⟨(by show 1 ≤ sizeLine; exact len_line (by decide)), fun q1 h1 => ?_⟩
    have s1 := same_new (o := .lst [V.str "ab"]) h1
    have g1 : (upd G2 q1 (.lst [V.str "ab"])) q1 = some (.lst [V.str "ab"]) := upd_same
    generalize (upd G2 q1 (.lst [V.str "ab"])) = Ga at s1 g1 ⊢
    refine ⟨(by show 2 ≤ sizeLine; exact len_line (by decide)), fun q2 h2 => ?_⟩
    have s2 := same_new (o := .tup [V.str "a", V.str "b"]) h2
    have g2 : (upd Ga q2 (.tup [V.str "a", V.str "b"])) q2 = some (.tup [V.str "a", V.str "b"]) := upd_same
    generalize (upd Ga q2 (.tup [V.str "a", V.str "b"])) = Gb at s2 g2 ⊢
    refine ⟨_, rfl, _, rfl, _, rfl, lk, _, rfl, _, rfl, _, _, x, rfl, rfl, lm, atm, ?_⟩
    rw [cut1]
    refine ⟨_, _, rfl, rfl, (by rw [S_len]; show _ + 1 ≤ _; exact len_line (by omega)), ?_⟩
    rw [show S (ks.take 1) ++ (⟨#[x]⟩ : Str) = S (ks.take 1 ++ [x]) from S_cat _ [x]]
    refine ⟨(by show 12 ≤ sizeLine; exact len_line (by decide)), fun q3 h3 => ?_⟩
    have gpb := (gp2.same s1).same s2
    refine ⟨p, ce, q3, m + 1 + 2 * i, _, rfl, gpb.same (same_new h3), by omega, upd_same, (by show 0 < 12; decide), (by show 12 < 1073741824; decide), fun j y G3 hy gp3 b3 => ?_⟩
    have b23 := (But.of ((s1.trans s2).trans (same_new h3))).trans b3
    have g1c := ((But.of (s2.trans (same_new h3))).trans b3) _ _ (pen_ne (gp2.same s1) g1 fun _ _ _ z => by cases z) g1
    have g2c := ((But.of (same_new h3)).trans b3) _ _ (pen_ne gpb g2 fun _ _ _ z => by cases z) g2
    have k23 : Keeps p G2 G3 := Keeps.but b23
    have tb3 := Tabs.pen tb2 gp2 b23
    have gg3 := b23 _ _ (pen_ne gp2 gg2 fun _ _ _ z => by cases z) gg2
    have oY : OddP G3 zs es y := by
      match j, hy with
      | 0, hy => obtain rfl := Option.some.inj hy; exact ⟨.non, fun l e => by cases e⟩
      | 1, hy => obtain rfl := Option.some.inj hy; exact ⟨.bl true, fun l e => by cases e⟩
      | 2, hy => obtain rfl := Option.some.inj hy; exact ⟨.int 3, fun l e => by cases e⟩
      | 3, hy =>
        obtain rfl := Option.some.inj hy
        rw [show ("" : Str) = S [] from by decide +kernel]
        exact odd_of PL tz (by decide) (by decide) rfl
      | 4, hy =>
        obtain rfl := Option.some.inj hy
        rw [show ("a" : Str) = S [97] from by decide +kernel]
        exact odd_of PL tz (by decide) (by decide) rfl
      | 5, hy =>
        obtain rfl := Option.some.inj hy
        rw [show ("abc" : Str) = S [97, 98, 99] from by decide +kernel]
        exact odd_of PL tz (by decide) (by decide) rfl
      | 6, hy => obtain rfl := Option.some.inj hy; exact oA G3
      | 7, hy => obtain rfl := Option.some.inj hy; exact oB G3 65 n65 (by decide)
      | 8, hy =>
        obtain rfl := Option.some.inj hy
        exact ⟨.lst (es := ["ab"]) g1c (fun e he => by have z : e = "ab" := by simpa using he
                                                       rw [z]; unfold strOK; decide +kernel), fun l e => by cases e⟩
      | 9, hy =>
        obtain rfl := Option.some.inj hy
        exact ⟨.tup (es := ["a", "b"]) g2c (fun e he => by have z : e = "a" ∨ e = "b" := by simpa using he
                                                           rcases z with z | z <;> rw [z] <;> unfold strOK <;> decide +kernel), fun l e => by cases e⟩
      | 10, hy => obtain rfl := Option.some.inj hy; exact oB G3 x hxz (by omega)
      | 11, hy =>
        obtain rfl := Option.some.inj hy
        rw [show ("  " : Str) = S [32, 32] from by decide +kernel]
        exact odd_of PL tz (by decide) (by decide) rfl
    refine ⟨_, rfl, _, rfl, _, _, rfl, .inl (SqL.of gg3), _, _, rfl, rfl, p, ce, m + 1 + 2 * i + 1, gs.length + 1, rfl, gp3, by omega, by omega, by omega, fun at_ G4 hat gp4 b4 => ?_⟩
    have gg4 := b4 _ _ (pen_ne gp3 gg3 fun _ _ _ z => by cases z) gg3
    have oY4 : OddP G4 zs es y := ⟨oY.1.keeps gp3 (Keeps.but b4), oY.2⟩
    have tb4 := Tabs.pen tb3 gp3 b4
    have k24 := k23.trans (Keeps.but b4)
    have c1l := cutV_length gs none (some (at_ : Int))
    have c2l := cutV_length gs (some (at_ : Int)) none
    refine ⟨_, rfl, _, rfl, _, rfl, _, _, rfl, SqL.of gg4, fun c1 hc1 => ?_⟩
    have t1' := same_new (o := .lst (cutV gs none (some (at_ : Int)))) hc1
    have e1' : (upd G4 c1 (.lst (cutV gs none (some (at_ : Int))))) c1 = some (.lst (cutV gs none (some (at_ : Int)))) := upd_same
    generalize (upd G4 c1 (.lst (cutV gs none (some (at_ : Int))))) = G5 at t1' e1' ⊢
    refine ⟨_, rfl, (by show 1 ≤ sizeLine; exact len_line (by decide)), fun c2 hc2 => ?_⟩
    have t2' := same_new (o := .lst [y]) hc2
    have e2' : (upd G5 c2 (.lst [y])) c2 = some (.lst [y]) := upd_same
    generalize (upd G5 c2 (.lst [y])) = G6 at t2' e2' ⊢
    refine ⟨c1, c2, _, _, rfl, rfl, t2' _ _ e1', e2', (by show _ + 1 ≤ _; exact len_line (by omega)), fun c3 hc3 => ?_⟩
    have t3' := same_new (o := .lst (cutV gs none (some (at_ : Int)) ++ [y])) hc3
    have e3' : (upd G6 c3 (.lst (cutV gs none (some (at_ : Int)) ++ [y]))) c3 = some (.lst (cutV gs none (some (at_ : Int)) ++ [y])) := upd_same
    generalize (upd G6 c3 (.lst (cutV gs none (some (at_ : Int)) ++ [y]))) = G7 at t3' e3' ⊢
    have s47 := (t1'.trans t2').trans t3'
    refine ⟨_, rfl, _, rfl, _, rfl, _, _, rfl, SqL.of (s47 _ _ gg4), fun c4 hc4 => ?_⟩
    have t4' := same_new (o := .lst (cutV gs (some (at_ : Int)) none)) hc4
    have e4' : (upd G7 c4 (.lst (cutV gs (some (at_ : Int)) none))) c4 = some (.lst (cutV gs (some (at_ : Int)) none)) := upd_same
    generalize (upd G7 c4 (.lst (cutV gs (some (at_ : Int)) none))) = G8 at t4' e4' ⊢
    refine ⟨c3, c4, _, _, rfl, rfl, t4' _ _ e3', e4', (by rw [List.length_append]; show _ + 1 + _ ≤ _; exact len_line (by omega)), fun c5 hc5 => ?_⟩
    have s49 := (s47.trans t4').trans (same_new (o := .lst (cutV gs none (some (at_ : Int)) ++ [y] ++ cutV gs (some (at_ : Int)) none)) hc5)
    have oY9 : OddP _ zs es y := ⟨oY4.1.same s49, oY4.2⟩
    have k29 := k24.trans (Keeps.same s49)
    refine ⟨c5, _, _, _, _, rfl, upd_same, ?_, fun z hz => ?_, .inr ⟨y, ?_, oY9⟩, (gp4.mono (by omega)).same s49, tb4.ext s49, k2.trans k29⟩
    · rw [List.length_append, List.length_append, Nat.pow_succ]
      show _ + 1 + _ + 1 ≤ _
      omega
    · rcases List.mem_append.mp hz with hz | hz
      · rcases List.mem_append.mp hz with hz | hz
        · exact (all z (cutV_mem hz)).imp id fun o => ⟨o.1.keeps gp2 k29, o.2⟩
        · have : z = y := by simpa using hz
          rw [this]; exact .inr oY9
      · exact (all z (cutV_mem hz)).imp id fun o => ⟨o.1.keeps gp2 k29, o.2⟩
    · exact List.mem_append_left _ (List.mem_append_right _ List.mem_cons_self)
  · rintro σ G2 ⟨gv, gs, u7, u8, u9, rfl, gg2, len, all, some_, gp2, tb2, k2⟩
    have p2 : (2 : Nat) ^ ((r : Int).toNat) ≤ 4 := by
      have : (r : Int).toNat = 0 ∨ (r : Int).toNat = 1 ∨ (r : Int).toNat = 2 := by omega
      rcases this with e | e | e <;> rw [e] <;> decide
    exact fin gv gs _ _ _ G2 gg2 ⟨by omega, all, some_⟩ (gp2.mono (by omega)) tb2 k2
end
end TX
end
section
set_option maxRecDepth 100000
set_option maxHeartbeats 16000000
/-! the wrong ones, what is due -/
namespace TX
open PySem PySem.Spec PyProof.Rows L2 LamX SX CW
theorem OddP.wr {H : Hp} {zs : List Nat} {es : List Str} {y : V} (h : OddP H zs es y) : wrB es y = true := by
  obtain ⟨h1, h2⟩ := h
  cases h1 with
  | str l _ _ =>
    show (!decide (S l ∈ es)) = true
    rw [decide_eq_false (h2 l rfl).2]
    rfl
  | non => rfl
  | bl b => rfl
  | int i => rfl
  | lst _ _ => rfl
  | tup _ _ => rfl
theorem wr_str {es : List Str} {e : Str} (h : e ∈ es) : wrB es (.str e) = false := by
  show (!decide (e ∈ es)) = false
  rw [decide_eq_true h]
  rfl
theorem all_flat (es : List Str) : (es.map V.str).all flatV = true := by
  rw [List.all_eq_true]
  intro x hx
  obtain ⟨e, _, rfl⟩ := List.mem_map.mp hx
  rfl
theorem dp_pvs {K : PySem.W.Frag} {H : Hp} : ∀ ws : List V, (∀ y ∈ ws, Pv H y) → ∃ ds, DpAll K H ws ds ∧ (∀ d ∈ ds, PyData.canLay0 d = true ∧ PyData.depth d ≤ 60) ∧ (ws = [] ↔ ds = [])
  | [], _ => ⟨[], .nil, fun d hd => (List.not_mem_nil hd).elim, by simp⟩
  | a :: ws, h => by
    obtain ⟨ds, h1, h2, h3⟩ := dp_pvs (K := K) ws fun y hy => h y (List.mem_cons_of_mem _ hy)
    obtain ⟨d, d1, d2, d3⟩ := (h a List.mem_cons_self).dp (K := K)
    refine ⟨d :: ds, .cons d1 h1, fun x hx => ?_, by simp⟩
    rcases List.mem_cons.mp hx with e | hx
    · rw [e]; exact ⟨d2, d3⟩
    · exact h2 x hx
/-- what is due for the list -/
def DueG (K : PySem.W.Frag) (H : Hp) (zs : List Nat) (ws : List V) (v : V) : Prop :=
  (∃ y r tq, ws = y :: r ∧ v = .ref tq ∧ SqT K H tq [.str "plan", y]) ∨ (ws = [] ∧ DueS K H zs.length v)
theorem DueS.same {K : PySem.W.Frag} {H H' : Hp} {n : Nat} {v : V} (h : DueS K H n v) (s : L2.Same H H') : DueS K H' n v := h.imp (fun ⟨a, tq, e, b⟩ => ⟨a, tq, e, SqT.ext b (ExtN.same s)⟩) id
theorem DueG.keeps {K : PySem.W.Frag} {H H' : Hp} {p c : Addr} {m : Nat} {zs : List Nat} {ws : List V} {v : V} (h : DueG K H zs ws v) (hp : PenAt H p c m) (k : Keeps p H H') : DueG K H' zs ws v :=
  h.imp (fun ⟨y, r, tq, a, b, d⟩ => ⟨y, r, tq, a, b, SqT.keeps d hp k⟩) fun ⟨a, b⟩ => ⟨a, b.imp (fun ⟨x, tq, y, z⟩ => ⟨x, tq, y, SqT.keeps z hp k⟩) id⟩
/-- what is no text of letters -/
def BadZ (H : Hp) (y : V) : Prop := Pv H y ∧ ∀ l, y = .str (S l) → letB l = false
theorem BadZ.nl {K : PySem.W.Frag} {H : Hp} {y : V} (h : BadZ H y) : NoLet K H y := by
  rcases h.1.cases (K := K) with z | ⟨l, e, hl⟩
  · exact .inl z
  · exact .inr ⟨l, e, by omega, h.2 l e⟩
theorem letB_out {l : List Nat} {c : Nat} (h : c ∈ l) (n : ¬ (97 ≤ c ∧ c ≤ 122)) : letB l = false := by
  cases e : letB l with
  | false => rfl
  | true => exact absurd ((let_of e).2 c h) n
theorem letB_dup {l : List Nat} (h : ¬ l.Nodup) : letB l = false := by
  cases e : letB l with
  | false => rfl
  | true => exact absurd (let_of e).1 h
/-- what is told, what is due -/
def DueX (K : PySem.W.Frag) (H : Hp) (zs : List Nat) (ws : List V) (tv v : V) : Prop :=
  (tv = .str (S zs) ∧ DueG K H zs ws v) ∨ (BadZ H tv ∧ ∃ tq, v = .ref tq ∧ SqT K H tq [.str "plan", tv])
section
variable {P : Program} {w : World} {K : PySem.W.Frag} {mg : Str → Option Value} {base : Heap} {C IP SK TM IK FE c Pt : Addr} {T : List (Addr × Str)}
theorem st67 (zi : mg "isinstance" = none) (zs' : mg "str" = none) (f : Addr) (A : Around) (outer : List Env) (s0 : PySem.Shared) (H0 : Hp) (E0 : XK) (hr : L2.Room 10 (A.deeper (envOfC "law" (defScope s_law) s0.heap.objs.size f (.ref c)))) :
    ∃ t0 t1, PS (lx P w K mg base f c A outer s0 H0 E0) (bLoop.getD 6 (.Pass ⟨0, 0, 0, 0⟩)) t0 ∧ PS (lx P w K mg base f c A outer s0 H0 E0) (bLoop.getD 7 (.Pass ⟨0, 0, 0, 0⟩)) t1 ∧ ∀ (D : Ends) (u0 u1 u2 u4 u5 u6 u7 u8 u9 u10 u11 u12 u14 u15 u16 u17 : Option V) (pl gv : Addr) (zs : List Nat) (es : List Str) (gs : List V) (G : Hp), G gv = some (.lst gs) → G pl = some (.lst (es.map V.str)) → (∀ e ∈ es, e.length ≤ 900) → GivL G zs es gs →
      (∀ (wv : Addr) (u10 : Option V) (G' : Hp), G' wv = some (.lst (gs.filter (wrB es))) → L2.Same G G' → D.nx [u0, u1, u2, some (.ref pl), u4, u5, u6, u7, u8, u9, u10, u11, some (.ref wv), some (.ref gv), u14, u15, u16, u17] G') →
      tSeq t0 t1 D [u0, u1, u2, some (.ref pl), u4, u5, u6, u7, u8, u9, u10, u11, u12, some (.ref gv), u14, u15, u16, u17] G := by
  refine ⟨_, _, ps_set (i := 10) sc_law.nd rfl (.inr rfl) (pv 3),
    ps_setLc (i := 12) (own := [("_law_one", 11)]) (g := gName 11) rfl sc_law.nd rfl rfl (sw_true rfl rfl rfl (by decide +kernel)) (pi_list (pv 13)) (blkOk_by (own := [("_law_one", 11)]) (N := nLaw2) (sc := defScope s_law) (by decide +kernel))
      (fun _ _ _ _ _ => pg_name (i := 11) sc_law.nd rfl (.inl rfl)) (fun _ _ _ _ _ => by exact pts_one (PW.pt (pw_or (pt_not (pt_val (pe_callB (r := rIsi K) call_isi (by rfl) zi PyProof.Rows.boot_isinstance (pa_cons (pv 11) (pa_cons (pe_bltn (v := .ty "str") (by rfl) zs' (by decide +kernel) rfl) pa_nil)))))
        (pw_or1 (pt_cmpR (r := rIn K true) op_notIn_seq (pv 11) (pv 10) (by rfl)))))) (fun _ _ _ _ _ => pv 11), ?_⟩
  intro D u0 u1 u2 u4 u5 u6 u7 u8 u9 u10 u11 u12 u14 u15 u16 u17 pl gv zs es gs G gg gpl eL GL fin
  refine ⟨_, rfl, _, rfl, gv, rfl, ⟨gs, SqL.of gg⟩, fun DD hDD => ?_⟩
  refine lc_it walk_list (fun i H' => H' DD = some (.lst ((gs.take i).filter (wrB es))) ∧ L2.Same G H') ⟨upd_same, same_new hDD⟩ (fun _ H' _ h => SqL.of (h.2 _ _ gg)) ?_ ?_
  · rintro i x H2 H' hi ⟨hl, sm⟩ ⟨rfl, hc⟩
    have et : (gs.take (i + 1)).filter (wrB es) = (gs.take i).filter (wrB es) ++ (if wrB es x = true then [x] else []) := by
      rw [take_one hc, List.filter_append]
      congr 1
      by_cases z : wrB es x = true <;> simp [List.filter, z]
    have z := List.length_filter_le (wrB es) (gs.take i)
    rw [List.length_take] at z
    have zg := GL.1
    have keepx : wrB es x = true → ∃ acc, H' DD = some (.lst acc) ∧ acc.length < sizeLine ∧ ((upd H' DD (.lst (acc ++ [x]))) DD = some (.lst ((gs.take (i + 1)).filter (wrB es))) ∧ L2.Same G (upd H' DD (.lst (acc ++ [x])))) := fun e => by
      refine ⟨_, hl, len_lt (by omega), ?_, fun a o e => ?_⟩
      · rw [upd_same, et, if_pos e]
      · rw [upd_ne (ne_of_none e hDD)]
        exact sm a o e
    have dropx : wrB es x = false → (H' DD = some (.lst ((gs.take (i + 1)).filter (wrB es))) ∧ L2.Same G H') := fun e => by
      refine ⟨?_, sm⟩
      rw [et, e]
      simpa using hl
    refine ⟨rfl, ?_⟩
    rcases GL.2.1 x (List.mem_of_getElem? hc) with ⟨e, he, rfl⟩ | o
    · refine ⟨_, rfl, _, _, .type "str", .type "str", true, rfl, .ty _, .base (.str _), kit_ty (by decide +kernel), _, rfl, iteF ?_⟩
      refine ⟨_, rfl, _, rfl, pl, _, rfl, .inl (SqL.of (sm _ _ gpl)), rfl, all_flat es, ?_⟩
      rw [if_pos rfl, inV_strs, decide_eq_true he]
      exact ⟨_, rfl, iteF (dropx (wr_str he))⟩
    · rcases o.1.cases (K := K) with ⟨t, ty, kt⟩ | ⟨l, rfl, hl900⟩
      · refine ⟨_, rfl, _, _, t, .type "str", false, rfl, .ty _, TyX.same ty sm, kt, _, rfl, iteT (iteT ?_)⟩
        exact ⟨_, rfl, keepx o.wr⟩
      · refine ⟨_, rfl, _, _, .type "str", .type "str", true, rfl, .ty _, .base (.str _), kit_ty (by decide +kernel), _, rfl, iteF ?_⟩
        refine ⟨_, rfl, _, rfl, pl, _, rfl, .inl (SqL.of (sm _ _ gpl)), rfl, all_flat es, ?_⟩
        rw [if_pos rfl, inV_strs, decide_eq_false (o.2 l rfl).2]
        exact ⟨_, rfl, iteT ⟨_, rfl, keepx o.wr⟩⟩
  · rintro H' ⟨hl, sm⟩
    rw [List.take_length] at hl
    exact fin DD _ H' hl sm
theorem st8 (f : Addr) (A : Around) (outer : List Env) (s0 : PySem.Shared) (H0 : Hp) (E0 : XK) (hr : L2.Room 10 (A.deeper (envOfC "law" (defScope s_law) s0.heap.objs.size f (.ref c)))) :
    ∃ ts, PS (lx P w K mg base f c A outer s0 H0 E0) (bLoop.getD 8 (.Pass ⟨0, 0, 0, 0⟩)) ts ∧ ∀ (D : Ends) (u0 u1 u2 u3 u4 u5 u7 u8 u9 u10 u11 u13 u14 u15 u16 u17 : Option V) (wv : Addr) (zs : List Nat) (ws : List V) (v : V) (G : Hp), G wv = some (.lst ws) → (∀ y ∈ ws, Pv G y) → ws.length ≤ 2000 → DueS K G zs.length v →
      (∀ (v' : V) (G' : Hp), DueG K G' zs ws v' → L2.Same G G' → D.nx [u0, u1, u2, u3, u4, u5, some v', u7, u8, u9, u10, u11, some (.ref wv), u13, u14, u15, u16, u17] G') →
      ts D [u0, u1, u2, u3, u4, u5, some v, u7, u8, u9, u10, u11, some (.ref wv), u13, u14, u15, u16, u17] G := by
  refine ⟨_, ps_if (pt_cmpR (op_neD hr.units) (pv 12) (pe_lst pa_nil) (nomark _)) (pss_one (ps_set (i := 6) sc_law.nd rfl (.inl rfl) (pe_tup (pa_cons pe_str (pa_cons (pe_ix (r := rIxL K) ix_list (pv 12) pe_int (fun _ _ => rfl)) pa_nil))))) pss_nil, ?_⟩
  intro D u0 u1 u2 u3 u4 u5 u7 u8 u9 u10 u11 u13 u14 u15 u16 u17 wv zs ws v G gw pvs wl ds fin
  refine ⟨_, rfl, (by show 0 ≤ sizeLine; exact len_line (by decide)), fun q hq => ?_⟩
  have s1 := same_new (o := .lst []) hq
  have g1 : (upd G q (.lst [])) q = some (.lst []) := upd_same
  generalize (upd G q (.lst [])) = G1 at s1 g1 ⊢
  obtain ⟨dl, d1, d2, d3⟩ := dp_pvs (K := K) (H := G1) ws fun y hy => (pvs y hy).same s1
  refine ⟨.list dl, .list [], .lst (SqL.of (s1 _ _ gw)) d1, .lst (SqL.of g1) .nil, sh_flat dl d2, rfl, _, rfl, ?_⟩
  cases ws with
  | nil =>
    rw [d3.mp rfl]
    exact iteF (fin _ G1 (.inr ⟨rfl, ds.same s1⟩) s1)
  | cons y r =>
    cases dl with
    | nil => exact absurd (d3.mpr rfl) (by simp)
    | cons d dr =>
      refine iteT ⟨_, rfl, wv, _, 0, y, rfl, rfl, SqL.of (s1 _ _ gw), atI_nat (j := 0) rfl, (by show 2 ≤ sizeLine; exact len_line (by decide)), fun tq htq => ?_⟩
      exact fin _ _ (.inl ⟨y, r, tq, rfl, rfl, SqT.of upd_same⟩) (s1.trans (same_new htq))
theorem st9 (cD : C8.Cal P w K mg base 1 "_law_draw" spDraw []) (cPk : C8.Cal P w K mg base 2 "_law_pick" spPick []) (f : Addr) (A : Around) (outer : List Env) (s0 : PySem.Shared) (H0 : Hp) (E0 : XK) (hr : L2.Room 10 (A.deeper (envOfC "law" (defScope s_law) s0.heap.objs.size f (.ref c)))) :
    ∃ ts, PS (lx P w K mg base f c A outer s0 H0 E0) (bLoop.getD 9 (.Pass ⟨0, 0, 0, 0⟩)) ts ∧ ∀ (D : Ends) (u0 u2 u3 u4 u5 u7 u8 u9 u10 u11 u12 u13 u14 u15 u17 : Option V) (p ce : Addr) (m : Nat) (zs : List Nat) (ws : List V) (v : V) (G : Hp), PenAt G p ce m → m ≤ 1000000 → letB zs = true → zs.length ≤ 9 → DueG K G zs ws v →
      (∀ (tv v' : V) (G' : Hp), DueX K G' zs ws tv v' → PenAt G' p ce (m + 2) → But p G G' → D.nx [u0, some (.ref p), u2, u3, u4, u5, some v', u7, u8, u9, u10, u11, u12, u13, u14, u15, some tv, u17] G') →
      ts D [u0, some (.ref p), u2, u3, u4, u5, some v, u7, u8, u9, u10, u11, u12, u13, u14, u15, some (.str (S zs)), u17] G := by
  refine ⟨_, ps_if (pt_cmpR op_eq (C8.pe_c cD hr (by decide) (by rfl) (pa_cons (pv 1) (pa_cons pe_int pa_nil))) pe_int (nomark _)) (pss_cons (ps_set (i := 16) sc_law.nd rfl (.inr rfl) (C8.pe_c cPk hr (by decide) (by rfl) (pa_cons (pv 1) (pa_cons (pe_lst (pa_cons pe_non (pa_cons pe_int (pa_cons (pe_lst (pa_cons pe_str pa_nil)) (pa_cons (pe_op op_add_str (pv 16) pe_str)
      (pa_cons (pe_op op_add_str (pe_op op_add_str (pv 16) (pe_slice sl_str (pv 16) po_none (po_some pe_int))) pe_str) (pa_cons pe_str (pa_cons pe_bl (pa_cons (pe_tup (pa_cons pe_str pa_nil)) pa_nil))))))))) pa_nil))))
    (pss_one (ps_set (i := 6) sc_law.nd rfl (.inl rfl) (pe_tup (pa_cons pe_str (pa_cons (pv 16) pa_nil)))))) pss_nil, ?_⟩
  intro D u0 u2 u3 u4 u5 u7 u8 u9 u10 u11 u12 u13 u14 u15 u17 p ce m zs ws v G gp hm lt l9 du fin
  obtain ⟨znd, zabc⟩ := let_of lt
  have zl : (S zs).length ≤ sizeLine := by rw [S_len]; exact len_line (by omega)
  have z1 : (zs.take 1).length ≤ 1 := by rw [List.length_take]; omega
  have zr : ∀ c ∈ zs, c < 1114112 := fun c hc => by have := zabc c hc; omega
  refine ⟨_, rfl, p, ce, m, 4, rfl, gp, by decide, by decide, by omega, fun d G1 hd gp1 b1 => ?_⟩
  refine ⟨rfl, _, rfl, ?_⟩
  by_cases e : (V.int (d : Int)) = V.int 0
  · rw [decide_eq_true e]
    refine iteT ?_
    refine ⟨_, rfl, (by show 1 ≤ sizeLine; exact len_line (by decide)), fun q1 h1 => ?_⟩
    have s1 := same_new (o := .lst [V.str "a"]) h1
    have g1 : (upd G1 q1 (.lst [V.str "a"])) q1 = some (.lst [V.str "a"]) := upd_same
    generalize (upd G1 q1 (.lst [V.str "a"])) = Ga at s1 g1 ⊢
    refine ⟨_, rfl, _, _, rfl, rfl, (by rw [S_len]; show _ + 1 ≤ _; exact len_line (by omega)), ?_⟩
    rw [show ("Z" : Str) = S [90] from by decide +kernel, S_cat]
    refine ⟨_, rfl, _, rfl, _, rfl, _, rfl, zl, ?_⟩
    rw [show cutS (S zs) none (some 1) = S (zs.take 1) from S_cutTo zs 1]
    refine ⟨_, _, rfl, rfl, (by rw [S_len, S_len]; exact len_line (by omega)), ?_⟩
    rw [S_cat]
    refine ⟨_, _, rfl, rfl, (by rw [S_len, List.length_append]; show _ + 2 ≤ _; exact len_line (by omega)), ?_⟩
    rw [show ("aa" : Str) = S [97, 97] from by decide +kernel, S_cat]
    refine ⟨(by show 1 ≤ sizeLine; exact len_line (by decide)), fun q2 h2 => ?_⟩
    have s2 := same_new (o := .tup [V.str "a"]) h2
    have g2 : (upd Ga q2 (.tup [V.str "a"])) q2 = some (.tup [V.str "a"]) := upd_same
    generalize (upd Ga q2 (.tup [V.str "a"])) = Gb at s2 g2 ⊢
    refine ⟨(by show 8 ≤ sizeLine; exact len_line (by decide)), fun q3 h3 => ?_⟩
    have gpb := (gp1.same s1).same s2
    refine ⟨p, ce, q3, m + 1, _, rfl, gpb.same (same_new h3), by omega, upd_same, (by show 0 < 8; decide), (by show 8 < 1073741824; decide), fun j y G3 hy gp3 b3 => ?_⟩
    have b13 := (But.of ((s1.trans s2).trans (same_new h3))).trans b3
    have g1c := ((But.of (s2.trans (same_new h3))).trans b3) _ _ (pen_ne (gp1.same s1) g1 fun _ _ _ z => by cases z) g1
    have g2c := ((But.of (same_new h3)).trans b3) _ _ (pen_ne gpb g2 fun _ _ _ z => by cases z) g2
    have oY : BadZ G3 y := by
      match j, hy with
      | 0, hy => obtain rfl := Option.some.inj hy; exact ⟨.non, fun l e => by cases e⟩
      | 1, hy => obtain rfl := Option.some.inj hy; exact ⟨.int 7, fun l e => by cases e⟩
      | 2, hy =>
        obtain rfl := Option.some.inj hy
        exact ⟨.lst (es := ["a"]) g1c (fun e he => by
          have z : e = "a" := by simpa using he
          rw [z]; unfold strOK; decide +kernel), fun l e => by cases e⟩
      | 3, hy =>
        obtain rfl := Option.some.inj hy
        refine ⟨.str _ (by rw [List.length_append]; show _ + 1 ≤ _; omega) (fun c hc => ?_), fun l e => ?_⟩
        · rcases List.mem_append.mp hc with z | z
          · exact zr c z
          · have : c = 90 := by simpa using z
            omega
        · rw [← S_inj (V.str.inj e)]
          exact letB_out (c := 90) (List.mem_append_right _ List.mem_cons_self) (by decide)
      | 4, hy =>
        obtain rfl := Option.some.inj hy
        refine ⟨.str _ (by rw [List.length_append, List.length_append]; show _ + _ + 2 ≤ _; omega) (fun c hc => ?_), fun l e => ?_⟩
        · rcases List.mem_append.mp hc with z | z
          · rcases List.mem_append.mp z with z | z
            · exact zr c z
            · exact zr c (List.mem_of_mem_take z)
          · have : c = 97 := by simpa using z
            omega
        · rw [← S_inj (V.str.inj e)]
          exact letB_dup fun nd => by
            have := (List.nodup_append.mp nd).2.1
            exact absurd this (by decide)
      | 5, hy =>
        obtain rfl := Option.some.inj hy
        rw [show ("a b" : Str) = S [97, 32, 98] from by decide +kernel]
        exact ⟨.str _ (by decide) (by decide), fun l e => by rw [← S_inj (V.str.inj e)]; exact letB_out (c := 32) (by decide) (by decide)⟩
      | 6, hy => obtain rfl := Option.some.inj hy; exact ⟨.bl true, fun l e => by cases e⟩
      | 7, hy =>
        obtain rfl := Option.some.inj hy
        exact ⟨.tup (es := ["a"]) g2c (fun e he => by
          have z : e = "a" := by simpa using he
          rw [z]; unfold strOK; decide +kernel), fun l e => by cases e⟩
    refine ⟨_, rfl, (by show 2 ≤ sizeLine; exact len_line (by decide)), fun tq htq => ?_⟩
    have s4 := same_new (o := .tup [V.str "plan", y]) htq
    exact fin y _ _ (.inr ⟨⟨oY.1.same s4, oY.2⟩, tq, rfl, SqT.of upd_same⟩) ((gp3.same s4)) ((b1.trans b13).trans (But.of s4))
  · rw [decide_eq_false e]
    exact iteF (fin _ _ G1 (.inl ⟨rfl, du.keeps gp (Keeps.but b1)⟩) (gp1.mono (by omega)) b1)
end
end TX
end
section
set_option maxRecDepth 100000
set_option maxHeartbeats 16000000
/-! a plan that is refused, told -/
namespace TX
open PySem PySem.Spec PyProof.Rows L2 LamX SX CW
theorem Pv.ext {H H' : Hp} {y : V} (h : Pv H y) (k : ExtN H H') : Pv H' y := by
  cases h with
  | non => exact .non
  | bl b => exact .bl b
  | int i => exact .int i
  | str l a b => exact .str l a b
  | lst h hc => exact .lst (k _ _ h fun ps z => by cases z) hc
  | tup h hc => exact .tup (k _ _ h fun ps z => by cases z) hc
theorem filt_first {α : Type} {p : α → Bool} {y : α} {r : List α} : ∀ l : List α, l.filter p = y :: r → ∃ n : Nat, l[n]? = some y ∧ p y = true ∧ ∀ (i : Nat) (x : α), i < n → l[i]? = some x → p x = false
  | [], h => by cases h
  | a :: l, h => by
    cases e : p a with
    | true =>
      rw [List.filter_cons, e] at h
      obtain ⟨rfl, _⟩ := List.cons.inj h
      exact ⟨0, rfl, e, fun i x hi => absurd hi (Nat.not_lt_zero i)⟩
    | false =>
      rw [List.filter_cons, e] at h
      obtain ⟨n, h1, h2, h3⟩ := filt_first l h
      refine ⟨n + 1, h1, h2, fun i x hi hx => ?_⟩
      cases i with
      | zero => rw [← Option.some.inj hx]; exact e
      | succ j => exact h3 j x (by omega) hx
theorem wr_good {H : Hp} {zs : List Nat} {es : List Str} {gs : List V} (GL : GivL H zs es gs) {x : V} (hx : x ∈ gs) (h : wrB es x = false) : ∃ e ∈ es, x = .str e := by
  rcases GL.2.1 x hx with z | o
  · exact z
  · rw [o.wr] at h
    cases h
theorem wr_odd {H : Hp} {zs : List Nat} {es : List Str} {gs : List V} (GL : GivL H zs es gs) {x : V} (hx : x ∈ gs) (h : wrB es x = true) : OddP H zs es x := by
  rcases GL.2.1 x hx with ⟨e, he, rfl⟩ | o
  · rw [wr_str he] at h
    cases h
  · exact o
theorem pairV_of {ks zs : List Nat} {es : List Str} (PL : PlanL ks es) (sub : ∀ k ∈ ks, k ∈ zs) {e : Str} (he : e ∈ es) : ∃ l, e = S l ∧ l.length ≤ 90000 ∧ pairB zs l = true := by
  obtain ⟨a, b, rfl, ha, hb, lt⟩ := PL.pr e he
  refine ⟨_, rfl, by simp, ?_⟩
  show (a != b && (zs.contains a && zs.contains b)) = true
  rw [List.contains_iff_mem.mpr (sub a ha), List.contains_iff_mem.mpr (sub b hb), bne_iff_ne.mpr (by omega)]
  rfl
theorem GivL.ext {H H' : Hp} {zs : List Nat} {es : List Str} {gs : List V} (h : GivL H zs es gs) (k : ExtN H H') : GivL H' zs es gs :=
  ⟨h.1, fun y hy => (h.2.1 y hy).imp id fun z => ⟨z.1.ext k, z.2⟩, h.2.2.imp id fun ⟨y, a, b⟩ => ⟨y, a, b.1.ext k, b.2⟩⟩
theorem DueX.ext {K : PySem.W.Frag} {H H' : Hp} {zs : List Nat} {ws : List V} {tv v : V} (h : DueX K H zs ws tv v) (k : ExtN H H') : DueX K H' zs ws tv v :=
  h.imp (fun ⟨a, b⟩ => ⟨a, b.imp (fun ⟨y, r, tq, c, d, e⟩ => ⟨y, r, tq, c, d, SqT.ext e k⟩) fun ⟨c, d⟩ => ⟨c, d.imp (fun ⟨x, tq, y, z⟩ => ⟨x, tq, y, SqT.ext z k⟩) id⟩⟩) fun ⟨a, tq, b, c⟩ => ⟨⟨a.1.ext k, a.2⟩, tq, b, SqT.ext c k⟩
section
variable {P : Program} {w : World} {K : PySem.W.Frag} {mg : Str → Option Value} {base : Heap} {C IP SK TM IK FE c Pt : Addr} {T : List (Addr × Str)}
/-- an error that is told, held against what is due -/
theorem like_err {H : Hp} {tq td : Addr} {tag : Str} {y : V} (h1 : SqT K H tq [.str tag, y]) (h2 : SqT K H td [.str tag, y]) (py : Pv H y) : ∃ (a b : Addr) (tag : Str) (v : V) (t : Value) (bb : Bool), V.ref tq = .ref a ∧ V.ref td = .ref b ∧ SqT K H a [.str tag, v] ∧ SqT K H b [.str tag, v] ∧ plainV v = true ∧ TyX K H v t ∧ PySem.W.kitOne K t (.type "bool") = some bb := by
  obtain ⟨t, bb, ty, kt⟩ := py.ty (K := K)
  exact ⟨tq, td, tag, y, t, bb, rfl, rfl, h1, h2, py.plain, ty, kt⟩
theorem st10 (L : Hlp P w K mg base C IP SK TM IK FE) (TT : TabT K mg base T "law" s_law c Pt) (cL : C8.Cal P w K mg base 1 "_law_like" (spLike K) []) (f : Addr) (A : Around) (outer : List Env) (s0 : PySem.Shared) (H0 : Hp) (E0 : XK) (hr : L2.Room 10 (A.deeper (envOfC "law" (defScope s_law) s0.heap.objs.size f (.ref c)))) :
    ∃ ts, PS (lx P w K mg base f c A outer s0 H0 E0) (bLoop.getD 10 (.Pass ⟨0, 0, 0, 0⟩)) ts ∧ ∀ (D : Ends) (u0 u1 u2 u3 u4 u5 u7 u8 u9 u10 u11 u12 u14 u15 u17 : Option V) (gv : Addr) (ks zs : List Nat) (es : List Str) (gs : List V) (tv v : V) (G : Hp), PlanL ks es → (∀ k ∈ ks, k ∈ zs) → letB zs = true → zs.length ≤ 9 → G gv = some (.lst gs) → GivL G zs es gs → DueX K G zs (gs.filter (wrB es)) tv v → Tabs T G →
      (∀ G', ExtN G G' → Tabs T G' → D.nx [u0, u1, u2, u3, u4, u5, some v, u7, u8, u9, u10, u11, u12, some (.ref gv), u14, u15, some tv, u17] G') →
      ts D [u0, u1, u2, u3, u4, u5, some v, u7, u8, u9, u10, u11, u12, some (.ref gv), u14, u15, some tv, u17] G := by
  obtain ⟨mf, mfd, mM, mF, mB⟩ := L.M.ex
  refine ⟨_, ps_if (pt_not (pt_val (C8.pe_c cL hr (by decide) (by rfl) (pa_cons (pe_told (t := fun E => tMake C (spPlanE K C IP TM) [] E (tCons (tVar 16) (tCons (tVar 13) tNil))) L.td L.R (by rfl) TT.lt.tb rfl TT.hT TT.one hr (by decide) (show LamS (defScope s_law) _ from lamS_by (by decide +kernel)) (by rfl) (fun _ _ _ _ _ => by rfl)
      (fun A outer s H E f c hr => pe_make mM mF (hr.mono (by decide)) (by rfl) L.M.g mB .nil passN (pa_cons (pv 16) (pa_cons (pv 13) pa_nil)))) (pa_cons (pv 6) pa_nil))))) (pss_one (ps_ret pe_bl)) pss_nil, ?_⟩
  intro D u0 u1 u2 u3 u4 u5 u7 u8 u9 u10 u11 u12 u14 u15 u17 gv ks zs es gs tv v G PL sub lt l9 gg GL du tb fin
  refine ⟨tb, fun H1 e1 tb1 => ?_⟩
  refine ⟨_, rfl, _, rfl, fun x dx hx hdx ne => ?_⟩
  have s2 : L2.Same H1 (upd (upd H1 dx (.own x)) x (.ins C dx [])) := fun b o e => by
    rw [upd_ne (ne_of_none e hx), upd_ne (ne_of_none e hdx)]
    exact e
  have gx : (upd (upd H1 dx (.own x)) x (.ins C dx [])) x = some (.ins C dx []) := upd_same
  generalize (upd (upd H1 dx (.own x)) x (.ins C dx [])) = H2 at s2 gx ⊢
  have e2 := e1.trans (ExtN.same s2)
  have gg2 : H2 gv = some (.lst gs) := e2 _ _ gg fun ps z => by cases z
  have GL2 := GL.ext e2
  have du2 := DueX.ext du e2
  have allp : ∀ x, wrB es x = false → x ∈ gs → PairV zs x := fun x h hx => by
    obtain ⟨e, he, rfl⟩ := wr_good GL hx h
    obtain ⟨l, rfl, a, b⟩ := pairV_of PL sub he
    exact ⟨l, rfl, a, b⟩
  rcases du2 with ⟨rfl, ⟨y, r, td, ew, rfl, gd⟩ | ⟨ew, due⟩⟩ | ⟨bad, td, rfl, gd⟩
  · obtain ⟨n, hn, wy, bef⟩ := filt_first gs ew
    have oy := wr_odd GL2 (List.mem_of_getElem? hn) wy
    refine .inr ⟨x, dx, gv, _, rfl, gx, .inr ⟨zs, gs, rfl, by omega, lt, .inl (SqL.of gg2), .inl ⟨n, y, hn, fun i x hi hx => allp x (bef i x hi hx) (List.mem_of_getElem? hx), oy.np, fun d H3 g3 s3 => ⟨IP, _, _, d, _, .inl ⟨rfl, rfl, rfl⟩, rfl, rfl, g3, fun tq H4 g4 s4 => ?_⟩⟩⟩⟩
    have s24 := s3.trans s4
    refine ⟨_, rfl, _, _, rfl, .inr (like_err (SqT.of g4) (SqT.ext gd (ExtN.same s24)) (oy.1.same s24)), _, rfl, iteF (fin H4 (e2.trans (ExtN.same s24)) ((tb1.ext s2).ext s24))⟩
  · have eg : gs = es.map V.str := GL2.2.2.elim id fun ⟨y, hy, o⟩ => by
      have : y ∈ gs.filter (wrB es) := List.mem_filter.mpr ⟨hy, o.wr⟩
      rw [ew] at this
      cases this
    rcases due with ⟨l8, td, rfl, gd⟩ | ⟨l8, rfl⟩
    · refine .inr ⟨x, dx, gv, _, rfl, gx, .inr ⟨zs, gs, rfl, by omega, lt, .inl (SqL.of gg2), .inr ⟨fun x hx => ?_, l8, fun d H3 g3 s3 => ⟨TM, _, _, d, _, .inr (.inr (.inl ⟨rfl, rfl, rfl⟩)), rfl, rfl, g3, fun tq H4 g4 s4 => ?_⟩⟩⟩⟩
      · rw [eg] at hx
        obtain ⟨e, he, rfl⟩ := List.mem_map.mp hx
        obtain ⟨l, rfl, a, b⟩ := pairV_of PL sub he
        exact ⟨l, rfl, a, b⟩
      · have s24 := s3.trans s4
        exact ⟨_, rfl, _, _, rfl, .inr (like_err (SqT.of g4) (SqT.ext gd (ExtN.same s24)) (.int 8)), _, rfl, iteF (fin H4 (e2.trans (ExtN.same s24)) ((tb1.ext s2).ext s24))⟩
    · refine .inl (plan_ok (es := es) gx lt l8 (.inl (by rw [← eg]; exact SqL.of gg2)) (by have := PL.le; omega) (fun e he => ?_) fun ks2 H3 pm up bx pl => ⟨rfl, ?_⟩)
      · obtain ⟨l, rfl, a, b⟩ := pairV_of PL sub he
        exact ⟨l, rfl, b⟩
      · have s13 : L2.Same H1 H3 := fun b o e => bx _ _ (ne_of_none e hx) (s2 _ _ e)
        exact ⟨_, rfl, _, _, rfl, .inl ⟨rfl, rfl⟩, _, rfl, iteF (fin H3 (e1.trans (ExtN.same s13)) (tb1.ext s13))⟩
  · refine .inr ⟨x, dx, gv, _, rfl, gx, .inl ⟨bad.nl, fun d H3 g3 s3 => ⟨IP, _, _, d, _, .inl ⟨rfl, rfl, rfl⟩, rfl, rfl, g3, fun tq H4 g4 s4 => ?_⟩⟩⟩
    have s24 := s3.trans s4
    exact ⟨_, rfl, _, _, rfl, .inr (like_err (SqT.of g4) (SqT.ext gd (ExtN.same s24)) (bad.1.same s24)), _, rfl, iteF (fin H4 (e2.trans (ExtN.same s24)) ((tb1.ext s2).ext s24))⟩
end
end TX
end
section
set_option maxRecDepth 100000
set_option maxHeartbeats 16000000
/-! the last statements of a lap -/
namespace TX
open PySem PySem.Spec PyProof.Rows L2 LamX SX CW
theorem PlanL.lt {ks : List Nat} {es : List Str} (PL : PlanL ks es) : letB ks = true := by
  unfold letB
  rw [Bool.and_eq_true, decide_eq_true_iff]
  refine ⟨nodup_up PL.up, List.all_eq_true.mpr fun k hk => ?_⟩
  obtain ⟨a, b⟩ := PL.abc k hk
  unfold inAZ
  rw [decide_eq_true a, decide_eq_true (by omega : k ≤ 122)]
  rfl
/-- a plan of what stands in its order -/
theorem plan_up {K : PySem.W.Frag} {C r dx c : Addr} {ks : List Nat} {es : List Str} {H : Hp} {Q : VK} {E : XK} (hr : H r = some (.ins C dx [])) (PL : PlanL ks es) (hs : SqL K H c (es.map V.str))
    (q : ∀ H', But r H H' → PlanAt C H' r ks (xOf es) → Q .non H') : spPlanInit K C [.ref r, .str (S ks), .ref c] H Q E := by
  refine ⟨r, dx, c, ks, ks, xOf es, es, rfl, hr, List.Perm.refl _, PL.up, fun k hk => by have := PL.abc k hk; omega, PL.l8, ⟨fun a b => by unfold xOf; rw [Bool.or_comm], fun a => ?_⟩, .inl hs, by have := PL.le; omega, fun e he => ?_, fun a b ha hb _ x => ?_, fun H' b pl => q H' b pl⟩
  · unfold xOf
    rw [Bool.or_self, decide_eq_false_iff_not]
    intro h
    obtain ⟨a', b', e, _, _, lt⟩ := PL.pr _ h
    obtain ⟨h1, h2⟩ := pair_inj e
    omega
  · obtain ⟨a, b, rfl, ha, hb, lt⟩ := PL.pr _ he
    refine ⟨a, b, rfl, ha, hb, ?_⟩
    unfold xOf
    rw [decide_eq_true he, Bool.true_or]
  · unfold xOf at x
    rw [Bool.or_eq_true, decide_eq_true_iff, decide_eq_true_iff] at x
    exact x
/-- what is no kind -/
def KindX (H : Hp) (ks : List Nat) (y : V) : Prop := Pv H y ∧ ∀ l, y = .str (S l) → ∀ c ∈ ks, l ≠ [c]
theorem KindX.kb {K : PySem.W.Frag} {IK : Addr} {H : Hp} {ks : List Nat} {y : V} {E : XK} (h : KindX H ks y) (q : ∀ d H', H' d = some (.xd [("value", y)]) → L2.Same H H' → E (.ref IK) (some d) H') : KindBad K IK ks y H E := by
  refine ⟨?_, q⟩
  rcases h.1.cases (K := K) with z | ⟨l, e, hl⟩
  · exact .inl z
  · exact .inr ⟨l, e, by omega, h.2 l e⟩
section
variable {P : Program} {w : World} {K : PySem.W.Frag} {mg : Str → Option Value} {base : Heap} {C IP SK TM IK FE c Pt : Addr} {T : List (Addr × Str)}
theorem st11 (L : Hlp P w K mg base C IP SK TM IK FE) (cPt : C8.Cal P w K mg base 10 "_law_put_together" (spPut C T) []) (f : Addr) (A : Around) (outer : List Env) (s0 : PySem.Shared) (H0 : Hp) (E0 : XK) (hr : L2.Room 10 (A.deeper (envOfC "law" (defScope s_law) s0.heap.objs.size f (.ref c)))) :
    ∃ ts, PS (lx P w K mg base f c A outer s0 H0 E0) (bLoop.getD 11 (.Pass ⟨0, 0, 0, 0⟩)) ts ∧ ∀ (D : Ends) (u0 u2 u5 u6 u7 u8 u9 u10 u11 u12 u13 u15 u16 u17 : Option V) (p ce pl : Addr) (m : Nat) (ks : List Nat) (es : List Str) (G : Hp), PlanL ks es → G pl = some (.lst (es.map V.str)) → PenAt G p ce m → m ≤ 1000000 → Tabs T G →
      (∀ G', PenAt G' p ce (m + 2) → Tabs T G' → Keeps p G G' → D.nx [u0, some (.ref p), u2, some (.ref pl), some (.str (S (moreOf ks))), u5, u6, u7, u8, u9, u10, u11, u12, u13, some (.str (S ks)), u15, u16, u17] G') →
      ts D [u0, some (.ref p), u2, some (.ref pl), some (.str (S (moreOf ks))), u5, u6, u7, u8, u9, u10, u11, u12, u13, some (.str (S ks)), u15, u16, u17] G := by
  refine ⟨_, ps_if (pt_not (pt_val (C8.pe_c cPt hr (by decide) (by rfl) (pa_cons (pv 1) (pa_cons (C8.pe_mk L.kd hr (by decide) (by rfl) (pa_cons (pv 14) (pa_cons (pv 3) pa_nil))) (pa_cons (pv 4) pa_nil)))))) (pss_one (ps_ret pe_bl)) pss_nil, ?_⟩
  intro D u0 u2 u5 u6 u7 u8 u9 u10 u11 u12 u13 u15 u16 u17 p ce pl m ks es G PL gpl gp hm tb fin
  refine ⟨_, rfl, _, rfl, _, rfl, fun x dx hx hdx ne => ?_⟩
  have s2 : L2.Same G (upd (upd G dx (.own x)) x (.ins C dx [])) := fun b o e => by
    rw [upd_ne (ne_of_none e hx), upd_ne (ne_of_none e hdx)]
    exact e
  refine plan_up (es := es) upd_same PL (SqL.of (s2 _ _ gpl)) fun H3 bx po => ⟨rfl, ?_⟩
  have s3 : L2.Same G H3 := fun b o e => bx _ _ (ne_of_none e hx) (s2 _ _ e)
  refine ⟨_, rfl, p, ce, x, m, ks, _, _, rfl, gp.same s3, by omega, po, PL.l8, fun k hk => (PL.abc k hk).2, moreL_of fun k hk => (PL.abc k hk).2, tb.ext s3, fun H4 gp4 tb4 k4 => ?_⟩
  exact ⟨_, rfl, iteF (fin H4 gp4 tb4 ((Keeps.same s3).trans k4))⟩
theorem st12 (cPk : C8.Cal P w K mg base 2 "_law_pick" spPick []) (f : Addr) (A : Around) (outer : List Env) (s0 : PySem.Shared) (H0 : Hp) (E0 : XK) (hr : L2.Room 10 (A.deeper (envOfC "law" (defScope s_law) s0.heap.objs.size f (.ref c)))) :
    ∃ ts, PS (lx P w K mg base f c A outer s0 H0 E0) (bLoop.getD 12 (.Pass ⟨0, 0, 0, 0⟩)) ts ∧ ∀ (D : Ends) (u0 u2 u3 u5 u6 u7 u8 u9 u10 u11 u12 u13 u15 u16 u17 : Option V) (p ce : Addr) (m : Nat) (ks : List Nat) (es : List Str) (G : Hp), PlanL ks es → PenAt G p ce m → m ≤ 1000000 →
      (∀ (y : V) (G' : Hp), KindX G' ks y → PenAt G' p ce (m + 1) → But p G G' → D.nx [u0, some (.ref p), u2, u3, some (.str (S (moreOf ks))), u5, u6, u7, u8, u9, u10, u11, u12, u13, some (.str (S ks)), some y, u16, u17] G') →
      ts D [u0, some (.ref p), u2, u3, some (.str (S (moreOf ks))), u5, u6, u7, u8, u9, u10, u11, u12, u13, some (.str (S ks)), u15, u16, u17] G := by
  refine ⟨_, ps_set (i := 15) sc_law.nd rfl (.inr rfl) (C8.pe_c cPk hr (by decide) (by rfl) (pa_cons (pv 1) (pa_cons (pe_lst (pa_cons pe_str (pa_cons pe_str (pa_cons pe_non (pa_cons pe_int (pa_cons (pe_ix ix_str (pv 4) pe_int (fun _ _ => rfl)) (pa_cons pe_str (pa_cons pe_bl (pa_cons (pe_tup (pa_cons pe_str pa_nil)) pa_nil))))))))) pa_nil))), ?_⟩
  intro D u0 u2 u3 u5 u6 u7 u8 u9 u10 u11 u12 u13 u15 u16 u17 p ce m ks es G PL gp hm fin
  have ml := moreL_of (ks := ks) fun k hk => (PL.abc k hk).2
  have lm : (S (moreOf ks)).length ≤ sizeLine := by rw [S_len]; exact len_line (by have := ml.len; omega)
  obtain ⟨x, xs, ex⟩ : ∃ x xs, moreOf ks = x :: xs := by
    cases e : moreOf ks with
    | nil => have := ml.two; rw [e] at this; cases this
    | cons x xs => exact ⟨x, xs, rfl⟩
  have xin : x ∈ moreOf ks := by rw [ex]; exact List.mem_cons_self
  have xno := ml.no x xin
  have xr := ml.abc x xin
  have at0 : atI (moreOf ks) 0 = some x := by
    show atI (moreOf ks) ((0 : Nat) : Int) = _
    exact atI_nat (by rw [ex]; rfl)
  refine ⟨_, rfl, _, rfl, _, _, x, rfl, rfl, lm, at0, ?_⟩
  refine ⟨(by show 1 ≤ sizeLine; exact len_line (by decide)), fun q2 h2 => ?_⟩
  have s2 := same_new (o := .tup [V.str "a"]) h2
  have g2 : (upd G q2 (.tup [V.str "a"])) q2 = some (.tup [V.str "a"]) := upd_same
  generalize (upd G q2 (.tup [V.str "a"])) = Gb at s2 g2 ⊢
  refine ⟨(by show 8 ≤ sizeLine; exact len_line (by decide)), fun q3 h3 => ?_⟩
  have gpb := gp.same s2
  refine ⟨p, ce, q3, m, _, rfl, gpb.same (same_new h3), by omega, upd_same, (by show 0 < 8; decide), (by show 8 < 1073741824; decide), fun j y G3 hy gp3 b3 => ?_⟩
  have b13 := (But.of (s2.trans (same_new h3))).trans b3
  have g2c := ((But.of (same_new h3)).trans b3) _ _ (pen_ne gpb g2 fun _ _ _ z => by cases z) g2
  refine fin y G3 ?_ gp3 b13
  match j, hy with
  | 0, hy =>
    obtain rfl := Option.some.inj hy
    rw [show ("" : Str) = S [] from by decide +kernel]
    exact ⟨.str _ (by decide) (by decide), fun l e c hc e2 => by
      rw [← S_inj (V.str.inj e)] at e2
      cases e2⟩
  | 1, hy =>
    obtain rfl := Option.some.inj hy
    rw [show ("ab" : Str) = S [97, 98] from by decide +kernel]
    exact ⟨.str _ (by decide) (by decide), fun l e c hc e2 => by
      rw [← S_inj (V.str.inj e)] at e2
      cases e2⟩
  | 2, hy => obtain rfl := Option.some.inj hy; exact ⟨.non, fun l e => by cases e⟩
  | 3, hy => obtain rfl := Option.some.inj hy; exact ⟨.int 3, fun l e => by cases e⟩
  | 4, hy =>
    obtain rfl := Option.some.inj hy
    rw [show (⟨#[x]⟩ : Str) = S [x] from rfl]
    refine ⟨.str _ (by simp) (fun c hc => ?_), fun l e c hc e2 => ?_⟩
    · have : c = x := by simpa using hc
      omega
    · rw [← S_inj (V.str.inj e)] at e2
      exact xno ((List.cons.inj e2).1 ▸ hc)
  | 5, hy =>
    obtain rfl := Option.some.inj hy
    rw [show ("A" : Str) = S [65] from by decide +kernel]
    refine ⟨.str _ (by decide) (by decide), fun l e c hc e2 => ?_⟩
    rw [← S_inj (V.str.inj e)] at e2
    have := PL.abc c hc
    have := (List.cons.inj e2).1
    omega
  | 6, hy => obtain rfl := Option.some.inj hy; exact ⟨.bl true, fun l e => by cases e⟩
  | 7, hy =>
    obtain rfl := Option.some.inj hy
    exact ⟨.tup (es := ["a"]) g2c (fun e he => by
      have z : e = "a" := by simpa using he
      rw [z]; unfold strOK; decide +kernel), fun l e => by cases e⟩
theorem st13 (L : Hlp P w K mg base C IP SK TM IK FE) (f : Addr) (A : Around) (outer : List Env) (s0 : PySem.Shared) (H0 : Hp) (E0 : XK) (hr : L2.Room 10 (A.deeper (envOfC "law" (defScope s_law) s0.heap.objs.size f (.ref c)))) :
    ∃ ts, PS (lx P w K mg base f c A outer s0 H0 E0) (bLoop.getD 13 (.Pass ⟨0, 0, 0, 0⟩)) ts ∧ ∀ (D : Ends) (u0 u1 u2 u4 u5 u6 u7 u8 u9 u10 u11 u12 u13 u15 u16 u17 : Option V) (pl : Addr) (ks : List Nat) (es : List Str) (G : Hp), PlanL ks es → G pl = some (.lst (es.map V.str)) →
      (∀ (o : Addr) (X : Nat → Nat → Bool) (G' : Hp), PlanAt C G' o ks X → L2.Same G G' → D.nx [u0, u1, u2, some (.ref pl), u4, u5, u6, u7, u8, u9, u10, some (.ref o), u12, u13, some (.str (S ks)), u15, u16, u17] G') →
      ts D [u0, u1, u2, some (.ref pl), u4, u5, u6, u7, u8, u9, u10, u11, u12, u13, some (.str (S ks)), u15, u16, u17] G := by
  refine ⟨_, ps_set (i := 11) sc_law.nd rfl (.inr rfl) (C8.pe_mk L.kd hr (by decide) (by rfl) (pa_cons (pv 14) (pa_cons (pv 3) pa_nil))), ?_⟩
  intro D u0 u1 u2 u4 u5 u6 u7 u8 u9 u10 u11 u12 u13 u15 u16 u17 pl ks es G PL gpl fin
  refine ⟨_, rfl, _, rfl, fun x dx hx hdx ne => ?_⟩
  have s2 : L2.Same G (upd (upd G dx (.own x)) x (.ins C dx [])) := fun b o e => by
    rw [upd_ne (ne_of_none e hx), upd_ne (ne_of_none e hdx)]
    exact e
  refine plan_up (es := es) upd_same PL (SqL.of (s2 _ _ gpl)) fun H3 bx po => ⟨rfl, ?_⟩
  exact fin x _ H3 po fun b o e => bx _ _ (ne_of_none e hx) (s2 _ _ e)
theorem KindX.ext {H H' : Hp} {ks : List Nat} {y : V} (h : KindX H ks y) (k : ExtN H H') : KindX H' ks y := ⟨h.1.ext k, h.2⟩
theorem st14 (L : Hlp P w K mg base C IP SK TM IK FE) (TT : TabT K mg base T "law" s_law c Pt) (cL : C8.Cal P w K mg base 1 "_law_like" (spLike K) []) (f : Addr) (A : Around) (outer : List Env) (s0 : PySem.Shared) (H0 : Hp) (E0 : XK) (hr : L2.Room 10 (A.deeper (envOfC "law" (defScope s_law) s0.heap.objs.size f (.ref c)))) :
    ∃ ts, PS (lx P w K mg base f c A outer s0 H0 E0) (bLoop.getD 14 (.Pass ⟨0, 0, 0, 0⟩)) ts ∧ ∀ (D : Ends) (u0 u1 u2 u3 u4 u5 u6 u7 u8 u9 u10 u12 u13 u16 u17 : Option V) (o : Addr) (ks : List Nat) (X : Nat → Nat → Bool) (y : V) (G : Hp), PlanAt C G o ks X → ks.length ≤ 8 → KindX G ks y → Tabs T G →
      (∀ G', ExtN G G' → Tabs T G' → D.nx [u0, u1, u2, u3, u4, u5, u6, u7, u8, u9, u10, some (.ref o), u12, u13, some (.str (S ks)), some y, u16, u17] G') →
      ts D [u0, u1, u2, u3, u4, u5, u6, u7, u8, u9, u10, some (.ref o), u12, u13, some (.str (S ks)), some y, u16, u17] G := by
  obtain ⟨cf, cfd, cF, cM, cB⟩ := L.cr
  refine ⟨_, ps_if (PW.pt (pw_and (pt_cmpR op_ne (pv 14) pe_str (nomark _)) (pw_and1 (pt_not (pt_val (C8.pe_c cL hr (by decide) (by rfl) (pa_cons (pe_told (t := fun E => tMeth C "crosses" (spCrosE K C IK) [] E (tVar 11) (tCons (tOp rIxS (tVar 14) (tC (.int 0))) (tCons (tVar 15) tNil))) L.td L.R (by rfl) TT.lt.tb rfl TT.hT TT.one hr (by decide) (show LamS (defScope s_law) _ from lamS_by (by decide +kernel)) (by rfl) (fun _ _ _ _ _ => by rfl)
      (fun A outer s H E f c hr => pe_meth (pv 11) L.iP.cl cM cF (hr.mono (by decide)) cB .nil passN (pa_cons (pe_ix ix_str (pv 14) pe_int (fun _ _ => rfl)) (pa_cons (pv 15) pa_nil)))) (pa_cons (pe_tup (pa_cons pe_str (pa_cons (pv 15) pa_nil))) pa_nil)))))))) (pss_one (ps_ret pe_bl)) pss_nil, ?_⟩
  intro D u0 u1 u2 u3 u4 u5 u6 u7 u8 u9 u10 u12 u13 u16 u17 o ks X y G po l8 kx tb fin
  refine ⟨_, rfl, rfl, _, rfl, ?_⟩
  cases ks with
  | nil =>
    rw [show (!decide (V.str (S []) = V.str "")) = false from by rw [show ("" : Str) = S [] from by decide +kernel, decide_eq_true rfl]; rfl]
    exact iteF (iteF (fin G (fun b o e _ => e) tb))
  | cons k0 kr =>
    rw [show (!decide (V.str (S (k0 :: kr)) = V.str "")) = true from by
      rw [show ("" : Str) = S [] from by decide +kernel, decide_eq_false (fun e => by have := S_inj (V.str.inj e); cases this)]; rfl]
    refine iteT ⟨tb, fun H1 e1 tb1 => ?_⟩
    have po1 := PlanAt.ext po e1
    have kx1 := kx.ext e1
    obtain ⟨dx, _, _, _, h1, _⟩ := po1.ex
    refine ⟨_, rfl, o, dx, _, rfl, h1, rfl, _, rfl, _, _, k0, rfl, rfl, (by rw [S_len]; exact len_line (by omega)), atI_nat (j := 0) rfl, _, rfl, ?_⟩
    refine ⟨o, k0 :: kr, X, _, _, rfl, po1, .inr ⟨k0, rfl, List.mem_cons_self, kx1.kb fun d H2 g2 s2 => ⟨IK, _, _, d, _, .inr (.inr (.inr ⟨rfl, rfl, rfl⟩)), rfl, rfl, g2, fun tq H3 g3 s3 => ?_⟩⟩⟩
    refine ⟨_, rfl, (by show 2 ≤ sizeLine; exact len_line (by decide)), fun td htd => ?_⟩
    have s4 := same_new (o := .tup [V.str "kind", y]) htd
    have s14 := (s2.trans s3).trans s4
    exact ⟨_, _, rfl, .inr (like_err (SqT.of (s4 _ _ g3)) (SqT.of upd_same) (kx1.1.same s14)), _, rfl, iteF (fin _ (e1.trans (ExtN.same s14)) (tb1.ext s14))⟩
theorem st15 (L : Hlp P w K mg base C IP SK TM IK FE) (TT : TabT K mg base T "law" s_law c Pt) (cL : C8.Cal P w K mg base 1 "_law_like" (spLike K) []) (f : Addr) (A : Around) (outer : List Env) (s0 : PySem.Shared) (H0 : Hp) (E0 : XK) (hr : L2.Room 10 (A.deeper (envOfC "law" (defScope s_law) s0.heap.objs.size f (.ref c)))) :
    ∃ ts, PS (lx P w K mg base f c A outer s0 H0 E0) (bLoop.getD 15 (.Pass ⟨0, 0, 0, 0⟩)) ts ∧ ∀ (D : Ends) (u0 u1 u2 u3 u4 u5 u6 u7 u8 u9 u10 u12 u13 u14 u16 u17 : Option V) (o : Addr) (ks : List Nat) (X : Nat → Nat → Bool) (y : V) (G : Hp), PlanAt C G o ks X → KindX G ks y → Tabs T G →
      (∀ G', ExtN G G' → Tabs T G' → D.nx [u0, u1, u2, u3, u4, u5, u6, u7, u8, u9, u10, some (.ref o), u12, u13, u14, some y, u16, u17] G') →
      ts D [u0, u1, u2, u3, u4, u5, u6, u7, u8, u9, u10, some (.ref o), u12, u13, u14, some y, u16, u17] G := by
  obtain ⟨cf, cfd, cF, cM, cB⟩ := L.cr
  refine ⟨_, ps_if (pt_not (pt_val (C8.pe_c cL hr (by decide) (by rfl) (pa_cons (pe_told (t := fun E => tMeth C "crosses" (spCrosE K C IK) [] E (tVar 11) (tCons (tVar 15) (tCons (tC .non) tNil))) L.td L.R (by rfl) TT.lt.tb rfl TT.hT TT.one hr (by decide) (show LamS (defScope s_law) _ from lamS_by (by decide +kernel)) (by rfl) (fun _ _ _ _ _ => by rfl)
      (fun A outer s H E f c hr => pe_meth (pv 11) L.iP.cl cM cF (hr.mono (by decide)) cB .nil passN (pa_cons (pv 15) (pa_cons pe_non pa_nil)))) (pa_cons (pe_tup (pa_cons pe_str (pa_cons (pv 15) pa_nil))) pa_nil))))) (pss_one (ps_ret pe_bl)) pss_nil, ?_⟩
  intro D u0 u1 u2 u3 u4 u5 u6 u7 u8 u9 u10 u12 u13 u14 u16 u17 o ks X y G po kx tb fin
  refine ⟨tb, fun H1 e1 tb1 => ?_⟩
  have po1 := PlanAt.ext po e1
  have kx1 := kx.ext e1
  obtain ⟨dx, _, _, _, h1, _⟩ := po1.ex
  refine ⟨_, rfl, o, dx, _, rfl, h1, rfl, _, rfl, ?_⟩
  refine ⟨o, ks, X, _, _, rfl, po1, .inl (kx1.kb fun d H2 g2 s2 => ⟨IK, _, _, d, _, .inr (.inr (.inr ⟨rfl, rfl, rfl⟩)), rfl, rfl, g2, fun tq H3 g3 s3 => ?_⟩)⟩
  refine ⟨_, rfl, (by show 2 ≤ sizeLine; exact len_line (by decide)), fun td htd => ?_⟩
  have s4 := same_new (o := .tup [V.str "kind", y]) htd
  have s14 := (s2.trans s3).trans s4
  exact ⟨_, _, rfl, .inr (like_err (SqT.of (s4 _ _ g3)) (SqT.of upd_same) (kx1.1.same s14)), _, rfl, iteF (fin _ (e1.trans (ExtN.same s14)) (tb1.ext s14))⟩
end
end TX
end
section
set_option maxRecDepth 100000
set_option maxHeartbeats 16000000
namespace TX
open PySem PySem.Spec PyProof.Rows L2 LamX SX CW
def spLaw (K : PySem.W.Frag) (T : List (Addr × Str)) : Sp := fun vs H Q _ => ∃ (s : Addr) (ns : List Int), vs = [.ref s] ∧ ns.length ≤ 63 ∧ SqL K H s (ns.map V.int) ∧ Tabs T H ∧ ∀ H', Q (.bl true) H'
section
variable {P : Program} {w : World} {K : PySem.W.Frag} {mg : Str → Option Value} {base : Heap} {C IP SK TM IK FE c Pt : Addr} {T : List (Addr × Str)}
/-- the law is True at every script -/
theorem ok_law {f : Addr} {fd : FuncData} (F : FunD K "law" "law" (defArgs s_law) (defBody s_law) (defScope s_law) [] [] f fd) (g : mg "law" = some (.ref f)) (L : Hlp P w K mg base C IP SK TM IK FE) (TT : TabT K mg base T "law" s_law c Pt)
    (zl : mg "len" = none) (zr : mg "range" = none) (zm : mg "min" = none) (zx : mg "max" = none) (zli : mg "list" = none) (zi : mg "isinstance" = none) (zs : mg "str" = none)
    (cPen : C8.Cal P w K mg base 1 "_law_pen" (spPen K) []) (cPl : C8.Cal P w K mg base 3 "_law_plan" spPlanD []) (cD : C8.Cal P w K mg base 1 "_law_draw" spDraw []) (cPk : C8.Cal P w K mg base 2 "_law_pick" spPick [])
    (cL : C8.Cal P w K mg base 1 "_law_like" (spLike K) []) (cPt : C8.Cal P w K mg base 10 "_law_put_together" (spPut C T) []) :
    FnOk P w K mg base C8.CX0 11 f fd ["_law_script"] (spLaw K T) := by
  refine FunD.okC F g TT.lt sc_law (fun vs H Q E h => ?_) (fun A outer s H vs Q E hr h => ?_)
  · obtain ⟨s, ns, rfl, _⟩ := h
    rfl
  · obtain ⟨sa, ns, rfl, l63, hs, tb, q⟩ := h
    obtain ⟨t01, t01', h01, h01', q01⟩ := st01 (T := T) cPl f A outer s H E hr
    obtain ⟨t24, t24', t24'', h24, h24', h24'', q24⟩ := st24 (T := T) zl zx zli cPk f A outer s H E hr
    obtain ⟨t5, h5, q5⟩ := st5 (T := T) zl zr cD cPk f A outer s H E hr
    obtain ⟨t67, t67', h67, h67', q67⟩ := st67 zi zs f A outer s H E hr
    obtain ⟨t8, h8, q8⟩ := st8 f A outer s H E hr
    obtain ⟨t9, h9, q9⟩ := st9 cD cPk f A outer s H E hr
    obtain ⟨t10, h10, q10⟩ := st10 L TT cL f A outer s H E hr
    obtain ⟨t11, h11, q11⟩ := st11 L cPt f A outer s H E hr
    obtain ⟨t12, h12, q12⟩ := st12 cPk f A outer s H E hr
    obtain ⟨t13, h13, q13⟩ := st13 L f A outer s H E hr
    obtain ⟨t14, h14, q14⟩ := st14 L TT cL f A outer s H E hr
    obtain ⟨t15, h15, q15⟩ := st15 L TT cL f A outer s H E hr
    refine ⟨_, PSs.nox (pss_cons (ps_set (i := 1) sc_law.nd rfl (.inl rfl) (C8.pe_c cPen hr (by decide) (by rfl) (pa_cons (pv 0) pa_nil)))
      (pss_cons (ps_for PassesOwn.never rfl (pi_range1 rfl zr (pa_cons (pe_op op_add pe_int (pe_callB (call_min2 rfl) (by rfl) zm (by decide +kernel) (pa_cons pe_int (pa_cons (pe_callB call_len_seq (by rfl) zl PySem.boot_len (pa_cons (pv 0) pa_nil)) pa_nil)))) pa_nil)) (pg_name (i := 2) sc_law.nd rfl (.inl rfl))
        (pss_cons h01 (pss_cons h01' (pss_cons h24 (pss_cons h24' (pss_cons h24'' (pss_cons h5 (pss_cons h67 (pss_cons h67' (pss_cons h8 (pss_cons h9 (pss_cons h10 (pss_cons h11 (pss_cons h12 (pss_cons h13 (pss_cons h14 (pss_one h15)))))))))))))))))
      (pss_one (ps_ret pe_bl)))), ?_⟩
    refine ⟨_, rfl, sa, ns, rfl, hs, fun p ce H1 hp1 s1 => ?_⟩
    have hs2 := s1.seq hs
    have lm : (ns.map V.int).length = ns.length := List.length_map ..
    refine ⟨_, rfl, sa, _, rfl, .inl hs2, _, _, rfl, _, _, rfl, rfl, ?_⟩
    have l9 : (3 + if ((ns.map V.int).length : Int) < 6 then ((ns.map V.int).length : Int) else 6).toNat ≤ 9 ∧ (0 : Int) ≤ 3 + (if ((ns.map V.int).length : Int) < 6 then ((ns.map V.int).length : Int) else 6) ∧ (3 + if ((ns.map V.int).length : Int) < 6 then ((ns.map V.int).length : Int) else 6) ≤ 9 := by
      split <;> omega
    obtain ⟨n9, n0, n10⟩ := l9
    refine ⟨_, rfl, Int.le_trans (by decide) n0, Int.lt_of_le_of_lt n10 (by decide), ?_⟩
    refine for_range (lo := 0) (n := (3 + if ((ns.map V.int).length : Int) < 6 then ((ns.map V.int).length : Int) else 6).toNat) (fun i σ G => ∃ u2 u3 u4 u5 u6 u7 u8 u9 u10 u11 u12 u13 u14 u15 u16 u17 : Option V, σ = [some (.ref sa), some (.ref p), u2, u3, u4, u5, u6, u7, u8, u9, u10, u11, u12, u13, u14, u15, u16, u17] ∧ PenAt G p ce (200 * i) ∧ Tabs T G) ⟨none, none, none, none, none, none, none, none, none, none, none, none, none, none, none, none, rfl, hp1, tb.ext s1⟩ ?_ ?_
    rotate_left
    · rintro σ G ⟨u2, u3, u4, u5, u6, u7, u8, u9, u10, u11, u12, u13, u14, u15, u16, u17, rfl, gp, tbE⟩
      exact q G
    rintro i σ G hi ⟨u2, u3, u4, u5, u6, u7, u8, u9, u10, u11, u12, u13, u14, u15, u16, u17, rfl, gp, tbG⟩
    have i9 : i < 9 := Nat.lt_of_lt_of_le hi n9
    clear hi
    refine q01 _ _ _ _ _ _ _ _ _ _ _ _ _ _ _ _ _ _ p ce _ G gp (by omega) tbG fun pl ks es G1 PL gpl gp1 tb1 => ?_
    refine q24 _ _ _ _ _ _ _ _ _ _ _ _ _ _ _ p ce pl _ ks es G1 gp1 (by omega) tb1 PL gpl fun gv zs v5 v6 G2 tz due gg2 gpl2 gp2 tb2 => ?_
    have sixteen : ∀ e ∈ es, e.length ≤ 900 := fun e he => by
      obtain ⟨a, b, rfl, _⟩ := PL.pr e he
      rw [S_len]
      simp
    refine q5 _ _ _ _ _ _ _ _ _ _ _ _ _ p ce pl gv _ ks zs es G2 gp2 (by omega) tb2 PL tz gg2 fun gv gs v7 v8 v9 G3 gg3 GL gp3 tb3 k3 => ?_
    have gpl3 : G3 pl = some (.lst (es.map V.str)) := k3 _ _ (pen_ne gp2 gpl2 fun _ _ _ z => by cases z) gpl2 fun ps z => by cases z
    have due3 : DueS K G3 zs.length v6 := due.imp (fun ⟨x, tq, y, z⟩ => ⟨x, tq, y, SqT.keeps z gp2 k3⟩) id
    refine q67 _ _ _ _ _ _ _ _ _ _ _ _ _ _ _ _ _ pl gv zs es gs G3 gg3 gpl3 sixteen GL fun wv v10 G4 gw4 s4 => ?_
    have GL4 := GL.ext (ExtN.same s4)
    have pv4 : ∀ y ∈ gs.filter (wrB es), Pv G4 y := fun y hy => by
      obtain ⟨a, b⟩ := List.mem_filter.mp hy
      exact (wr_odd GL4 a b).1
    have lw : (gs.filter (wrB es)).length ≤ 2000 := Nat.le_trans (List.length_filter_le _ _) GL.1
    refine q8 _ _ _ _ _ _ _ _ _ _ _ _ _ _ _ _ _ wv zs _ v6 G4 gw4 pv4 lw (DueS.same due3 s4) fun v6' G5 due5 s5 => ?_
    have s35 := s4.trans s5
    have gp5 := gp3.same s35
    refine q9 _ _ _ _ _ _ _ _ _ _ _ _ _ _ _ _ p ce _ zs _ v6' G5 gp5 (by omega) tz.ok tz.l9 due5 fun tv v6'' G6 due6 gp6 b6 => ?_
    have gg6 := b6 _ _ (pen_ne gp5 (s35 _ _ gg3) fun _ _ _ z => by cases z) (s35 _ _ gg3)
    have gpl6 := b6 _ _ (pen_ne gp5 (s35 _ _ gpl3) fun _ _ _ z => by cases z) (s35 _ _ gpl3)
    have GL6 := GivL.keeps (GL.ext (ExtN.same s35)) gp5 (Keeps.but b6)
    have tb6 := Tabs.pen (tb3.ext s35) gp5 b6
    refine q10 _ _ _ _ _ _ _ _ _ _ _ _ _ _ _ _ gv ks zs es gs tv v6'' G6 PL tz.sub tz.ok tz.l9 gg6 GL6 due6 tb6 fun G7 e7 tb7 => ?_
    have gpl7 := e7 _ _ gpl6 fun ps z => by cases z
    have gp7 := PenAt.ext gp6 e7
    refine q11 _ _ _ _ _ _ _ _ _ _ _ _ _ _ _ p ce pl _ ks es G7 PL gpl7 gp7 (by omega) tb7 fun G8 gp8 tb8 k8 => ?_
    have gpl8 : G8 pl = some (.lst (es.map V.str)) := k8 _ _ (pen_ne gp7 gpl7 fun _ _ _ z => by cases z) gpl7 fun ps z => by cases z
    refine q12 _ _ _ _ _ _ _ _ _ _ _ _ _ _ _ _ p ce _ ks es G8 PL gp8 (by omega) fun y G9 ky gp9 b9 => ?_
    have gpl9 := b9 _ _ (pen_ne gp8 gpl8 fun _ _ _ z => by cases z) gpl8
    have tb9 := Tabs.pen tb8 gp8 b9
    refine q13 _ _ _ _ _ _ _ _ _ _ _ _ _ _ _ _ _ pl ks es G9 PL gpl9 fun o X Ga po sa => ?_
    refine q14 _ _ _ _ _ _ _ _ _ _ _ _ _ _ _ _ o ks X y Ga po PL.l8 (ky.ext (ExtN.same sa)) (tb9.ext sa) fun Gb eb tbb => ?_
    refine q15 _ _ _ _ _ _ _ _ _ _ _ _ _ _ _ _ _ o ks X y Gb (PlanAt.ext po eb) ((ky.ext (ExtN.same sa)).ext eb) tbb fun Gc ec tbc => ?_
    refine ⟨_, _, _, _, _, _, _, _, _, _, _, _, _, _, _, _, rfl, (PenAt.ext (gp9.same sa) (eb.trans ec)).mono (by omega), tbc⟩
end
end TX
end
section
set_option maxRecDepth 100000
set_option maxHeartbeats 0
namespace TX
open PySem PySem.Spec PyProof.Rows L2 LamX SX CW
theorem oexA_ok {K : PySem.W.Frag} {C : Addr} (q : oexA K C = true) : ∃ nm q N bs bm sn sub ab col dd k0 k1 k2 k3 k5, K.lookup C = some (excClassObj nm q C N bs bm true sn sub ab col dd k0 k1 k2 k3 k5 "ValueError.__new__") ∧ PySem.HandSPX.refsVE bm = true := by
  unfold oexA at q
  split at q
  · rename_i t dd cd sl ho
    obtain ⟨ht, q⟩ := Bool.and_eq_true_iff.mp q
    have ht := of_decide_eq_true ht
    rw [ht] at ho
    unfold oexT at q
    split at q
    · rename_i k0 k1 k2 k3 n k5 hs
      obtain ⟨e1, q⟩ := Bool.and_eq_true_iff.mp q
      obtain ⟨e2, q⟩ := Bool.and_eq_true_iff.mp q
      obtain ⟨e3, q⟩ := Bool.and_eq_true_iff.mp q
      have e1 := of_decide_eq_true e1
      rw [e1] at hs
      split at q
      · rename_i D bm hm
        obtain ⟨e4, e5⟩ := Bool.and_eq_true_iff.mp q
        have e4 := of_decide_eq_true e4
        rw [e4] at hm
        obtain ⟨nm, bs, mro, ns, qn, hd, sn, sub, ab, col, del⟩ := cd
        dsimp only at hm e2 e3
        subst hm
        subst e3
        have e2 : del = false := by cases del <;> simp_all
        subst e2
        have hsl : sl = #[k0, k1, k2, k3, some (.builtin "ValueError.__new__"), k5] := by
          obtain ⟨l⟩ := sl
          simp only at hs
          rw [hs]
        subst hsl
        exact ⟨nm, qn, ns, bs, bm, sn, sub, ab, col, dd, k0, k1, k2, k3, k5, ho, e5⟩
      · cases q
    · cases q
  · cases q
theorem excB_ok {K : PySem.W.Frag} {D : Addr} (h : excB K D = true) : XfC K D ∧ ExcC K D := by
  unfold excB at h
  simp only [Bool.and_eq_true, decide_eq_true_eq] at h
  obtain ⟨h8, h9, h3, h10, h11, h12, h13, h14⟩ := h
  exact ⟨⟨He.eqO_ok h8, He.eqO_ok h9, h3, h10⟩, ⟨He.eqO_ok h8, He.eqO_ok h9, h3, h10, He.eqO_ok h11, He.eqO_ok h12, h13, h14⟩⟩
theorem xfB_ok {K : PySem.W.Frag} {mg : Str → Option Value} {D FE : Addr} {nm fl : Str} (h : xfB K D FE fl = true) (g : mg nm = some (.ref D)) : OexC K D ∧ XcF K mg nm fl D FE := by
  unfold xfB at h
  simp only [Bool.and_eq_true, decide_eq_true_eq] at h
  obtain ⟨h1, h2, h4, h5, h6, hx, k1⟩ := h
  obtain ⟨xf, e1⟩ := excB_ok hx
  exact ⟨⟨oexA_ok h1, He.eqO_ok h2, xf.3, h4, h5⟩, xf, e1, He.eqO_ok h6, k1, g⟩
theorem lamT_of {K : PySem.W.Frag} {mg : Str → Option Value} {base : Heap} {x : Str} {pa : Arguments} {bo : List Stmt} {sc : Scope} {dv : List V} {kw : List (Str × V)} {fd : FuncData} {f : Addr} (F : FunD K x x pa bo sc dv kw f fd) (e : f = He.fAd K (x, none)) (g : mg x = some (.ref f)) (tb : TabB base mg (He.cT K (x, none)).1 (He.cT K (x, none)).2) : LamT K mg base x (He.cT K (x, none)).1 (He.cT K (x, none)).2 := by
  obtain ⟨oc, od, dV, kV, doc, pm, an, cdv, ct, osl, rfl, lk, hcd, _, _⟩ := F.ex
  obtain ⟨c, rfl⟩ := He.codeIn_ref hcd
  refine ⟨⟨f, oc, od, _, osl, g, lk, ?_⟩, tb⟩
  rw [e] at lk
  have z := He.codeOf_eq lk (c := c) rfl
  show Value.ref c = .ref (He.codeOf K (x, none))
  rw [z]

theorem ex02B_ok {K : PySem.W.Frag} {mg : Str → Option Value} {IP SK TM IK FE : Addr} (h : ex02B K IP SK TM IK = true) (p : XcF K mg "InvalidPlan" "value" IP FE) (s : XcF K mg "SameKind" "kind" SK FE) (t : XcF K mg "TooMany" "most" TM FE) (k : XcF K mg "InvalidKind" "value" IK FE) (gF : mg "FloorError" = some (.ref FE)) : R02 K mg IP SK TM IK FE := by
  unfold ex02B at h
  simp only [Bool.and_eq_true, decide_eq_true_eq] at h
  obtain ⟨a, b, c, d, e, f, g, i, j, l⟩ := h
  exact ⟨p, s, t, k, gF, a, b, c, d, e, f, g, i, j, l⟩
theorem cstB_ok {K : PySem.W.Frag} (h : cstB K = true) : CSt K (He.ga K "Plan") (.type "type") "ring" (stP K) (stG K) ∧ okAt K (stG K) "Plan.ring" = true := by
  unfold cstB at h
  obtain ⟨h1, h⟩ := Bool.and_eq_true_iff.mp h
  obtain ⟨h2, h⟩ := Bool.and_eq_true_iff.mp h
  obtain ⟨h3, h⟩ := Bool.and_eq_true_iff.mp h
  obtain ⟨h4, h5⟩ := Bool.and_eq_true_iff.mp h
  have kp : PySem.W.keepIn K (.ref (stG K)) = true := by
    have z := h5
    unfold okAt at z
    exact (Bool.and_eq_true_iff.mp z).1
  refine ⟨⟨⟨h1, He.eqO_ok h2⟩, ?_, ?_, kp⟩, h5⟩
  · split at h3
    · rename_i b p c e
      simp only [Bool.and_eq_true, decide_eq_true_eq] at h3
      obtain ⟨rfl, rfl, rfl⟩ := h3
      exact e
    · cases h3
  · unfold stG
    split at h4
    · rename_i g r e
      rw [e]
      exact ⟨r, rfl⟩
    · cases h4
section
variable {P : Program} {w : World} {K : PySem.W.Frag} {base : Heap} {D : Addr}
theorem sc_eip : FnScope ["self", "value"] ["self", "value"] (defScope s_InvalidPlan_init) := ⟨rfl, rfl, rfl, by decide +kernel, rfl, by decide +kernel, by decide +kernel⟩
theorem ok_eip {mg : Str → Option Value} {f : Addr} {fd : FuncData} (F : FunD K "__init__" "InvalidPlan.__init__" (defArgs s_InvalidPlan_init) (defBody s_InvalidPlan_init) (defScope s_InvalidPlan_init) [] [] f fd) (ox : OexC K D) (nf : PySem.W.findIn K (.ref D) "value" = some none) : FnOk P w K mg base C8.CX0 1 f fd ["self", "value"] (spErr1 D "value") := by
  refine F.ok sc_eip (fun vs H Q E h => ?_) (fun cdv A outer s H vs Q E hr h => ?_)
  · obtain ⟨a, v, rfl, _⟩ := h
    rfl
  · obtain ⟨a, v, rfl, ha, q⟩ := h
    exact ⟨_, PSs.nox (pss_one (ps_ost (pv 0) (pv 1))), _, rfl, _, rfl, a, D, rfl, ox, nf, .inl ⟨ha, fun d hd nd => q d hd nd⟩⟩
theorem sc_eik : FnScope ["self", "value"] ["self", "value"] (defScope s_InvalidKind_init) := ⟨rfl, rfl, rfl, by decide +kernel, rfl, by decide +kernel, by decide +kernel⟩
theorem ok_eik {mg : Str → Option Value} {f : Addr} {fd : FuncData} (F : FunD K "__init__" "InvalidKind.__init__" (defArgs s_InvalidKind_init) (defBody s_InvalidKind_init) (defScope s_InvalidKind_init) [] [] f fd) (ox : OexC K D) (nf : PySem.W.findIn K (.ref D) "value" = some none) : FnOk P w K mg base C8.CX0 1 f fd ["self", "value"] (spErr1 D "value") := by
  refine F.ok sc_eik (fun vs H Q E h => ?_) (fun cdv A outer s H vs Q E hr h => ?_)
  · obtain ⟨a, v, rfl, _⟩ := h
    rfl
  · obtain ⟨a, v, rfl, ha, q⟩ := h
    exact ⟨_, PSs.nox (pss_one (ps_ost (pv 0) (pv 1))), _, rfl, _, rfl, a, D, rfl, ox, nf, .inl ⟨ha, fun d hd nd => q d hd nd⟩⟩
theorem sc_esk : FnScope ["self", "kind"] ["self", "kind"] (defScope s_SameKind_init) := ⟨rfl, rfl, rfl, by decide +kernel, rfl, by decide +kernel, by decide +kernel⟩
theorem ok_esk {mg : Str → Option Value} {f : Addr} {fd : FuncData} (F : FunD K "__init__" "SameKind.__init__" (defArgs s_SameKind_init) (defBody s_SameKind_init) (defScope s_SameKind_init) [] [] f fd) (ox : OexC K D) (nf : PySem.W.findIn K (.ref D) "kind" = some none) : FnOk P w K mg base C8.CX0 1 f fd ["self", "kind"] (spErr1 D "kind") := by
  refine F.ok sc_esk (fun vs H Q E h => ?_) (fun cdv A outer s H vs Q E hr h => ?_)
  · obtain ⟨a, v, rfl, _⟩ := h
    rfl
  · obtain ⟨a, v, rfl, ha, q⟩ := h
    exact ⟨_, PSs.nox (pss_one (ps_ost (pv 0) (pv 1))), _, rfl, _, rfl, a, D, rfl, ox, nf, .inl ⟨ha, fun d hd nd => q d hd nd⟩⟩
theorem sc_etm : FnScope ["self", "most"] ["self", "most"] (defScope s_TooMany_init) := ⟨rfl, rfl, rfl, by decide +kernel, rfl, by decide +kernel, by decide +kernel⟩
theorem ok_etm {mg : Str → Option Value} {f : Addr} {fd : FuncData} (F : FunD K "__init__" "TooMany.__init__" (defArgs s_TooMany_init) (defBody s_TooMany_init) (defScope s_TooMany_init) [] [] f fd) (ox : OexC K D) (nf : PySem.W.findIn K (.ref D) "most" = some none) : FnOk P w K mg base C8.CX0 1 f fd ["self", "most"] (spErr1 D "most") := by
  refine F.ok sc_etm (fun vs H Q E h => ?_) (fun cdv A outer s H vs Q E hr h => ?_)
  · obtain ⟨a, v, rfl, _⟩ := h
    rfl
  · obtain ⟨a, v, rfl, ha, q⟩ := h
    exact ⟨_, PSs.nox (pss_one (ps_ost (pv 0) (pv 1))), _, rfl, _, rfl, a, D, rfl, ox, nf, .inl ⟨ha, fun d hd nd => q d hd nd⟩⟩
theorem plan_b3 {f : Addr} {d : V} {fd : FuncData} (F : FunD K "__init__" "Plan.__init__" (defArgs s_Plan_init) (defBody s_Plan_init) (defScope s_Plan_init) [d] [] f fd) : L2.Binds K fd ["self", "kinds", "crossing"] [] := by
  obtain ⟨ds, vd, b⟩ := F.binds1 (ps := ["self", "kinds", "crossing"]) 3 1 (by simp) rfl (fun T kV doc pm an cdv ct us its hu hi => match us, hu, its, hi with | [_, _, _], _, [_], _ => ⟨_, rfl, rfl⟩)
  cases vd
  exact b
end
def tabT (K : PySem.W.Frag) : List (Addr × Str) := [((He.cT K ("_law_put_together", none)).2, lamQ "_law_put_together" s_law_put_together), ((He.cT K ("law", none)).2, lamQ "law" s_law)]
end TX
end
section
set_option maxRecDepth 100000
set_option maxHeartbeats 0
namespace TX
open PySem PySem.Spec PyProof.Rows L2 SX CW
section
variable {P : Program} {w : World} {K : PySem.W.Frag} {h : Heap} {mg : Str → Option Value}
theorem D_of (X : K.In h) (G : h.Ns mainGlobals mg) (c : He.SaysD fa fn K) {x : Str} {st : Stmt} (h1 : mkD x st ∈ fn) (h2 : He.Fa.glo x ∈ fa) : D K mg x st [] := by
  obtain ⟨fd, F⟩ := c.defs h1
  exact ⟨_, fd, F, He.glo_ok X G (c.facts h2)⟩
theorem free_of (X : K.In h) (G : h.Ns mainGlobals mg) (c : He.SaysD fa fn K) {x : Str} (h2 : He.Fa.free x ∈ fa) : mg x = none := He.free_ok X G (c.facts h2)
theorem facts (X : K.In h) (G : h.Ns mainGlobals mg) {f : Addr} (hfa : mg ("law" : Str) = some (.ref f)) (c0 : He.SaysX fa fn [] tf ex w h K) (r0 : fnAt K (stG K) = He.DefD.val dRing) :
    ∃ fd : FuncData, (∀ (s : Shared) (v : Value), BindsTo s fd ⟨[v], []⟩ [("_law_script", v)]) ∧ ∀ base : Heap, K.In base → base.Ns mainGlobals mg → (∀ p ∈ tf.map (He.cT K), LamX.TabB base mg p.1 p.2) → FnOk P w K mg base C8.CX0 11 f fd ["_law_script"] (spLaw K (tabT K)) := by
  have c : He.SaysD fa fn K := c0.t.d
  have e := c0.more
  unfold ex at e
  simp only [Bool.and_eq_true] at e
  obtain ⟨eP, eT, e1, e2, e3, e4, eX, eO, eC, e22⟩ := e
  have clP : Cls K (He.ga K "Plan") := He.cls_ok (c.facts (f := .cls "Plan") (by simp [fn, fn1, fn2, fn3, fa, fa1, fa2, fa3, fa4, fa5, fa6]))
  have TP : PlanT K (He.ga K "Plan") := ⟨clP, He.noat_ok (c.facts (f := .noat "Plan" "kinds") (by simp [fn, fn1, fn2, fn3, fa, fa1, fa2, fa3, fa4, fa5, fa6])), He.noat_ok (c.facts (f := .noat "Plan" "pairs") (by simp [fn, fn1, fn2, fn3, fa, fa1, fa2, fa3, fa4, fa5, fa6])), He.noat_ok (c.facts (f := .noat "Plan" "across") (by simp [fn, fn1, fn2, fn3, fa, fa1, fa2, fa3, fa4, fa5, fa6])), He.noat_ok (c.facts (f := .noat "Plan" "lesser") (by simp [fn, fn1, fn2, fn3, fa, fa1, fa2, fa3, fa4, fa5, fa6]))⟩
  obtain ⟨nIP, nSP⟩ := insB_c clP eP
  have zl : mg "len" = none := free_of X G c (by simp [fn, fn1, fn2, fn3, fa, fa1, fa2, fa3, fa4, fa5, fa6])
  have zt : mg "set" = none := free_of X G c (by simp [fn, fn1, fn2, fn3, fa, fa1, fa2, fa3, fa4, fa5, fa6])
  have zo : mg "sorted" = none := free_of X G c (by simp [fn, fn1, fn2, fn3, fa, fa1, fa2, fa3, fa4, fa5, fa6])
  have zu : mg "tuple" = none := free_of X G c (by simp [fn, fn1, fn2, fn3, fa, fa1, fa2, fa3, fa4, fa5, fa6])
  have zi : mg "isinstance" = none := free_of X G c (by simp [fn, fn1, fn2, fn3, fa, fa1, fa2, fa3, fa4, fa5, fa6])
  have zs : mg "str" = none := free_of X G c (by simp [fn, fn1, fn2, fn3, fa, fa1, fa2, fa3, fa4, fa5, fa6])
  have za : mg "all" = none := free_of X G c (by simp [fn, fn1, fn2, fn3, fa, fa1, fa2, fa3, fa4, fa5, fa6])
  have zn : mg "int" = none := free_of X G c (by simp [fn, fn1, fn2, fn3, fa, fa1, fa2, fa3, fa4, fa5, fa6])
  have zr : mg "range" = none := free_of X G c (by simp [fn, fn1, fn2, fn3, fa, fa1, fa2, fa3, fa4, fa5, fa6])
  have zli : mg "list" = none := free_of X G c (by simp [fn, fn1, fn2, fn3, fa, fa1, fa2, fa3, fa4, fa5, fa6])
  have zm : mg "min" = none := free_of X G c (by simp [fn, fn1, fn2, fn3, fa, fa1, fa2, fa3, fa4, fa5, fa6])
  have zmx : mg "max" = none := free_of X G c (by simp [fn, fn1, fn2, fn3, fa, fa1, fa2, fa3, fa4, fa5, fa6])
  have zb : mg "bool" = none := free_of X G c (by simp [fn, fn1, fn2, fn3, fa, fa1, fa2, fa3, fa4, fa5, fa6])
  have zz : mg "zip" = none := free_of X G c (by simp [fn, fn1, fn2, fn3, fa, fa1, fa2, fa3, fa4, fa5, fa6])
  have gK : ∃ t, mg "MOST_KINDS" = some (.int 8 t) := He.int_ok X G (c.facts (f := .int "MOST_KINDS" 8) (by simp [fn, fn1, fn2, fn3, fa, fa1, fa2, fa3, fa4, fa5, fa6]))
  obtain ⟨fdP, FP⟩ := c.defs (d := dPlan) (by simp [fn, fn1, fn2, fn3, fa, fa1, fa2, fa3, fa4, fa5, fa6])
  obtain ⟨fd, FL⟩ := c.defs (d := mkD "law" s_law) (by simp [fn, fn1, fn2, fn3, fa, fa1, fa2, fa3, fa4, fa5, fa6])
  have el := hfa.symm.trans (He.glo_ok X G (c.facts (f := .glo "law") (by simp [fn, fn1, fn2, fn3, fa, fa1, fa2, fa3, fa4, fa5, fa6])))
  have ef : f = He.ga K "law" := by
    injection el with el
    injection el
  have b := FunD.bindsA (ps := ["_law_script"]) FL fun _ _ _ _ _ _ us hl => match us, hl with | [_], _ => rfl
  refine ⟨fd, fun s v => b s [v] rfl, fun base _ _ TBs => ?_⟩
  have mP : Mk K (He.ga K "Plan") (He.ma K (He.ga K "Plan") "__init__") := He.mkr_ok (c.facts (f := .mkr "Plan") (by simp [fn, fn1, fn2, fn3, fa, fa1, fa2, fa3, fa4, fa5, fa6]))
  have gP : mg "Plan" = some (.ref (He.ga K "Plan")) := He.glo_ok X G (c.facts (f := .glo "Plan") (by simp [fn, fn1, fn2, fn3, fa, fa1, fa2, fa3, fa4, fa5, fa6]))
  have cLe := ok_letters (P := P) (w := w) (base := base) (D_of X G c (x := "are_letters") (st := s_are_letters) (by simp [fn, fn1, fn2, fn3, fa, fa1, fa2, fa3, fa4, fa5, fa6]) (by simp [fn, fn1, fn2, fn3, fa, fa1, fa2, fa3, fa4, fa5, fa6])) zi zs zl zt za
  have cIp := ok_ispair (P := P) (w := w) (base := base) (D_of X G c (x := "is_pair") (st := s_is_pair) (by simp [fn, fn1, fn2, fn3, fa, fa1, fa2, fa3, fa4, fa5, fa6]) (by simp [fn, fn1, fn2, fn3, fa, fa1, fa2, fa3, fa4, fa5, fa6])) zi zs zl
  have cUp := ok_upright (P := P) (w := w) (base := base) (D_of X G c (x := "upright") (st := s_upright) (by simp [fn, fn1, fn2, fn3, fa, fa1, fa2, fa3, fa4, fa5, fa6]) (by simp [fn, fn1, fn2, fn3, fa, fa1, fa2, fa3, fa4, fa5, fa6]))
  have cAc := ok_across (D_of X G c (x := "kinds_across") (st := s_kinds_across) (by simp [fn, fn1, fn2, fn3, fa, fa1, fa2, fa3, fa4, fa5, fa6]) (by simp [fn, fn1, fn2, fn3, fa, fa1, fa2, fa3, fa4, fa5, fa6])) cUp
  have cBf := ok_before (P := P) (w := w) (base := base) (D_of X G c (x := "kinds_before") (st := s_kinds_before) (by simp [fn, fn1, fn2, fn3, fa, fa1, fa2, fa3, fa4, fa5, fa6]) (by simp [fn, fn1, fn2, fn3, fa, fa1, fa2, fa3, fa4, fa5, fa6]))
  have kPb := ok_planbody (C := He.ga K "Plan") FP TP zl zt zo zu gK cLe cIp cUp cAc cBf
  have kP2 := ok_plan2 FP mP gP kPb
  have kP1 := ok_plan1 FP mP gP kPb
  have cLG := ok_lettersG (P := P) (w := w) (base := base) (D_of X G c (x := "are_letters") (st := s_are_letters) (by simp [fn, fn1, fn2, fn3, fa, fa1, fa2, fa3, fa4, fa5, fa6]) (by simp [fn, fn1, fn2, fn3, fa, fa1, fa2, fa3, fa4, fa5, fa6])) zi zs zl zt za
  have cPG := ok_ispairG (P := P) (w := w) (base := base) (D_of X G c (x := "is_pair") (st := s_is_pair) (by simp [fn, fn1, fn2, fn3, fa, fa1, fa2, fa3, fa4, fa5, fa6]) (by simp [fn, fn1, fn2, fn3, fa, fa1, fa2, fa3, fa4, fa5, fa6])) zi zs zl
  have gIP : mg "InvalidPlan" = some (.ref (He.ga K "InvalidPlan")) := He.glo_ok X G (c.facts (f := .glo "InvalidPlan") (by simp [fn, fn1, fn2, fn3, fa, fa1, fa2, fa3, fa4, fa5, fa6]))
  obtain ⟨fdIP, FIP⟩ := c.defs (d := mkM "InvalidPlan" "__init__" "InvalidPlan.__init__" s_InvalidPlan_init) (by simp [fn, fn1, fn2, fn3, fa, fa1, fa2, fa3, fa4, fa5, fa6])
  have MIP : Meth K (He.ga K "InvalidPlan") "__init__" (He.ma K (He.ga K "InvalidPlan") "__init__") := He.meth_ok (c.facts (f := .meth "InvalidPlan" "__init__") (by simp [fn, fn1, fn2, fn3, fa, fa1, fa2, fa3, fa4, fa5, fa6]))
  have bIP : L2.Binds K fdIP ["self", "value"] [] := (FunD.bindsN FIP (ps := ["self", "value"]) fun _ _ _ _ _ _ us hl => match us, hl with | [_, _], _ => rfl)
  obtain ⟨oxIP, xIP⟩ := xfB_ok e1 gIP
  have GIP := ok_eip (mg := mg) (P := P) (w := w) (base := base) FIP oxIP xIP.nf
  have EIP : ErrC P w K mg base "InvalidPlan" "value" (He.ga K "InvalidPlan") := ⟨oxIP, xIP.nf, gIP, _, _, _, GIP, MIP, bIP⟩
  have gIK : mg "InvalidKind" = some (.ref (He.ga K "InvalidKind")) := He.glo_ok X G (c.facts (f := .glo "InvalidKind") (by simp [fn, fn1, fn2, fn3, fa, fa1, fa2, fa3, fa4, fa5, fa6]))
  obtain ⟨fdIK, FIK⟩ := c.defs (d := mkM "InvalidKind" "__init__" "InvalidKind.__init__" s_InvalidKind_init) (by simp [fn, fn1, fn2, fn3, fa, fa1, fa2, fa3, fa4, fa5, fa6])
  have MIK : Meth K (He.ga K "InvalidKind") "__init__" (He.ma K (He.ga K "InvalidKind") "__init__") := He.meth_ok (c.facts (f := .meth "InvalidKind" "__init__") (by simp [fn, fn1, fn2, fn3, fa, fa1, fa2, fa3, fa4, fa5, fa6]))
  have bIK : L2.Binds K fdIK ["self", "value"] [] := (FunD.bindsN FIK (ps := ["self", "value"]) fun _ _ _ _ _ _ us hl => match us, hl with | [_, _], _ => rfl)
  obtain ⟨oxIK, xIK⟩ := xfB_ok e2 gIK
  have GIK := ok_eik (mg := mg) (P := P) (w := w) (base := base) FIK oxIK xIK.nf
  have EIK : ErrC P w K mg base "InvalidKind" "value" (He.ga K "InvalidKind") := ⟨oxIK, xIK.nf, gIK, _, _, _, GIK, MIK, bIK⟩
  have gSK : mg "SameKind" = some (.ref (He.ga K "SameKind")) := He.glo_ok X G (c.facts (f := .glo "SameKind") (by simp [fn, fn1, fn2, fn3, fa, fa1, fa2, fa3, fa4, fa5, fa6]))
  obtain ⟨fdSK, FSK⟩ := c.defs (d := mkM "SameKind" "__init__" "SameKind.__init__" s_SameKind_init) (by simp [fn, fn1, fn2, fn3, fa, fa1, fa2, fa3, fa4, fa5, fa6])
  have MSK : Meth K (He.ga K "SameKind") "__init__" (He.ma K (He.ga K "SameKind") "__init__") := He.meth_ok (c.facts (f := .meth "SameKind" "__init__") (by simp [fn, fn1, fn2, fn3, fa, fa1, fa2, fa3, fa4, fa5, fa6]))
  have bSK : L2.Binds K fdSK ["self", "kind"] [] := (FunD.bindsN FSK (ps := ["self", "kind"]) fun _ _ _ _ _ _ us hl => match us, hl with | [_, _], _ => rfl)
  obtain ⟨oxSK, xSK⟩ := xfB_ok e3 gSK
  have GSK := ok_esk (mg := mg) (P := P) (w := w) (base := base) FSK oxSK xSK.nf
  have ESK : ErrC P w K mg base "SameKind" "kind" (He.ga K "SameKind") := ⟨oxSK, xSK.nf, gSK, _, _, _, GSK, MSK, bSK⟩
  have gTM : mg "TooMany" = some (.ref (He.ga K "TooMany")) := He.glo_ok X G (c.facts (f := .glo "TooMany") (by simp [fn, fn1, fn2, fn3, fa, fa1, fa2, fa3, fa4, fa5, fa6]))
  obtain ⟨fdTM, FTM⟩ := c.defs (d := mkM "TooMany" "__init__" "TooMany.__init__" s_TooMany_init) (by simp [fn, fn1, fn2, fn3, fa, fa1, fa2, fa3, fa4, fa5, fa6])
  have MTM : Meth K (He.ga K "TooMany") "__init__" (He.ma K (He.ga K "TooMany") "__init__") := He.meth_ok (c.facts (f := .meth "TooMany" "__init__") (by simp [fn, fn1, fn2, fn3, fa, fa1, fa2, fa3, fa4, fa5, fa6]))
  have bTM : L2.Binds K fdTM ["self", "most"] [] := (FunD.bindsN FTM (ps := ["self", "most"]) fun _ _ _ _ _ _ us hl => match us, hl with | [_, _], _ => rfl)
  obtain ⟨oxTM, xTM⟩ := xfB_ok e4 gTM
  have GTM := ok_etm (mg := mg) (P := P) (w := w) (base := base) FTM oxTM xTM.nf
  have ETM : ErrC P w K mg base "TooMany" "most" (He.ga K "TooMany") := ⟨oxTM, xTM.nf, gTM, _, _, _, GTM, MTM, bTM⟩
  have gFE : mg "FloorError" = some (.ref (He.ga K "FloorError")) := He.glo_ok X G (c.facts (f := .glo "FloorError") (by simp [fn, fn1, fn2, fn3, fa, fa1, fa2, fa3, fa4, fa5, fa6]))
  have gLR : ∃ t, mg "LEAST_RING" = some (.int 4 t) := He.int_ok X G (c.facts (f := .int "LEAST_RING" 4) (by simp [fn, fn1, fn2, fn3, fa, fa1, fa2, fa3, fa4, fa5, fa6]))
  have R2 := ex02B_ok eX xIP xSK xTM xIK gFE
  have kBad := ok_planbad (C := He.ga K "Plan") FP zl gK cLG cPG EIP ETM
  have kPE := FnOk.or (FnOk.lift0 (w := w) kPb fun vs H Q E h => h) kBad
  have MP : MkPl P w K mg base (He.ga K "Plan") (He.ga K "InvalidPlan") (He.ga K "TooMany") := ⟨⟨_, _, mP, kPE, plan_b3 FP⟩, gP⟩
  have cNC := ok_nocom (D_of X G c (x := "check_no_common_kind") (st := s_check_no_common_kind) (by simp [fn, fn1, fn2, fn3, fa, fa1, fa2, fa3, fa4, fa5, fa6]) (by simp [fn, fn1, fn2, fn3, fa, fa1, fa2, fa3, fa4, fa5, fa6])) TP ESK
  have cKE := ok_chkkindE (D_of X G c (x := "check_kind") (st := s_check_kind) (by simp [fn, fn1, fn2, fn3, fa, fa1, fa2, fa3, fa4, fa5, fa6]) (by simp [fn, fn1, fn2, fn3, fa, fa1, fa2, fa3, fa4, fa5, fa6])) TP zi zs zl EIK
  obtain ⟨fdPA, FPA⟩ := c.defs (d := mkM "Plan" "__add__" "Plan.__add__" s_Plan_add) (by simp [fn, fn1, fn2, fn3, fa, fa1, fa2, fa3, fa4, fa5, fa6])
  have MPA : Meth K (He.ga K "Plan") "__add__" (He.ma K (He.ga K "Plan") "__add__") := He.meth_ok (c.facts (f := .meth "Plan" "__add__") (by simp [fn, fn1, fn2, fn3, fa, fa1, fa2, fa3, fa4, fa5, fa6]))
  have bPA : L2.Binds K fdPA ["self", "other"] [] := FunD.bindsN FPA fun _ _ _ _ _ _ us hl => match us, hl with | [_, _], _ => rfl
  have GPA := ok_planadd FPA TP nIP zi cNC MP
  obtain ⟨fdPM, FPM⟩ := c.defs (d := mkM "Plan" "__mul__" "Plan.__mul__" s_Plan_mul) (by simp [fn, fn1, fn2, fn3, fa, fa1, fa2, fa3, fa4, fa5, fa6])
  have MPM : Meth K (He.ga K "Plan") "__mul__" (He.ma K (He.ga K "Plan") "__mul__") := He.meth_ok (c.facts (f := .meth "Plan" "__mul__") (by simp [fn, fn1, fn2, fn3, fa, fa1, fa2, fa3, fa4, fa5, fa6]))
  have bPM : L2.Binds K fdPM ["self", "other"] [] := FunD.bindsN FPM fun _ _ _ _ _ _ us hl => match us, hl with | [_, _], _ => rfl
  have GPM := ok_planmul FPM TP nIP zi zu cNC MP
  obtain ⟨fdPC, FPC⟩ := c.defs (d := mkM "Plan" "crosses" "Plan.crosses" s_Plan_crosses) (by simp [fn, fn1, fn2, fn3, fa, fa1, fa2, fa3, fa4, fa5, fa6])
  have MPC : Meth K (He.ga K "Plan") "crosses" (He.ma K (He.ga K "Plan") "crosses") := He.meth_ok (c.facts (f := .meth "Plan" "crosses") (by simp [fn, fn1, fn2, fn3, fa, fa1, fa2, fa3, fa4, fa5, fa6]))
  have bPC : L2.Binds K fdPC ["self", "a", "b"] [] := (FunD.bindsN FPC (ps := ["self", "a", "b"]) fun _ _ _ _ _ _ us hl => match us, hl with | [_, _, _], _ => rfl)
  have GPC := ok_crosE FPC cKE
  obtain ⟨cst, okR⟩ := cstB_ok eC
  obtain ⟨fdRi, FRi⟩ := funAt (d := dRing) r0 okR
  have bRi : L2.Binds K fdRi ["kinds"] [] := (FunD.bindsN FRi (ps := ["kinds"]) fun _ _ _ _ _ _ us hl => match us, hl with | [_], _ => rfl)
  have GRi := ok_ring FRi zl zz gLR cLG EIP MP
  unfold op02B at eO
  simp only [Bool.and_eq_true, decide_eq_true_eq] at eO
  obtain ⟨sf, na, nm⟩ := eO
  have LH : Hlp P w K mg base (He.ga K "Plan") (He.ga K "InvalidPlan") (He.ga K "SameKind") (He.ga K "TooMany") (He.ga K "InvalidKind") (He.ga K "FloorError") := { td := (D_of X G c (x := "_law_told") (st := s_law_told) (by simp [fn, fn1, fn2, fn3, fa, fa1, fa2, fa3, fa4, fa5, fa6]) (by simp [fn, fn1, fn2, fn3, fa, fa1, fa2, fa3, fa4, fa5, fa6])), R := R2, T := TP, M := MP, k1 := ⟨_, kP1, tupAt_ok eT⟩, kd := kP2, ad := ⟨_, _, GPA, MPA, bPA⟩, mu := ⟨_, _, GPM, MPM, bPM⟩, sf := sf, na := na, nm := nm, rg := ⟨_, _, _, _, cst, GRi, bRi⟩, cr := ⟨_, _, GPC, MPC, bPC⟩, iP := nIP, kP := nSP, zl := zl }
  unfold twoB at e22
  have n12 := of_decide_eq_true e22
  obtain ⟨fdPt, FPt⟩ := c.defs (d := mkD "_law_put_together" s_law_put_together) (by simp [fn, fn1, fn2, fn3, fa, fa1, fa2, fa3, fa4, fa5, fa6])
  have TPt : TabT K mg base (tabT K) "_law_put_together" s_law_put_together (He.cT K ("_law_put_together", none)).1 (He.cT K ("_law_put_together", none)).2 := ⟨lamT_of FPt rfl (He.glo_ok X G (c.facts (f := .glo "_law_put_together") (by simp [fn, fn1, fn2, fn3, fa, fa1, fa2, fa3, fa4, fa5, fa6]))) (TBs _ (by simp [tf])), by simp [tabT], fun p hp e => by
    simp only [tabT, List.mem_cons, List.not_mem_nil, or_false] at hp
    rcases hp with rfl | rfl
    · rfl
    · exact absurd e.symm n12⟩
  have TLw : TabT K mg base (tabT K) "law" s_law (He.cT K ("law", none)).1 (He.cT K ("law", none)).2 := ⟨lamT_of FL rfl (He.glo_ok X G (c.facts (f := .glo "law") (by simp [fn, fn1, fn2, fn3, fa, fa1, fa2, fa3, fa4, fa5, fa6]))) (TBs _ (by simp [tf])), by simp [tabT], fun p hp e => by
    simp only [tabT, List.mem_cons, List.not_mem_nil, or_false] at hp
    rcases hp with rfl | rfl
    · exact absurd e n12
    · rfl⟩
  have cPen := ok_pen (P := P) (w := w) (base := base) (D_of X G c (x := "_law_pen") (st := s_law_pen) (by simp [fn, fn1, fn2, fn3, fa, fa1, fa2, fa3, fa4, fa5, fa6]) (by simp [fn, fn1, fn2, fn3, fa, fa1, fa2, fa3, fa4, fa5, fa6])) zli
  have cDr := ok_draw (P := P) (w := w) (base := base) (D_of X G c (x := "_law_draw") (st := s_law_draw) (by simp [fn, fn1, fn2, fn3, fa, fa1, fa2, fa3, fa4, fa5, fa6]) (by simp [fn, fn1, fn2, fn3, fa, fa1, fa2, fa3, fa4, fa5, fa6])) zn zl
  have cPk := ok_pick (D_of X G c (x := "_law_pick") (st := s_law_pick) (by simp [fn, fn1, fn2, fn3, fa, fa1, fa2, fa3, fa4, fa5, fa6]) (by simp [fn, fn1, fn2, fn3, fa, fa1, fa2, fa3, fa4, fa5, fa6])) cDr zl
  have cPlD := ok_pland (D_of X G c (x := "_law_plan") (st := s_law_plan) (by simp [fn, fn1, fn2, fn3, fa, fa1, fa2, fa3, fa4, fa5, fa6]) (by simp [fn, fn1, fn2, fn3, fa, fa1, fa2, fa3, fa4, fa5, fa6])) cDr cPk zr
  have cLk := ok_like (P := P) (w := w) (base := base) (D_of X G c (x := "_law_like") (st := s_law_like) (by simp [fn, fn1, fn2, fn3, fa, fa1, fa2, fa3, fa4, fa5, fa6]) (by simp [fn, fn1, fn2, fn3, fa, fa1, fa2, fa3, fa4, fa5, fa6])) zi zb
  have cPut := ok_put (D_of X G c (x := "_law_put_together") (st := s_law_put_together) (by simp [fn, fn1, fn2, fn3, fa, fa1, fa2, fa3, fa4, fa5, fa6]) (by simp [fn, fn1, fn2, fn3, fa, fa1, fa2, fa3, fa4, fa5, fa6])) LH TPt cDr cPk
  subst ef
  exact ok_law FL hfa LH TLw zl zr zm zmx zli zi zs cPen cPlD cDr cPk cLk cPut
end
end TX
end
section
set_option maxRecDepth 100000
set_option maxHeartbeats 0
open PySem PySem.W PySem.Calls PyProof.Rows
theorem PySem.Challenge.cw_crosswalls_k02_plans_refused_holds : PySem.Challenge.rw_crosswalls_k02_plans_refused.Holds := by
  w_on; o_law
  refine HandSHeadRun.head_any (r := OpenLaw.row PySem.Challenge.rw_crosswalls_k02_plans_refused) (q := view (OpenLaw.row PySem.Challenge.rw_crosswalls_k02_plans_refused).prog [28]) (H := TX.hk) (ob := TX.ob) (M := 20000) (loose := TX.names) (d := HandSHeadRun.topDef (OpenLaw.row PySem.Challenge.rw_crosswalls_k02_plans_refused).prog 28) (kwd := []) TX.ob_eq
    (by kernel_rfl) (fun s => by kernel_rfl) TX.run (by kernel_rfl) (by kernel_rfl) (by kernel_rfl) (by rfl) (by first | assumption | decide +kernel) (by decide +kernel) ⟨rfl, rfl, rfl, rfl, rfl, by decide +kernel⟩ ?hw ?hc
  case hw => w_witness2
  case hc =>
    refine LamX.walk_ofTsE (l := PySem.Challenge.rw_crosswalls_k02_plans_refused) (n := 63) (k := 11) (x := "_law_script") (CX := fun _ => C8.CX0) rfl (by decide) (by kernel_rfl) ⟨rfl, by decide, by decide⟩ ?F (fun _ _ _ _ _ z => z)
    intro w mg fa h Y G hmg0
    obtain ⟨K, KX, c, r⟩ := Y
    have hmg : mg ("law" : PySem.Str) = some (.ref fa) := by
      have e : (HandSHeadRun.topDef (OpenLaw.row PySem.Challenge.rw_crosswalls_k02_plans_refused).prog 28).name = ("law" : PySem.Str) := by kernel_rfl
      rw [← e]
      exact hmg0
    obtain ⟨fd, hb, hF⟩ := TX.facts (P := (PySem.Challenge.rw_crosswalls_k02_plans_refused).prog) (w := w) KX G hmg c r
    refine ⟨K, KX, fd, TX.tf.map (He.cT K), TX.spLaw K (TX.tabT K), fun p hp => ?_, fun p hp => ?_, fun p hp => ?_, hb, fun H a ns hl _ hH hS => ⟨a, ns, rfl, hl, hS, fun p hp => ?_, fun _ => rfl⟩, hF⟩
    · obtain ⟨q, hq, rfl⟩ := List.mem_map.mp hp
      exact c.empty q hq
    · obtain ⟨q, hq, rfl⟩ := List.mem_map.mp hp
      exact c.out q hq
    · obtain ⟨q, hq, rfl⟩ := List.mem_map.mp hp
      exact PySem.W.codeHd_of_K KX (c.hd q hq)
    · simp only [TX.tabT, List.mem_cons, List.not_mem_nil, or_false] at hp
      rcases hp with rfl | rfl
      · exact LamX.TabS.nil (hH _ (List.mem_map.mpr ⟨("_law_put_together", none), by simp [TX.tf], rfl⟩))
      · exact LamX.TabS.nil (hH _ (List.mem_map.mpr ⟨("law", none), by simp [TX.tf], rfl⟩))
end
