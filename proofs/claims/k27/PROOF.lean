import PyProof.Rows.All
import Wide.All
import OpenK.AllK
import Wide.FinOn
import KE.KStateDown
import Lean
import HandS.Head0
import HandS.Head1
import HandS.Head2
import HandS.HeadEnd
import HandS.HeadHook1
import HandS.HeadHook2
import HandS.HeadHook3
import HandS.HeadHook4
import PyProof.StrWalks
import PyProof.Rows.SetFrom
import HandS.ForMost
import HandS.Set
import HandS.Strs
import HandS.Codes
import HandS.StrMore
import HandS.Rev
import PyProof.StrOps2
import PyProof.Rows.StrCut
import HandS.Walk
import HandS.DictComp
import HandS.IsInst
import HandS.Defaults
import HandS.TupLe
import HandS.Words
import PySem.Challenge.RW_crosswalls_k27_halves_have_sides
import PyProof.Rows.StrRev
import KE.KRevSl
import HandS.SlotsOwn
import HandS.OwnEq
import HandS.ExcIs
import HandS.ExcInit
import OpenK.KMeth
import HandS.MakeKwOnly
import HandS.MakeKw
import KE.GoesMore
import HandS.Zip
import HandS.ExcCtx
import HandS.RaiseMore
import PyProof.Rows.SortShellAny
import KE.SortKeyHeap
import HandS.SortKw
import PyProof.Rows.StrMeet
import KE.GoesEnum
import HandS.Iter
import HandS.Style
import PyProof.CollectIter
import PyProof.JoinWalk
import PyProof.DictWalks
import HandS.More
import HandS.Text
import HandS.Deep
import HandS.Conv
import HandS.TryOnly
import KE.KOpsOwn
import HandS.ClsMeth
import PyProof.ListStr
import PyProof.NeKinds
import HandS.Replace
import PyProof.Rows.StrLawsPart
import HandS.TryMany
import HandS.ExcField
import KE.KExcIs
import PyProof.CallStr
set_option Elab.async false
set_option linter.all false
section
set_option maxRecDepth 100000
set_option maxHeartbeats 2000000
/-! Sets of texts: made of a text or of a list of texts; their number; sorted. -/
namespace TX
open PySem PySem.Spec PyProof.Rows L2

def txt (e : Int × Value) : Str := match e.2 with | .str x _ => x | _ => Str.empty
def Good (w : World) (e : Int × Value) : Prop := ∃ x tk, e.2 = Value.str x tk ∧ e.1 = hashStr w x
/-- one text more -/
def addT (l : List Str) (k : Str) : List Str := if k ∈ l then l else k :: l
theorem addT_nodup {l : List Str} {k : Str} (h : l.Nodup) : (addT l k).Nodup := by
  unfold addT
  split
  · exact h
  · rename_i c
    exact List.nodup_cons.mpr ⟨c, h⟩
theorem mem_addT {l : List Str} {k x : Str} : x ∈ addT l k ↔ x = k ∨ x ∈ l := by
  unfold addT
  split
  · rename_i c
    exact ⟨.inr, fun h => h.elim (fun e => e ▸ c) id⟩
  · exact List.mem_cons
theorem addT_len (l : List Str) (k : Str) : (addT l k).length ≤ l.length + 1 := by
  unfold addT
  split
  · omega
  · exact Nat.le_refl _
def allT (xs : List Str) : List Str := xs.foldl addT []
theorem fold_nodup : ∀ (xs l : List Str), l.Nodup → (xs.foldl addT l).Nodup
  | [], _, h => h
  | x :: xs, l, h => fold_nodup xs (addT l x) (addT_nodup h)
theorem fold_mem : ∀ (xs l : List Str) (y : Str), y ∈ xs.foldl addT l ↔ y ∈ xs ∨ y ∈ l
  | [], l, y => by simp
  | x :: xs, l, y => by
    show y ∈ xs.foldl addT (addT l x) ↔ _
    rw [fold_mem xs (addT l x) y, mem_addT, List.mem_cons]
    constructor
    · rintro (h | h | h)
      · exact .inl (.inr h)
      · exact .inl (.inl h)
      · exact .inr h
    · rintro ((h | h) | h)
      · exact .inr (.inl h)
      · exact .inl h
      · exact .inr (.inr h)
theorem fold_len : ∀ (xs l : List Str), (xs.foldl addT l).length ≤ l.length + xs.length
  | [], _ => Nat.le_refl _
  | x :: xs, l => by
    have h1 := fold_len xs (addT l x)
    have h2 := addT_len l x
    show (xs.foldl addT (addT l x)).length ≤ _
    rw [List.length_cons]
    omega
theorem allT_nodup (xs : List Str) : (allT xs).Nodup := fold_nodup xs [] List.nodup_nil
theorem allT_mem {xs : List Str} {y : Str} : y ∈ allT xs ↔ y ∈ xs := by
  have h := fold_mem xs [] y
  unfold allT
  simpa using h
theorem allT_len (xs : List Str) : (allT xs).length ≤ xs.length := by
  have h := fold_len xs []
  unfold allT
  simpa using h
/-- the texts l stand in a set at a -/
def SetT (w : World) (h : Heap) (a : Addr) (l : List Str) : Prop :=
  ∃ o es ep t, h.get? a = some o ∧ o.ExactSet ∧ o.data = .set es ep t ∧ (∀ e ∈ es.toList, Good w e) ∧ (es.toList.map txt).Perm l ∧ l.Nodup ∧ l.length < scanBound ∧
    t.fits es.size = true ∧ Ris t.place.toList ∧ (w.params.followText "set-order" = true ∨ t.led = true)

section
variable {P : Program} {w : World} {h h' : Heap} {a : Addr} {l : List Str}
theorem SetT.at (R : SetT w h a l) (k : ∀ o, h.get? a = some o → h'.get? a = some o) : SetT w h' a l := by
  obtain ⟨o, es, ep, t, ho, r⟩ := R
  exact ⟨o, es, ep, t, k o ho, r⟩
theorem good_key {e : Int × Value} (g : Good w e) (k : Str) : (PySem.strKind P w).is k e.2 = true ↔ txt e = k := by
  obtain ⟨x, tk, h1, _⟩ := g
  unfold txt
  rw [h1]
  show (Value.isStrOf k (.str x tk) = true) ↔ x = k
  simp [Value.isStrOf]
  try exact eq_comm
theorem good_el {l : List (Int × Value)} (g : ∀ e ∈ l, Good w e) : ElemsOf (PySem.strKind P w) l := by
  intro e he
  obtain ⟨x, tk, h1, h2⟩ := g e he
  refine ⟨⟨x, ?_, h2⟩, ?_⟩
  · rw [h1]
    exact strKind_is _ _ _ _
  · rw [h1] <;> rfl
theorem good_in {es : List (Int × Value)} (g : ∀ e ∈ es, Good w e) (k : Str) : k ∈ es.map txt ↔ ∃ e ∈ es, (PySem.strKind P w).is k e.2 = true := by
  rw [List.mem_map]
  constructor
  · rintro ⟨e, he, q⟩
    exact ⟨e, he, (good_key (g e he) k).2 q⟩
  · rintro ⟨e, he, q⟩
    exact ⟨e, he, (good_key (g e he) k).1 q⟩
theorem fresh_set (w : World) (h : Heap) : SetT w (h.push { cls := .type "set", dict := none, data := .set #[] 0 (.fresh 0 0 (!w.params.followText "set-order")) }) h.objs.size [] := by
  refine ⟨_, #[], 0, _, Heap.get?_push_size _ rfl, ⟨rfl, rfl, rfl⟩, rfl, fun e he => by simp at he, by simp, List.nodup_nil, by decide, by rfl, List.Pairwise.nil, ?_⟩
  show _ ∨ (!w.params.followText "set-order") = true
  cases w.params.followText "set-order" <;> simp
end

section
variable {P : Program} {w : World} {A : Around} {E : Value → Shared → Prop} {s : Shared} {a : Addr} {l : List Str}

theorem put_get {h : Heap} {o : Obj} {es es' : Array (Int × Value)} {ep : Nat} {t t' : SetTable} (ho : h.get? a = some o) (hd : o.data = .set es ep t) :
    (h.update a (Obj.putSet es' t')).get? a = some { o with data := .set es' (ep + 1) t' } := by
  rw [← putSet_of es' t' hd]
  exact Heap.get?_update_self (Obj.putSet es' t') ho (by rw [putSet_of es' t' hd] <;> rfl)

/-- the end of an add: the table is stored, and laid anew where it is too full -/
theorem add_end {g : Bool → Sem Unit} (hg : ∀ (b : Bool) (s₁ : Shared) (Q' : Unit → Shared → Prop), Q' () s₁ → wpAny (model P w) A (g b) Q' E s₁)
    {o : Obj} {es : Array (Int × Value)} {ep : Nat} {t : SetTable} (ho : s.heap.get? a = some o) (hex : o.ExactSet) (hd : o.data = .set es ep t)
    {e1 : Array (Int × Value)} {t2 : SetTable} {l' : List Str} (g1 : ∀ e ∈ e1.toList, Good w e) (p1 : (e1.toList.map txt).Perm l') (nd : l'.Nodup) (hb : l'.length < scanBound)
    (hf : t2.fits e1.size = true) (hr : Ris t2.place.toList) (hl : w.params.followText "set-order" = true ∨ t2.led = true) {wasDummy : Bool} {R : Option Bool → Shared → Prop}
    (hR : ∀ h', Heap.SameBut a s.heap h' → SetT w h' a l' → R (some true) { s with heap := h' }) :
    wpAny (model P w) A (do
        storeSet a e1 t2
        if (!wasDummy && t2.tooFull) = true then do
            g (relayAll t2 e1 (SetTable.grown e1.size)).2.2
            storeSet a (relayAll t2 e1 (SetTable.grown e1.size)).1 (relayAll t2 e1 (SetTable.grown e1.size)).2.1
            pure (some true)
          else pure (some true)) R E s := by
  have z1 : e1.size < scanBound := by
    have q := p1.length_eq
    rw [List.length_map, Array.length_toList] at q
    omega
  have o1 := put_get (es' := e1) (t' := t2) ho hd
  have b1 := Heap.SameBut.update s.heap a (Obj.putSet e1 t2)
  refine wpAny_bind (wpAny_storeSet_of ho hd ?_ (fits_of_scanBound z1))
  split
  · have pm := relayAll_perm t2 e1 (SetTable.grown e1.size)
    have q1 := relayAll_fits t2 e1 (SetTable.grown e1.size)
    have q2 := relayAll_ris t2 e1 (SetTable.grown e1.size)
    have q3 := relayAll_led t2 e1 (SetTable.grown e1.size)
    generalize relayAll t2 e1 (SetTable.grown e1.size) = Z at pm q1 q2 q3 ⊢
    obtain ⟨e2, t3, gave⟩ := Z
    dsimp only at pm q1 q2 q3 ⊢
    have z2 : e2.size = e1.size := by rw [← Array.length_toList, pm.length_eq, Array.length_toList]
    have o2 := put_get (es' := e2) (t' := t3) o1 rfl
    refine wpAny_bind (hg _ _ _ (wpAny_bind (wpAny_storeSet_of o1 rfl (wpAny_pure (hR _ (b1.trans (Heap.SameBut.update _ a _)) ?_)) (fits_of_scanBound (by rw [z2]; exact z1)))))
    exact ⟨_, e2, _, t3, o2, hex, rfl, fun e he => g1 e (pm.mem_iff.mp he), (pm.map txt).trans p1, nd, hb, q1, q2, hl.imp id fun z => by rw [q3]; exact z⟩
  · exact wpAny_pure (hR _ b1 ⟨_, e1, _, t2, o1, hex, rfl, g1, p1, nd, hb, hf, hr, hl⟩)

theorem add_one {k : Str} {tk : Tok} {Q : Bool → Shared → Prop} (R : SetT w s.heap a l) (room : l.length + 1 < scanBound)
    (hQ : ∀ h' b, Heap.SameBut a s.heap h' → SetT w h' a (addT l k) → Q b { s with heap := h' }) : wpAny (model P w) A (setAddHashed a (.str k tk) ((PySem.strKind P w).hash k)) Q E s := by
  obtain ⟨o, es, ep, t, ho, hex, hd, g, pm, nd, hb, hf, hr, hl⟩ := R
  have hz : es.size = l.length := by rw [← pm.length_eq, List.length_map, Array.length_toList]
  have hkey : (PySem.strKind P w).is k (.str k tk) = true := strKind_is _ _ _ _
  have hel : ElemsOf (PySem.strKind P w) es.toList := good_el g
  have pass : ∀ (b : Bool) {s₁ : Shared} {Q' : Unit → Shared → Prop}, Q' () s₁ → wpAny (model P w) A (match b with | true => rule "set.scan.the-table-gave-way" | false => pure ()) Q' E s₁ := by
    intro b s₁ Q' q
    cases b
    · exact wpAny_pure q
    · exact wpAny_rule q
  unfold setAddHashed setAddHashedIn
  refine wpAny_holding (wpAny_bind (wpAny_setState_of ho hd hf ?_))
  dsimp only
  rw [byScan_of (show (Value.str k tk).scannable = true from rfl) (by rw [hz]; exact hb) hel]
  simp only [↓reduceIte]
  unfold setAddByScan
  refine wpAny_bind (wpAny_bind (wpAny_rule (wpAny_bind (wpAny_setScan_of hkey ho hd hf hel ?_))))
  cases hfi : List.findIdx? (fun e => (PySem.strKind P w).is k e.2) es.toList with
  | some j =>
    dsimp only
    obtain ⟨hj, pj, _⟩ := List.findIdx?_eq_some_iff_getElem.mp hfi
    have hin : k ∈ l := pm.mem_iff.mp ((good_in (P := P) g k).2 ⟨es.toList[j], List.getElem_mem hj, pj⟩)
    have el : addT l k = l := if_pos hin
    refine wpAny_pure (wpAny_pure (hQ s.heap _ (Heap.SameBut.refl a s.heap) ?_))
    rw [el]
    exact ⟨o, es, ep, t, ho, hex, hd, g, pm, nd, hb, hf, hr, hl⟩
  | none =>
    dsimp only
    have hout : k ∉ l := fun z => by
      obtain ⟨e, he, q⟩ := (good_in (P := P) g k).1 (pm.mem_iff.mpr z)
      have c := List.findIdx?_eq_none_iff.mp hfi e he
      rw [q] at c
      exact Bool.noConfusion c
    have el : addT l k = k :: l := if_neg hout
    have r1 := layNew_perm t es ((PySem.strKind P w).hash k) (.str k tk)
    have r2 := layNew_fits t es ((PySem.strKind P w).hash k) (.str k tk)
    have r3 := layNew_ris t es ((PySem.strKind P w).hash k) (.str k tk) hr
    have r4 := layNew_led t es ((PySem.strKind P w).hash k) (.str k tk)
    generalize layNew t es ((PySem.strKind P w).hash k) (.str k tk) = Z at r1 r2 r3 r4 ⊢
    obtain ⟨e1, t1, wasDummy, gave⟩ := Z
    dsimp only at r1 r2 r3 r4 ⊢
    rw [Array.toList_push] at r1
    have rc : e1.toList.Perm (((PySem.strKind P w).hash k, Value.str k tk) :: es.toList) := r1.trans (List.perm_append_singleton _ _)
    have g1 : ∀ e ∈ e1.toList, Good w e := by
      intro e he
      rcases List.mem_cons.mp (rc.mem_iff.mp he) with z | z
      · rw [z]
        exact ⟨k, tk, rfl, rfl⟩
      · exact g e z
    have p1 : (e1.toList.map txt).Perm (addT l k) := by
      rw [el]
      exact (rc.map txt).trans (pm.cons k)
    have hled : w.params.followText "set-order" = true ∨ t1.led = true := hl.imp id fun z => by rw [r4]; exact z
    have hb1 : (addT l k).length < scanBound := Nat.lt_of_le_of_lt (addT_len l k) room
    refine wpAny_bind (pass _ ?_)
    split
    · refine wpAny_bind ?_
      rw [hashByValue_scannable 8 (show (Value.str k tk).scannable = true from rfl)]
      refine wpAny_pure ?_
      refine add_end ?_ ho hex hd g1 p1 (addT_nodup nd) hb1 ?_ ?_ ?_ ?_
      · intro b s₁ Q' q
        cases b <;> first | exact wpAny_pure q | exact wpAny_rule q
      · first | (split <;> first | exact r2 | exact SetTable.fits_plain_off r2) | exact r2
      · first | (split <;> exact r3) | exact r3
      · first | (split <;> exact hled) | exact hled
      · intro h' sb r
        dsimp only
        exact wpAny_pure (hQ h' _ sb r)
    · refine wpAny_bind (wpAny_pure ?_)
      simp only [↓reduceIte]
      refine add_end ?_ ho hex hd g1 p1 (addT_nodup nd) hb1 r2 r3 hled ?_
      · intro b s₁ Q' q
        cases b <;> first | exact wpAny_pure q | exact wpAny_rule q
      · intro h' sb r
        dsimp only
        exact wpAny_pure (hQ h' _ sb r)
end
end TX
end
section
set_option maxRecDepth 100000
set_option maxHeartbeats 3200000
namespace TX
open PySem PySem.Spec PyProof.Rows L2
section
variable {P : Program} {w : World} {A : Around} {R : Result → Shared → Prop} {I : Addr} {fp wr : List Addr} {G : Array GenState → Array GenState → Prop} {n : Nat} {Pv : Nat → Value → Prop} {St : Nat → Shared → Prop}
theorem take_one {α : Type} {xs : List α} {i : Nat} {x : α} (h : xs[i]? = some x) : xs.take (i + 1) = xs.take i ++ [x] := by
  rw [List.take_succ, h]
  rfl
/-- the texts that an iterator gives go into the set, one by one -/
theorem fill_loop (W : WalksS P w A.in1 I fp wr G n Pv St) (S : Addr) (hS : S ∉ fp) (xs : List Str) (hn : xs.length = n) (room : n + 1 < scanBound)
    (hv : ∀ i v, Pv i v → ∃ x t, xs[i]? = some x ∧ v = .str x t) :
    ∀ (k i : Nat) (s : Shared), n - i = k → i ≤ n → St i s → SetT w s.heap S (allT (xs.take i)) →
      (∀ s', Moved (S :: wr) G s s' → SetT w s'.heap S (allT xs) → R (.ok (.ret .none)) s') →
      codeAny (model P w) A (.builtin "set.update.loop" ⟨[.ref S, .ref I], []⟩) R s := by
  have out : S ∉ wr := fun h => hS (W.sub _ h)
  have more : ∀ b ∈ wr, b ∈ S :: wr := fun b hb => List.mem_cons_of_mem _ hb
  intro k
  induction k with
  | zero =>
    intro i s hk hi st hs hR
    have e : i = n := by omega
    subst e
    rw [List.take_of_length_le (Nat.le_of_eq hn)] at hs
    refine codeAny_builtin PyProof.Rows.F.entry_set_update_loop ?_
    rw [Around.under_plainId PyProof.Rows.F.plain_set_update_loop _]
    show wpAny _ A.in1 (pyNext (.ref I) >>= _) _ _ s
    refine wpAny_bind (W.done s _ _ st fun s' hm => ?_)
    show wpAny _ A.in1 (ret Value.none) _ _ s'
    exact wpAny_pure (hR s' (hm.mono more) (hs.at fun o q => hm.heap S _ out q))
  | succ k ih =>
    intro i s hk hi st hs hR
    have lt : i < n := by omega
    refine codeAny_builtin PyProof.Rows.F.entry_set_update_loop ?_
    rw [Around.under_plainId PyProof.Rows.F.plain_set_update_loop _]
    show wpAny _ A.in1 (pyNext (.ref I) >>= _) _ _ s
    refine wpAny_bind (W.item i s _ _ lt st fun v s' hP st' hm => ?_)
    obtain ⟨x, t, hx, rfl⟩ := hv i v hP
    have hs' : SetT w s'.heap S (allT (xs.take i)) := hs.at fun o q => hm.heap S _ out q
    show wpAny _ A.in1 (holding [Value.str x t] (setAdd S (.str x t)) >>= _) _ _ s'
    refine wpAny_bind (wpAny_holding ?_)
    unfold setAdd
    refine wpAny_holding (wpAny_bind ((PySem.strKind P w).pyHash (k := x) (strKind_is _ _ _ _) ?_))
    have small : (allT (xs.take i)).length + 1 < scanBound := by
      have q := allT_len (xs.take i)
      rw [List.length_take] at q
      omega
    refine add_one (s := { s' with toks := s'.toks + 1 }) hs' small fun h' b sb hs2 => ?_
    have e : addT (allT (xs.take i)) x = allT (xs.take (i + 1)) := by
      rw [take_one hx]
      unfold allT
      rw [List.foldl_append]
      rfl
    rw [e] at hs2
    refine wpAny_pure ⟨plainId_quiet PyProof.Rows.F.plain_set_update_loop _, ih (i + 1) _ (by omega) lt (W.frame _ s' _ _ st' (Nat.le_succ _) fun b hb o q => ?_) hs2 fun s'' hm2 hs3 => ?_⟩
    · rw [sb.2 b (fun z : b = S => hS (by rw [← z]; exact hb))]
      exact q
    · refine hR s'' (Moved.trans W.gtrans ((hm.mono more).then_heap (Nat.le_succ _) fun b o hb q => ?_) hm2) hs3
      rw [sb.2 b (fun z : b = S => hb (by rw [z]; exact List.mem_cons_self))]
      exact q
end

section
variable {P : Program} {w : World} {A : Around} {E : Value → Shared → Prop} {s : Shared}
/-- the empty set of set(x), with what it knows of the order -/
theorem bare_set (a : Value) {Q₁ : Value → Shared → Prop}
    (h : Q₁ (.ref s.heap.objs.size) { s with heap := s.heap.push { cls := .type "set", dict := none, data := .set #[] 0 (.fresh 0 0 (!w.params.followText "set-order")) } }) :
    codeAny (model P w) A (.call (.builtin "set.__new__") ⟨[.type "set", a], []⟩) (wants Q₁ E) s := by
  refine codeAny_of_tree ?_
  show wpAny _ A.in1 (do checkBuiltinCall "set.__new__" ⟨[.type "set", a], []⟩; again (.builtin "set.__new__" ⟨[.type "set", a], []⟩)) _ _ s
  refine wpAny_bind (wpAny_of_eq (PySem.F.newCall_set_1 a) (wpAny_pure ⟨plainId_quiet PySem.F.plain_set_new _, codeAny_builtin PySem.F.entry_set_new ?_⟩))
  rw [Around.under_plainId PySem.F.plain_set_new _]
  unfold Builtin.«set.__new__» Builtin.Frozenset.newClass
  have hsub := sub_set_self
  obtain ⟨hp, g, d, tk, os⟩ := s
  dsimp only
  wp_walk
  refine wpAny_askSetting (wpAny_pure ?_)
  dsimp only
  simp only [newObj]
  refine wpAny_bind (wpAny_alloc (wpAny_pure ?_))
  exact wpAny_pure h

/-- set(x), whatever x is: what stands behind the making of the empty set is given -/
theorem set_of (x : Value) {Q : Value → Shared → Prop}
    (h : ∀ (A' : Around) (s₁ : Shared) (K' : Fin → Shared → Prop) (E' : Value → Shared → Prop), A'.handled = A.handled → s₁ = { s with heap := s.heap.push { cls := .type "set", dict := none, data := .set #[] 0 (.fresh 0 0 (!w.params.followText "set-order")) } } →
      (∀ s₂, (Q (.ref s.heap.objs.size) s₂) → K' (.done (.ret .none)) s₂) → wpAny (model P w) A' (Builtin.«set.__init__» ⟨[.ref s.heap.objs.size, x], []⟩) K' E' s₁) :
    wpAny (model P w) A (call (.type "set") [x]) Q E s := by
  obtain ⟨c, tl, hmro⟩ := PySem.F.called_set.mro
  have hmade := PySem.F.called_set.made
  have hsub := PySem.F.called_set.sub
  refine wpAny_call (codeAny_of_tree ?_)
  show wpAny _ _ (callAny (.type "set") _) _ _ _
  refine wpAny_pure ⟨Code.quiet_builtin _ (by decide +kernel), codeAny_builtin PySem.F.entry_type_call ?_⟩
  rw [Around.under_plain (weight_type_call_type "set" [x] []) rfl]
  have h1 := PySem.F.called_set.notType
  have h2 := PySem.F.called_set.canCreate
  have hct := PySem.F.typeCall_set_1 x
  repeat (any_goals (first | assumption | wp_step))
  refine codeAny_mono (bare_set x (E := E) (Q₁ := fun obj s₁ => obj = .ref s.heap.objs.size ∧ s₁ = { s with heap := s.heap.push { cls := .type "set", dict := none, data := .set #[] 0 (.fresh 0 0 (!w.params.followText "set-order")) } }) ⟨rfl, rfl⟩) fun r s₁ hr => ?_
  cases r with
  | error e => exact hr
  | ok fl =>
    cases fl with
    | ret obj =>
      obtain ⟨rfl, rfl⟩ := hr
      have hS : (s.heap.push { cls := .type "set", dict := none, data := .set #[] 0 (.fresh 0 0 (!w.params.followText "set-order")) }).get? s.heap.objs.size = some { cls := .type "set", dict := none, data := .set #[] 0 (.fresh 0 0 (!w.params.followText "set-order")) } := Heap.get?_push_size _ rfl
      have hT : Shared.TypeIs { s with heap := s.heap.push { cls := .type "set", dict := none, data := .set #[] 0 (.fresh 0 0 (!w.params.followText "set-order")) } } (.ref s.heap.objs.size) "set" := ⟨_, hS, rfl⟩
      have hli := PySem.F.called_set.init.lookup
      have hbi := PySem.F.called_set.init.bind (.ref s.heap.objs.size)
      repeat (any_goals (first | assumption | wp_step))
      refine codeAny_mono (codeAny_call_builtin (R := wants (fun r s₂ => r = .none ∧ Q (.ref s.heap.objs.size) s₂) E) PySem.F.called_set.init.plain PySem.F.entry_set_init (check_set_init_1 hT ?_)) fun r₂ s₂ hr₂ => ?_
      · exact h _ _ _ _ (by simp) rfl fun s₂ q => ⟨rfl, q⟩
      · cases r₂ with
        | error e => exact hr₂
        | ok fl₂ =>
          cases fl₂ with
          | ret r =>
            obtain ⟨rfl, hq⟩ := hr₂
            repeat (any_goals (first | assumption | wp_step))
          | _ => exact hr₂.elim
    | _ => exact hr.elim
end
end TX
end
section
set_option maxRecDepth 100000
set_option maxHeartbeats 3200000
namespace TX
open PySem PySem.Spec PyProof.Rows L2
def sing (c : Nat) : Str := ⟨#[c]⟩
def signs (x : Str) : List Str := x.cps.toList.map sing
section
variable {P : Program} {w : World} {A : Around} {E : Value → Shared → Prop} {s : Shared}
theorem set_text {x : Str} {u : Tok} {Q : Value → Shared → Prop} (hh : A.handled = none) (hb : x.length + 1 < scanBound)
    (h : ∀ (h' : Heap) (tk : Nat), SetT w h' s.heap.objs.size (allT (signs x)) → (∀ b o, s.heap.get? b = some o → h'.get? b = some o) → Q (.ref s.heap.objs.size) { s with heap := h', toks := tk }) :
    wpAny (model P w) A (call (.type "set") [.str x u]) Q E s := by
  refine set_of (.str x u) fun A' s₁ K' E' hA e hK => ?_
  subst e
  have f0 := fresh_set w s.heap
  have hS : (s.heap.push { cls := .type "set", dict := none, data := .set #[] 0 (.fresh 0 0 (!w.params.followText "set-order")) }).get? s.heap.objs.size = some { cls := .type "set", dict := none, data := .set #[] 0 (.fresh 0 0 (!w.params.followText "set-order")) } := Heap.get?_push_size _ rfl
  generalize hH : s.heap.push { cls := .type "set", dict := none, data := .set #[] 0 (.fresh 0 0 (!w.params.followText "set-order")) } = H0 at f0 hS ⊢
  have hz : H0.objs.size = s.heap.objs.size + 1 := by rw [← hH, Heap.size_push]
  have hold : ∀ b o, s.heap.get? b = some o → H0.get? b = some o := fun b o q => by rw [← hH]; exact Heap.get?_push_of_some _ q
  have k1 := PySem.F.sub_str_set
  have k2 := PySem.F.sub_str_frozenset
  have k3 : (Value.type "str" == Value.type "dict") = false := by decide
  unfold Builtin.«set.__init__» noKeywords Builtin.Frozenset.updateFrom
  generalize hPI : pyIter = PI
  wp_walk
  subst hPI
  refine wpAny_pyIter_str fun o St hW hst => ?_
  refine wpAny_bind (wpAny_runValue ?_)
  have apart : s.heap.objs.size ∉ [H0.objs.size] := by
    rw [hz]
    simp
  refine fill_loop ((hW _ (by simp [hA, hh])).toS) s.heap.objs.size apart (signs x) (by unfold signs; rw [List.length_map, Array.length_toList]) hb (fun i v q => ?_) (x.cps.size - 0) 0 _ rfl (Nat.zero_le _) hst ?_ ?_
  · obtain ⟨c, t, q1, q2⟩ := q
    refine ⟨sing c, t, ?_, q2⟩
    unfold signs
    rw [List.getElem?_map, Array.getElem?_toList, q1]
    rfl
  · exact f0.at fun o q => Heap.get?_push_of_some _ q
  · intro s' hm hs
    obtain ⟨h', g', d', tk', os'⟩ := s'
    have eg : g' = s.gens := hm.gens
    have ed : d' = s.drawn := hm.drawn
    have eo : os' = s.os := hm.os
    subst eg
    subst ed
    subst eo
    refine wpAny_pure ?_
    refine wpAny_pure (hK _ (h h' tk' hs fun b o q => ?_))
    have lt := Heap.lt_size q
    refine hm.heap b o ?_ (Heap.get?_push_of_some _ (hold b o q))
    simp only [List.mem_cons, List.not_mem_nil, or_false, not_or]
    exact ⟨Nat.ne_of_lt lt, by show b ≠ H0.objs.size; rw [hz]; exact Nat.ne_of_lt (Nat.lt_succ_of_lt lt)⟩
theorem set_list {l : Addr} {items : Array Value} {xs : List Str} {Q : Value → Shared → Prop} (hh : A.handled = none) (hl : s.heap.IsList l items) (hi : PyProof.Rows.StrsAre items.toList xs) (hb : xs.length + 1 < scanBound)
    (h : ∀ (h' : Heap) (tk : Nat), SetT w h' s.heap.objs.size (allT xs) → (∀ b o, s.heap.get? b = some o → h'.get? b = some o) → Q (.ref s.heap.objs.size) { s with heap := h', toks := tk }) :
    wpAny (model P w) A (call (.type "set") [.ref l]) Q E s := by
  refine set_of (.ref l) fun A' s₁ K' E' hA e hK => ?_
  subst e
  have f0 := fresh_set w s.heap
  have hS : (s.heap.push { cls := .type "set", dict := none, data := .set #[] 0 (.fresh 0 0 (!w.params.followText "set-order")) }).get? s.heap.objs.size = some { cls := .type "set", dict := none, data := .set #[] 0 (.fresh 0 0 (!w.params.followText "set-order")) } := Heap.get?_push_size _ rfl
  generalize hH : s.heap.push { cls := .type "set", dict := none, data := .set #[] 0 (.fresh 0 0 (!w.params.followText "set-order")) } = H0 at f0 hS ⊢
  have hz : H0.objs.size = s.heap.objs.size + 1 := by rw [← hH, Heap.size_push]
  have hold : ∀ b o, s.heap.get? b = some o → H0.get? b = some o := fun b o q => by rw [← hH]; exact Heap.get?_push_of_some _ q
  have ht : ∃ ol, s.heap.get? l = some ol ∧ ol.cls = .type "list" := by
    obtain ⟨ol, h1, h2, _⟩ := id hl
    exact ⟨ol, h1, h2⟩
  obtain ⟨ol, hol, hcl⟩ := ht
  have hT : Shared.TypeIs { s with heap := H0 } (.ref l) "list" := ⟨ol, hold l ol hol, hcl⟩
  have hl1 : H0.IsList l items := by
    obtain ⟨o1, h1, h2, h3⟩ := hl
    exact ⟨o1, hold l o1 h1, h2, h3⟩
  have k1 := PySem.F.sub_list_set
  have k2 := PySem.F.sub_list_frozenset
  have k3 : (Value.type "list" == Value.type "dict") = false := by decide
  have hH0l := hold l ol hol
  obtain ⟨ocls, odict, odata, oslots⟩ := ol
  simp only at hcl
  subst hcl
  unfold Builtin.«set.__init__» noKeywords Builtin.Frozenset.updateFrom
  generalize hPI : pyIter = PI
  wp_walk
  subst hPI
  refine wpAny_pyIter_list hl1 ?_
  refine wpAny_bind (wpAny_runValue ?_)
  have llt : l < s.heap.objs.size := Heap.lt_size hol
  have hne : l ≠ H0.objs.size := by rw [hz]; exact Nat.ne_of_lt (Nat.lt_succ_of_lt llt)
  have apart : s.heap.objs.size ∉ [H0.objs.size, l] := by
    rw [hz]
    simp
    exact Nat.ne_of_gt llt
  have hn : xs.length = items.size := by rw [← StrsAre.len_eq hi, Array.length_toList]
  refine fill_loop ((Walks.list (A := _) (by simp [hA, hh]) _ l hne items).toS) s.heap.objs.size apart xs hn (by rw [← hn]; exact hb) (fun i v q => ?_) (items.size - 0) 0 _ rfl (Nat.zero_le _) ⟨⟨_, Heap.get?_push_size _ rfl, rfl, rfl⟩, hl1.push _⟩ ?_ ?_
  · have q1 : items.toList[i]? = some v := by rw [Array.getElem?_toList]; exact q
    have lt : i < xs.length := by
      rw [hn]
      rcases Nat.lt_or_ge i items.size with z | z
      · exact z
      · rw [Array.getElem?_eq_none (by omega)] at q
        exact nomatch q
    obtain ⟨t, q2⟩ := SS.strs_at hi i v q1
    refine ⟨xs[i], t, List.getElem?_eq_getElem lt, ?_⟩
    rw [q2, List.getD_eq_getElem?_getD, List.getElem?_eq_getElem lt]
    rfl
  · exact f0.at fun o q => Heap.get?_push_of_some _ q
  · intro s' hm hs
    obtain ⟨h', g', d', tk', os'⟩ := s'
    have eg : g' = s.gens := hm.gens
    have ed : d' = s.drawn := hm.drawn
    have eo : os' = s.os := hm.os
    subst eg
    subst ed
    subst eo
    refine wpAny_pure ?_
    refine wpAny_pure (hK _ (h h' tk' hs fun b o q => ?_))
    have lt := Heap.lt_size q
    refine hm.heap b o ?_ (Heap.get?_push_of_some _ (hold b o q))
    simp only [List.mem_cons, List.not_mem_nil, or_false, not_or]
    exact ⟨Nat.ne_of_lt lt, by show b ≠ H0.objs.size; rw [hz]; exact Nat.ne_of_lt (Nat.lt_succ_of_lt lt)⟩
end
end TX
end
section
set_option maxRecDepth 100000
set_option maxHeartbeats 2000000
namespace TX
open PySem PySem.Spec PyProof.Rows L2
/-- a set of texts, as a tracked thing -/
def STO (w : World) (a : Addr) (l : List Str) : HO := .ext fun h => SetT w h a l
section
variable {X : Cx}
theorem sto_new {P : Program} {w : World} {H : Hp} {h : Heap} {a : Addr} {l : List Str} (R : SetT w h a l) : ObjOk P w H h a (STO w a l) := by
  have ⟨o, _, _, _, ho, _⟩ := R
  exact ⟨R, ⟨o, ho⟩, fun h1 h2 p k => SetT.at p k⟩
theorem sto_get {pins : List (Addr × Obj)} {σ : L2.St} {H : Hp} {s : Shared} {a : Addr} {l : List Str} (I : Inv X pins σ H s) (ha : H a = some (STO X.w a l)) : SetT X.w s.heap a l := (I.hok a _ ha).1
/-- set(x), x a text -/
def rSetTxt (w : World) : List V → Hp → VK → Prop := fun xs H Q => ∃ x : Str, xs = [.str x] ∧ x.length + 1 < scanBound ∧ ∀ p, H p = none → Q (.ref p) (upd H p (STO w p (allT (signs x))))
theorem cr_setTxt (hc : X.calm = true) : CallR X (.type "set") (rSetTxt X.w) := by
  intro pins s σ H xs us Q I r h
  obtain ⟨x, rfl, hb, q⟩ := h
  obtain ⟨u, rfl⟩ : ∃ u, us = [.str x u] := by
    cases r with
    | cons r t =>
      cases t
      obtain ⟨u, rfl⟩ := r
      exact ⟨u, rfl⟩
  refine set_text (I.ok.hd hc) hb fun h' tk hs k => ?_
  exact ⟨.ref _, upd H s.heap.objs.size (STO X.w s.heap.objs.size (allT (signs x))), I.laid (t' := tk) k (Nat.le_refl _) (sto_new hs), rfl, q _ (I.hok.fresh (Nat.le_refl _))⟩
/-- set(xs), xs a list of texts -/
def rSetLst (K : PySem.W.Frag) (w : World) : List V → Hp → VK → Prop := fun xs H Q => ∃ (a : Addr) (ys : List Str), xs = [.ref a] ∧ SqL K H a (ys.map V.str) ∧ ys.length + 1 < scanBound ∧ ∀ p, H p = none → Q (.ref p) (upd H p (STO w p (allT ys)))
theorem cr_setLst (hc : X.calm = true) : CallR X (.type "set") (rSetLst X.K X.w) := by
  intro pins s σ H xs us Q I r h
  obtain ⟨a, ys, rfl, hs, hb, q⟩ := h
  rw [Vals.ref1 r]
  obtain ⟨its, rv, hl, _⟩ := I.list hs
  refine set_list (I.ok.hd hc) hl.isList (by simpa using rv.strs) hb fun h' tk hs k => ?_
  exact ⟨.ref _, upd H s.heap.objs.size (STO X.w s.heap.objs.size (allT ys)), I.laid (t' := tk) k (Nat.le_refl _) (sto_new hs), rfl, q _ (I.hok.fresh (Nat.le_refl _))⟩
/-- len(s) -/
def rLenST (w : World) : List V → Hp → VK → Prop := fun xs H Q => ∃ (a : Addr) (l : List Str), xs = [.ref a] ∧ H a = some (STO w a l) ∧ Q (.int (l.length : Int)) H
theorem cr_lenST : CallR X (.builtin "len") (rLenST X.w) := by
  intro pins s σ H xs us Q I r h
  obtain ⟨a, l, rfl, ha, q⟩ := h
  rw [Vals.ref1 r]
  obtain ⟨o, es, ep, t, ho, hex, hd, g, pm, nd, hb, hf, hr, hl⟩ := sto_get I ha
  have hz : es.size = l.length := by rw [← pm.length_eq, List.length_map, Array.length_toList]
  have h4 : l.length < 4096 := by simpa [scanBound] using hb
  refine call_len_set ho hex hd hf (by rw [hz] <;> omega) ⟨.int (l.length : Int), H, I.tok _, ⟨_, by rw [hz]⟩, q⟩
/-- sorted(s) -/
def rSortST (w : World) : List V → Hp → VK → Prop := fun xs H Q => ∃ (a : Addr) (l : List Str), xs = [.ref a] ∧ H a = some (STO w a l) ∧ l.length < 64 ∧
  ∀ (ys : List Str) (p : Addr), ys.Perm l → sortedS ys = true → H p = none → Q (.ref p) (upd H p (.lst (ys.map V.str)))
theorem strs_of_good {w : World} {l : List (Int × Value)} (g : ∀ e ∈ l, Good w e) {vs : List Value} (pm : vs.Perm (l.map (·.2))) : StrsAre vs (vs.map strOf) :=
  strsAre_map vs fun v hv => by
    obtain ⟨e, he, q⟩ := List.mem_map.mp (pm.mem_iff.mp hv)
    obtain ⟨x, tk, h1, _⟩ := g e he
    exact ⟨x, tk, by rw [← q, h1]⟩
theorem cr_sortST (hc : X.calm = true) : CallR X (.builtin "sorted") (rSortST X.w) := by
  intro pins s σ H xs us Q I r h
  obtain ⟨a, l, rfl, ha, h64, q⟩ := h
  rw [Vals.ref1 r]
  obtain ⟨o, es, ep, t, ho, hex, hd, g, pm, nd, hb, hf, hr, hl⟩ := sto_get I ha
  have hz : es.size = l.length := by rw [← pm.length_eq, List.length_map, Array.length_toList]
  refine Calls.call_function_entry kind_sorted plain_sorted entry_sorted (args_sorted1 _) ?_
  unfold Builtin.«sorted»
  refine wpAny_bind (m := checkCount "sorted" 1 1 _) (wpAny_pure ?_)
  refine wpAny_bind (collect_set (A := X.A.in1) (I.ok.hd hc) ⟨o, ho, hex.1, hd⟩ hf (by rw [hz]; exact hb) hr hl fun s1 vs k1 z1 g1 o1 p1 => ?_)
  have hvl : vs.length = l.length := by rw [p1.length_eq, List.length_map, Array.length_toList]; exact hz
  have hS := strs_of_good g p1
  have pk : (vs.map strOf).Perm l := by
    refine (p1.map strOf).trans (List.Perm.trans (List.Perm.of_eq ?_) pm)
    rw [List.map_map]
    refine List.map_congr_left fun e he => ?_
    obtain ⟨x, tk, h1, _⟩ := g e he
    show strOf e.2 = txt e
    unfold txt
    rw [h1]
    rfl
  refine wpAny_bind (wpAny_newList ?_ (by rw [hvl]; exact small64 h64))
  have hoL : (s1.heap.push (seqObj "list" vs.toArray 0)).get? s1.heap.objs.size = some (seqObj "list" vs.toArray 0) := Heap.get?_push_size _ rfl
  refine wpAny_bind (wpAny_holding (wpAny_call_entry slot_list_sort ⟨_, hoL, rfl⟩ entry_list_sort
    (list_sort_treeK strKind_oneLt hoL hS.keysOf (fun v₁ v₂ rest e => keyKind_strs (by rw [← e]; exact hS)) (by rw [hvl]; exact h64) fun st' hp hs => ⟨_, rfl, ?_⟩) (args_list_sort _)))
  obtain ⟨ys, e1, e2, e3⟩ := sorted_out_str hS hp hs
  obtain ⟨c, hcl⟩ := sortedHeap_at (vs := vs) (out := (arrOf st').map (·.2)) hoL
  have kept : ∀ b u, s.heap.get? b = some u → (sortedHeap (s1.heap.push (seqObj "list" vs.toArray 0)) s1.heap.objs.size vs ((arrOf st').map (·.2))).get? b = some u := fun b u e => by
    have e' := k1 b u e
    have lt := Heap.lt_size e'
    rw [sortedHeap_old (Nat.ne_of_lt lt) (by rw [size_push']; exact Nat.lt_succ_of_lt lt)]
    exact Heap.get?_push_of_some _ e'
  have hlen : (ys.map V.str).length ≤ sizeLine := by rw [List.length_map, e2.length_eq, List.length_map, hvl]; exact small64 h64
  have hn : H s1.heap.objs.size = none := I.hok.fresh z1
  obtain ⟨hp1, gg1, dr1, tk1, os1⟩ := s1
  dsimp only at g1 o1
  subst g1
  subst o1
  have J : Inv X pins σ (upd H hp1.objs.size (.lst (ys.map V.str))) { s with heap := (sortedHeap (hp1.push (seqObj "list" vs.toArray 0)) hp1.objs.size vs ((arrOf st').map (·.2))), drawn := dr1, toks := tk1 } :=
    I.call (ch := []) (Un.laid kept z1 hn) (I.hok.laid kept z1 ⟨hlen, ((arrOf st').map (·.2)).toList, c, vals_of_strs e1, by rw [Array.toArray_toList]; exact hcl⟩) I.bare (fun _ z => nomatch z)
  exact wpAny_pure ⟨_, rfl, .ref hp1.objs.size, _, J, rfl, q ys _ (e2.trans pk) e3 hn⟩
end
end TX
end
section
/-! Names of rooms, in plain lists of letters (numbers). -/
namespace CW

/-- may the letter o not come behind these letters (the last one first)? -/
def bar (X : Nat → Nat → Bool) : List Nat → Nat → Bool
  | [], _ => false
  | k :: r, o => (o == k) || (X k o && (decide (o < k) || bar X r o))
/-- a name, told backwards -/
def nf (X : Nat → Nat → Bool) : List Nat → Bool
  | [] => true
  | k :: r => !bar X r k && nf X r
def isName (X : Nat → Nat → Bool) (l : List Nat) : Bool := nf X l.reverse

structure Crossing (X : Nat → Nat → Bool) : Prop where
  sym : ∀ a b, X a b = X b a
  irr : ∀ a, X a a = false
theorem Crossing.ne {X : Nat → Nat → Bool} (h : Crossing X) {a b : Nat} (e : X a b = true) : a ≠ b := by
  intro z
  rw [z, h.irr] at e
  exact Bool.noConfusion e

def rstripL (p : Nat → Bool) (l : List Nat) : List Nat := (l.reverse.dropWhile p).reverse
/-- the name behind a door, as it is reckoned: ac the letters that cross the kind, le the lesser ones of them -/
def behindL (ac le : List Nat) (name : List Nat) (k : Nat) : List Nat :=
  let stem := rstripL (fun c => ac.contains c) name
  let tail := name.drop stem.length
  if stem.getLast? = some k then stem.dropLast ++ tail
  else
    let late := tail.dropWhile (fun c => le.contains c)
    let early := tail.take (tail.length - late.length)
    stem ++ early ++ [k] ++ late
def acr (ks : List Nat) (X : Nat → Nat → Bool) (k : Nat) : List Nat := ks.filter (X k)
def les (ks : List Nat) (X : Nat → Nat → Bool) (k : Nat) : List Nat := (acr ks X k).filter (fun c => decide (c < k))
def beh (ks : List Nat) (X : Nat → Nat → Bool) (name : List Nat) (k : Nat) : List Nat := behindL (acr ks X k) (les ks X k) name k
def fol (ks : List Nat) (X : Nat → Nat → Bool) (name way : List Nat) : List Nat := way.foldl (beh ks X) name

theorem mem_acr {ks : List Nat} {X : Nat → Nat → Bool} {k c : Nat} : (acr ks X k).contains c = true ↔ c ∈ ks ∧ X k c = true := by
  unfold acr
  rw [List.contains_iff_mem, List.mem_filter]
theorem mem_les {ks : List Nat} {X : Nat → Nat → Bool} {k c : Nat} : (les ks X k).contains c = true ↔ c ∈ ks ∧ X k c = true ∧ c < k := by
  unfold les acr
  rw [List.contains_iff_mem, List.mem_filter, List.mem_filter, decide_eq_true_iff]
  exact and_assoc

theorem take_drop_while (p : Nat → Bool) (l : List Nat) : l.takeWhile p ++ l.dropWhile p = l := List.takeWhile_append_dropWhile
theorem take_all (p : Nat → Bool) : ∀ (l : List Nat) (x : Nat), x ∈ l.takeWhile p → p x = true
  | a :: l, x, h => by
    rw [List.takeWhile_cons] at h
    split at h
    · rename_i c
      rcases List.mem_cons.mp h with e | e
      · rw [e]; exact c
      · exact take_all p l x e
    · simp at h
theorem drop_head (p : Nat → Bool) : ∀ (l : List Nat) (a : Nat) (r : List Nat), l.dropWhile p = a :: r → p a = false
  | b :: l, a, r, h => by
    rw [List.dropWhile_cons] at h
    split at h
    · exact drop_head p l a r h
    · rename_i c
      have e := (List.cons.inj h).1
      rw [← e]
      simpa using c

/-- the name behind a door, in parts: the last letters, those ahead, both backwards -/
theorem beh_cases (ks : List Nat) (X : Nat → Nat → Bool) (name : List Nat) (k : Nat) :
    ∃ tl rest : List Nat, name.reverse = tl ++ rest ∧ (∀ c ∈ tl, c ∈ ks ∧ X k c = true) ∧ (∀ c r, rest = c :: r → ¬ (c ∈ ks ∧ X k c = true)) ∧
      ((∃ r, rest = k :: r ∧ beh ks X name k = (tl ++ r).reverse) ∨
       ((∀ r, rest ≠ k :: r) ∧ ∃ er lr : List Nat, tl = lr ++ er ∧ (∀ c ∈ er, c < k) ∧ (∀ f l, lr = l ++ [f] → ¬ f < k) ∧ beh ks X name k = (lr ++ k :: (er ++ rest)).reverse)) := by
  have e0 := take_drop_while (fun c => (acr ks X k).contains c) name.reverse
  have e1 : ∀ c ∈ name.reverse.takeWhile (fun c => (acr ks X k).contains c), (acr ks X k).contains c = true := fun c hc => take_all _ _ c hc
  have e2 : ∀ c r, name.reverse.dropWhile (fun c => (acr ks X k).contains c) = c :: r → (acr ks X k).contains c = false := fun c r q => drop_head _ _ c r q
  unfold beh behindL rstripL
  generalize name.reverse.takeWhile (fun c => (acr ks X k).contains c) = tl at e0 e1
  generalize name.reverse.dropWhile (fun c => (acr ks X k).contains c) = rest at e0 e2 ⊢
  have en : name = rest.reverse ++ tl.reverse := by
    have q := congrArg List.reverse e0
    rw [List.reverse_reverse, List.reverse_append] at q
    exact q.symm
  have ed : name.drop rest.reverse.length = tl.reverse := by
    rw [en, List.drop_left]
  dsimp only
  rw [ed]
  refine ⟨tl, rest, e0.symm, fun c hc => mem_acr.mp (e1 c hc), fun c r q z => ?_, ?_⟩
  · have := e2 c r q
    rw [mem_acr.mpr z] at this
    exact Bool.noConfusion this
  · rw [List.getLast?_reverse]
    cases rest with
    | nil =>
      right
      refine ⟨(by intro r q; cases q), ?_⟩
      rw [if_neg (by simp)]
      have t0 := take_drop_while (fun c => (les ks X k).contains c) tl.reverse
      have t1 : ∀ c ∈ tl.reverse.takeWhile (fun c => (les ks X k).contains c), c < k := fun c hc => (mem_les.mp (take_all _ _ c hc)).2.2
      have t2 : ∀ c r, tl.reverse.dropWhile (fun c => (les ks X k).contains c) = c :: r → (les ks X k).contains c = false := fun c r q => drop_head _ _ c r q
      generalize tl.reverse.takeWhile (fun c => (les ks X k).contains c) = ea at t0 t1
      generalize tl.reverse.dropWhile (fun c => (les ks X k).contains c) = la at t0 t2 ⊢
      have et : tl.reverse.take (tl.reverse.length - la.length) = ea := by
        rw [← t0, List.length_append, Nat.add_sub_cancel, List.take_left]
      rw [et]
      refine ⟨ea.reverse, la.reverse, ?_, fun c hc => t1 c (List.mem_reverse.mp hc), fun f l q => ?_, ?_⟩
      · have q := congrArg List.reverse t0
        rw [List.reverse_reverse, List.reverse_append] at q
        exact q.symm
      · have q2 := congrArg List.reverse q
        rw [List.reverse_reverse, List.reverse_append] at q2
        have q3 := t2 f l.reverse q2
        intro z
        have hf : f ∈ tl := by
          have : f ∈ tl.reverse := by rw [← t0, q2]; simp
          exact List.mem_reverse.mp this
        have := mem_acr.mp (e1 f hf)
        rw [mem_les.mpr ⟨this.1, this.2, z⟩] at q3
        exact Bool.noConfusion q3
      · simp
    | cons a r =>
      by_cases c : a = k
      · left
        refine ⟨r, by rw [c], ?_⟩
        rw [if_pos (by simp [c])]
        simp
      · right
        refine ⟨fun r' q => c (List.cons.inj q).1, ?_⟩
        rw [if_neg (by simpa using c)]
        have t0 := take_drop_while (fun c => (les ks X k).contains c) tl.reverse
        have t1 : ∀ c ∈ tl.reverse.takeWhile (fun c => (les ks X k).contains c), c < k := fun c hc => (mem_les.mp (take_all _ _ c hc)).2.2
        have t2 : ∀ c r, tl.reverse.dropWhile (fun c => (les ks X k).contains c) = c :: r → (les ks X k).contains c = false := fun c r q => drop_head _ _ c r q
        generalize tl.reverse.takeWhile (fun c => (les ks X k).contains c) = ea at t0 t1
        generalize tl.reverse.dropWhile (fun c => (les ks X k).contains c) = la at t0 t2 ⊢
        have et : tl.reverse.take (tl.reverse.length - la.length) = ea := by
          rw [← t0, List.length_append, Nat.add_sub_cancel, List.take_left]
        rw [et]
        refine ⟨ea.reverse, la.reverse, ?_, fun c hc => t1 c (List.mem_reverse.mp hc), fun f l q => ?_, ?_⟩
        · have q := congrArg List.reverse t0
          rw [List.reverse_reverse, List.reverse_append] at q
          exact q.symm
        · have q2 := congrArg List.reverse q
          rw [List.reverse_reverse, List.reverse_append] at q2
          have q3 := t2 f l.reverse q2
          intro z
          have hf : f ∈ tl := by
            have : f ∈ tl.reverse := by rw [← t0, q2]; simp
            exact List.mem_reverse.mp this
          have := mem_acr.mp (e1 f hf)
          rw [mem_les.mpr ⟨this.1, this.2, z⟩] at q3
          exact Bool.noConfusion q3
        · simp

theorem bar_cons_false {X : Nat → Nat → Bool} {k o : Nat} {r : List Nat} : bar X (k :: r) o = false ↔ o ≠ k ∧ (X k o = true → ¬ o < k ∧ bar X r o = false) := by
  show ((o == k) || (X k o && (decide (o < k) || bar X r o))) = false ↔ _
  cases hx : X k o <;> cases hb : bar X r o <;> simp <;> omega
theorem nf_cons {X : Nat → Nat → Bool} {k : Nat} {r : List Nat} : nf X (k :: r) = true ↔ bar X r k = false ∧ nf X r = true := by
  show (!bar X r k && nf X r) = true ↔ _
  cases bar X r k <;> simp
theorem nf_tail {X : Nat → Nat → Bool} : ∀ {l r : List Nat}, nf X (l ++ r) = true → nf X r = true
  | [], _, h => h
  | _ :: l, _, h => nf_tail (l := l) (nf_cons.mp h).2
theorem bar_out {X : Nat → Nat → Bool} {k x : Nat} {r : List Nat} (hx : X k x = true) : ∀ (l : List Nat), bar X (l ++ k :: r) x = false → bar X (l ++ r) x = false
  | [], h => ((bar_cons_false.mp h).2 hx).2
  | c :: l, h => by
    obtain ⟨h1, h2⟩ := bar_cons_false.mp h
    exact bar_cons_false.mpr ⟨h1, fun q => ⟨(h2 q).1, bar_out hx l (h2 q).2⟩⟩
theorem nf_out {X : Nat → Nat → Bool} {k : Nat} {r : List Nat} : ∀ (l : List Nat), (∀ c ∈ l, X k c = true) → nf X (l ++ k :: r) = true → nf X (l ++ r) = true
  | [], _, h => (nf_cons.mp h).2
  | c :: l, ha, h => by
    obtain ⟨h1, h2⟩ := nf_cons.mp h
    exact nf_cons.mpr ⟨bar_out (ha c List.mem_cons_self) l h1, nf_out l (fun d hd => ha d (List.mem_cons_of_mem _ hd)) h2⟩
theorem bar_in {X : Nat → Nat → Bool} {k x f : Nat} {u : List Nat} (hx : X k x = true) (hne : x ≠ k) (hf : k < f) : ∀ (l : List Nat), bar X (l ++ [f] ++ u) x = false → bar X (l ++ [f] ++ k :: u) x = false
  | [], h => by
    obtain ⟨h1, h2⟩ := bar_cons_false.mp (show bar X (f :: u) x = false from h)
    refine bar_cons_false.mpr ⟨h1, fun q => ⟨(h2 q).1, bar_cons_false.mpr ⟨hne, fun _ => ⟨?_, (h2 q).2⟩⟩⟩⟩
    have := (h2 q).1
    omega
  | c :: l, h => by
    obtain ⟨h1, h2⟩ := bar_cons_false.mp h
    exact bar_cons_false.mpr ⟨h1, fun q => ⟨(h2 q).1, bar_in hx hne hf l (h2 q).2⟩⟩
theorem bar_low {X : Nat → Nat → Bool} (hX : Crossing X) {k : Nat} {rest : List Nat} (h1 : ∀ c r, rest = c :: r → X k c = false ∧ c ≠ k) : ∀ er : List Nat, (∀ c ∈ er, c < k ∧ X k c = true) → bar X (er ++ rest) k = false
  | [], _ => by
    cases rest with
    | nil => rfl
    | cons c r =>
      obtain ⟨a, b⟩ := h1 c r rfl
      refine bar_cons_false.mpr ⟨fun z => b z.symm, fun q => ?_⟩
      rw [hX.sym, a] at q
      exact Bool.noConfusion q
  | c :: er, h => by
    obtain ⟨a, b⟩ := h c List.mem_cons_self
    exact bar_cons_false.mpr ⟨by omega, fun _ => ⟨by omega, bar_low hX h1 er fun d hd => h d (List.mem_cons_of_mem _ hd)⟩⟩
theorem nf_in {X : Nat → Nat → Bool} (hX : Crossing X) {k : Nat} {u : List Nat} (hu : bar X u k = false) : ∀ (l : List Nat), (∀ c ∈ l, X k c = true) → (∀ f m, l = m ++ [f] → ¬ f < k) → nf X (l ++ u) = true → nf X (l ++ k :: u) = true
  | [], _, _, h => nf_cons.mpr ⟨hu, h⟩
  | c :: l, ha, hb, h => by
    obtain ⟨h1, h2⟩ := nf_cons.mp h
    have hc := ha c List.mem_cons_self
    have hne : c ≠ k := (hX.ne hc).symm
    refine nf_cons.mpr ⟨?_, nf_in hX hu l (fun d hd => ha d (List.mem_cons_of_mem _ hd)) (fun f m e => hb f (c :: m) (by rw [e]; rfl)) h2⟩
    cases hl : l.reverse with
    | nil =>
      have e : l = [] := by simpa using hl
      subst e
      have z := hb c [] rfl
      exact bar_cons_false.mpr ⟨hne, fun _ => ⟨z, h1⟩⟩
    | cons f m =>
      have e : l = m.reverse ++ [f] := by
        have q := congrArg List.reverse hl
        rw [List.reverse_reverse] at q
        simpa using q
      have z := hb f (c :: m.reverse) (by rw [e]; rfl)
      have hf : X k f = true := ha f (by rw [e]; simp)
      have hfk := hX.ne hf
      subst e
      exact bar_in hc hne (by omega) _ h1

/-- behind a door a name leads to a name -/
theorem beh_name {ks : List Nat} {X : Nat → Nat → Bool} (hX : Crossing X) {name : List Nat} {k : Nat} (hk : ∀ c ∈ name, c ∈ ks) (h : isName X name = true) : isName X (beh ks X name k) = true := by
  obtain ⟨tl, rest, e, h1, h2, h3⟩ := beh_cases ks X name k
  unfold isName at h ⊢
  rw [e] at h
  have hin : ∀ c ∈ tl ++ rest, c ∈ ks := fun c hc => hk c (List.mem_reverse.mp (by rw [e]; exact hc))
  rcases h3 with ⟨r, er, q⟩ | ⟨h4, er, lr, et, h5, h6, q⟩
  · rw [q, List.reverse_reverse]
    rw [er] at h
    exact nf_out tl (fun c hc => (h1 c hc).2) h
  · rw [q, List.reverse_reverse]
    rw [et, List.append_assoc] at h
    refine nf_in hX (bar_low hX (fun c r w => ?_) er fun c hc => ⟨h5 c hc, (h1 c (by rw [et]; exact List.mem_append_right _ hc)).2⟩) lr (fun c hc => (h1 c (by rw [et]; exact List.mem_append_left _ hc)).2) h6 h
    have hc : c ∈ ks := hin c (by rw [w]; simp)
    refine ⟨?_, fun z => h4 r (by rw [w, z])⟩
    cases hx : X k c with
    | false => rfl
    | true => exact absurd ⟨hc, hx⟩ (h2 c r w)
theorem beh_letters {ks : List Nat} {X : Nat → Nat → Bool} {name : List Nat} {k : Nat} (hk : ∀ c ∈ name, c ∈ ks) (hkk : k ∈ ks) : ∀ c ∈ beh ks X name k, c ∈ ks := by
  obtain ⟨tl, rest, e, h1, h2, h3⟩ := beh_cases ks X name k
  have hin : ∀ c ∈ tl ++ rest, c ∈ ks := fun c hc => hk c (List.mem_reverse.mp (by rw [e]; exact hc))
  rcases h3 with ⟨r, er, q⟩ | ⟨h4, er, lr, et, h5, h6, q⟩
  · intro c hc
    rw [q, List.mem_reverse] at hc
    refine hin c ?_
    rw [er]
    rcases List.mem_append.mp hc with z | z
    · exact List.mem_append_left _ z
    · exact List.mem_append_right _ (List.mem_cons_of_mem _ z)
  · intro c hc
    rw [q, List.mem_reverse] at hc
    rw [et] at hin
    rcases List.mem_append.mp hc with z | z
    · exact hin c (by simp [z])
    · rcases List.mem_cons.mp z with z | z
      · rw [z]; exact hkk
      · refine hin c ?_
        rcases List.mem_append.mp z with z | z <;> simp [z]
theorem beh_length (ks : List Nat) (X : Nat → Nat → Bool) (name : List Nat) (k : Nat) : (beh ks X name k).length ≤ name.length + 1 := by
  obtain ⟨tl, rest, e, h1, h2, h3⟩ := beh_cases ks X name k
  have el := congrArg List.length e
  rw [List.length_reverse, List.length_append] at el
  rcases h3 with ⟨r, er, q⟩ | ⟨h4, er, lr, et, h5, h6, q⟩
  · rw [q, List.length_reverse, List.length_append]
    rw [er, List.length_cons] at el
    omega
  · rw [q, List.length_reverse]
    rw [et] at el
    simp only [List.length_append, List.length_cons] at el ⊢
    omega
theorem fol_snoc (ks : List Nat) (X : Nat → Nat → Bool) (name way : List Nat) (k : Nat) : fol ks X name (way ++ [k]) = beh ks X (fol ks X name way) k := by
  unfold fol
  rw [List.foldl_append]
  rfl
theorem fol_name {ks : List Nat} {X : Nat → Nat → Bool} (hX : Crossing X) : ∀ (way name : List Nat), (∀ c ∈ name, c ∈ ks) → (∀ c ∈ way, c ∈ ks) → isName X name = true →
    isName X (fol ks X name way) = true ∧ ∀ c ∈ fol ks X name way, c ∈ ks
  | [], name, h1, _, h => ⟨h, h1⟩
  | k :: way, name, h1, h2, h =>
    fol_name hX way (beh ks X name k) (beh_letters h1 (h2 k List.mem_cons_self)) (fun c hc => h2 c (List.mem_cons_of_mem _ hc)) (beh_name hX h1 h)
theorem fol_length (ks : List Nat) (X : Nat → Nat → Bool) : ∀ (way name : List Nat), (fol ks X name way).length ≤ name.length + way.length
  | [], _ => Nat.le_refl _
  | k :: way, name => by
    have h1 := fol_length ks X way (beh ks X name k)
    have h2 := beh_length ks X name k
    show (fol ks X (beh ks X name k) way).length ≤ _
    rw [List.length_cons]
    omega
theorem isName_nil (X : Nat → Nat → Bool) : isName X [] = true := rfl
/-- letter by letter -/
theorem isName_snoc (X : Nat → Nat → Bool) (l : List Nat) (k : Nat) : isName X (l ++ [k]) = (!bar X l.reverse k && isName X l) := by
  unfold isName
  rw [List.reverse_append]
  rfl
theorem isName_take {X : Nat → Nat → Bool} {l : List Nat} {i : Nat} (h : isName X l = true) : isName X (l.take i) = true := by
  unfold isName at h ⊢
  have e : l.reverse = (l.drop i).reverse ++ (l.take i).reverse := by
    rw [← List.reverse_append, List.take_append_drop]
  rw [e] at h
  exact nf_tail h
end CW
end
section
set_option maxRecDepth 100000
set_option maxHeartbeats 2000000
/-! Texts as lists of letters: the methods that the program uses. -/
namespace TX
open PySem PySem.Spec PyProof.Rows L2 SX PySem.Builtin.Str
theorem S_has (b : List Nat) : (S b).cps.contains = fun c => b.contains c := by
  funext c
  show b.toArray.contains c = b.contains c
  rw [Bool.eq_iff_iff]
  simp
theorem S_lstrip (a b : List Nat) : Txt.lstripChars (S a) (S b) = S (a.dropWhile (fun c => b.contains c)) := by
  show Txt.stripBy (S b).cps.contains true false (S a) = _
  rw [S_has]
  rw [stripBy_eq]
  refine TL.ext_tl ?_
  show (strSub (S a) _ _).cps.toList = (a.dropWhile (fun c => b.contains c)).toArray.toList
  rw [StrLaws.strSub_toList]
  have e1 : stripLo (fun c => b.contains c) true (S a) = (a.takeWhile (fun c => b.contains c)).length := by
    show ((S a).cps.toList.takeWhile _).length = _
    simp
  have e2 : stripHi (fun c => b.contains c) false (S a) (stripLo (fun c => b.contains c) true (S a)) = a.length := S_len a
  rw [e2, e1]
  have h := CW.take_drop_while (fun c => b.contains c) a
  show (a.drop _).take _ = a.dropWhile (fun c => b.contains c)
  have e3 : a.drop (a.takeWhile (fun c => b.contains c)).length = a.dropWhile (fun c => b.contains c) := by
    conv => lhs; arg 2; rw [← h]
    rw [List.drop_left]
  rw [e3]
  refine List.take_of_length_le ?_
  have := congrArg List.length h
  rw [List.length_append] at this
  omega
theorem S_rstrip (a b : List Nat) : Txt.rstripChars (S a) (S b) = S (CW.rstripL (fun c => b.contains c) a) := by
  show Txt.stripBy (S b).cps.contains false true (S a) = _
  rw [S_has]
  rw [stripBy_eq]
  refine TL.ext_tl ?_
  show (strSub (S a) _ _).cps.toList = (CW.rstripL (fun c => b.contains c) a).toArray.toList
  rw [StrLaws.strSub_toList]
  have e1 : stripHi (fun c => b.contains c) true (S a) (stripLo (fun c => b.contains c) false (S a)) = a.length - (a.reverse.takeWhile (fun c => b.contains c)).length := by
    show (S a).length - (((S a).cps.toList.drop 0).reverse.takeWhile _).length = _
    rw [S_len]
    simp
  rw [e1]
  show (a.drop 0).take (_ - 0) = (a.reverse.dropWhile (fun c => b.contains c)).reverse
  rw [List.drop_zero, Nat.sub_zero]
  have h := CW.take_drop_while (fun c => b.contains c) a.reverse
  have h2 := congrArg List.reverse h
  rw [List.reverse_append, List.reverse_reverse] at h2
  have h3 := congrArg List.length h2
  rw [List.length_append, List.length_reverse, List.length_reverse] at h3
  have e4 : a.length - (a.reverse.takeWhile (fun c => b.contains c)).length = (a.reverse.dropWhile (fun c => b.contains c)).reverse.length := by
    rw [List.length_reverse]
    omega
  rw [e4]
  conv => lhs; arg 2; rw [← h2]
  rw [List.take_left]
theorem S_ends (a : List Nat) (c : Nat) : Txt.endswith (S a) (S [c]) = decide (a.getLast? = some c) := by
  show (decide (0 + (S [c]).length ≤ (S a).length) && subAt (S a) (S [c]) ((S a).length - (S [c]).length)) = _
  rw [StrLaws.subAt_eq, S_len, S_len]
  show (decide (0 + 1 ≤ a.length) && ((a.drop (a.length - 1)).take 1 == [c])) = _
  rcases List.eq_nil_or_concat a with e | ⟨l, d, e⟩
  · subst e
    simp
  · subst e
    rw [List.concat_eq_append, Bool.eq_iff_iff]
    simp
theorem S_cutFrom (a : List Nat) (k : Nat) : cutS (S a) (some (k : Int)) none = S (a.drop k) := by
  unfold cutS
  refine TL.ext_tl ?_
  show (((S a).cps.toList.drop (HT.sIx (S a).length 0 (some (k : Int)))).take ((S a).length - HT.sIx (S a).length 0 (some (k : Int)))).toArray.toList = _
  rw [HT.sIx_nat, S_len]
  show (a.drop (min k a.length)).take (a.length - min k a.length) = a.drop k
  rcases Nat.le_total k a.length with h | h
  · rw [Nat.min_eq_left h]
    exact List.take_of_length_le (by rw [List.length_drop] <;> omega)
  · rw [Nat.min_eq_right h, List.drop_eq_nil_of_le h]
    simp
theorem S_cutTo (a : List Nat) (k : Nat) : cutS (S a) none (some (k : Int)) = S (a.take k) := by
  unfold cutS
  refine TL.ext_tl ?_
  show (((S a).cps.toList.drop 0).take (HT.sIx (S a).length (S a).length (some (k : Int)) - 0)).toArray.toList = _
  rw [HT.sIx_nat, S_len, List.drop_zero, Nat.sub_zero]
  show a.take (min k a.length) = a.take k
  rcases Nat.le_total k a.length with h | h
  · rw [Nat.min_eq_left h]
  · rw [Nat.min_eq_right h, List.take_of_length_le (Nat.le_refl _), List.take_of_length_le h]
theorem S_cutMid (a : List Nat) (i j : Nat) : cutS (S a) (some (i : Int)) (some (j : Int)) = S ((a.drop i).take (j - i)) := by
  unfold cutS
  refine TL.ext_tl ?_
  show (((S a).cps.toList.drop (HT.sIx (S a).length 0 (some (i : Int)))).take (HT.sIx (S a).length (S a).length (some (j : Int)) - HT.sIx (S a).length 0 (some (i : Int)))).toArray.toList = _
  rw [HT.sIx_nat, HT.sIx_nat, S_len]
  show (a.drop (min i a.length)).take (min j a.length - min i a.length) = (a.drop i).take (j - i)
  rcases Nat.le_total i a.length with h | h
  · rw [Nat.min_eq_left h]
    rcases Nat.le_total j a.length with g | g
    · rw [Nat.min_eq_left g]
    · rw [Nat.min_eq_right g, List.take_of_length_le (by rw [List.length_drop] <;> omega), List.take_of_length_le (by rw [List.length_drop] <;> omega)]
  · rw [Nat.min_eq_right h, List.drop_eq_nil_of_le h, List.drop_eq_nil_of_le (Nat.le_refl _)]
    simp
theorem S_butLast (a : List Nat) : cutS (S a) none (some (-1)) = S a.dropLast := by
  unfold cutS
  refine TL.ext_tl ?_
  show (((S a).cps.toList.drop 0).take (HT.sIx (S a).length (S a).length (some (-1)) - 0)).toArray.toList = _
  have e : HT.sIx (S a).length (S a).length (some (-1)) = a.length - 1 := by
    rw [S_len]
    show (if (-1 : Int) < 0 then ((-1 : Int) + (a.length : Int)).toNat else min (-1 : Int).toNat a.length) = _
    rw [if_pos (by decide)]
    omega
  rw [e, List.drop_zero, Nat.sub_zero, List.dropLast_eq_take]
theorem joinL_nil : ∀ ys : List (List Nat), TL.joinL [] ys = ys.flatten
  | [] => rfl
  | [a] => by
    show a = [a].flatten
    simp
  | a :: b :: r => by
    have ih := joinL_nil (b :: r)
    show a ++ ([] ++ TL.joinL [] (b :: r)) = _
    rw [ih]
    simp
theorem S_join (ys : List (List Nat)) : Txt.join (S []) (ys.map S) = S ys.flatten := by
  rw [join_S, joinL_nil]
theorem S_join1 (l : List Nat) : Txt.join (S []) (l.map fun c => S [c]) = S l := by
  have h := S_join (l.map fun c => [c])
  rw [List.map_map] at h
  have e : (l.map fun c => [c]).flatten = l := by
    clear h
    induction l with
    | nil => rfl
    | cons a l ih => rw [List.map_cons, List.flatten_cons, ih]; rfl
  rw [e] at h
  exact h
section
variable {X : Cx}
theorem foldl_rep (a : Array Nat) : ∀ (n : Nat) (acc : Array Nat), (List.replicate n a).foldl (· ++ ·) acc = (acc.toList ++ (List.replicate n a.toList).flatten).toArray
  | 0, acc => by simp
  | n + 1, acc => by
    rw [List.replicate_succ, List.foldl_cons, foldl_rep a n (acc ++ a), List.replicate_succ, List.flatten_cons, Array.toList_append, List.append_assoc]
/-- a text times a number -/
theorem op_rep_str : OpR X (binaryOp .Mult) (fun x y H Q => ∃ (z : List Nat) (n : Nat), x = .str (S z) ∧ y = .int (n : Int) ∧ z.length ≤ 100000 ∧ n ≤ 100000 ∧ z.length * n ≤ 1000000 ∧ Q (.str (S (List.replicate n z).flatten)) H) := by
  intro pins s σ H x y v u Q I rx ry h
  obtain ⟨z, n, rfl, rfl, hz, hn, hzn, q⟩ := h
  obtain ⟨t, rfl⟩ := rx
  obtain ⟨t', rfl⟩ := ry
  refine PySem.P.mul_str ?_ (fun h1 h2 => ?_) (fun h1 h2 => ?_) ?_
  · have a1 : ¬ ((n : Int) < -(2 ^ 63 : Int)) := by omega
    have a2 : ¬ ((n : Int) ≥ 2 ^ 63) := by omega
    rw [decide_eq_false a1, decide_eq_false a2]
    rfl
  · rw [S_len]
    have a3 : (1 : Int) ≤ n := by omega
    have a4 : (2 ^ 63 - 1 : Int) / n ≥ 100000 := by
      refine (Int.le_ediv_iff_mul_le (by omega)).mpr ?_
      have a5 : (100000 : Int) * n ≤ 100000 * 100000 := by omega
      omega
    omega
  · rw [S_len, Int.toNat_natCast]
    show decide (z.length * n > 2 ^ 24) = false
    exact decide_eq_false (by omega)
  · have fin : ∀ (w : Value) (s' : Shared), Inv X pins σ H s' → (∃ t, w = Value.str (S (List.replicate n z).flatten) t) → EP X pins σ Q w s' := fun w s' I' e => ⟨.str _, H, I', e, q⟩
    have small : ((S (List.replicate n z).flatten) : Str).length ≤ sizeLine := by
      rw [S_len, sizeLine_eq]
      simp only [List.length_flatten, List.map_replicate, List.sum_replicate_nat]
      rw [Nat.mul_comm]
      omega
    by_cases c : (n : Int) < 1
    · rw [if_pos c]
      have e : n = 0 := by omega
      subst e
      exact ⟨by decide, fin _ _ (I.tok _) ⟨_, rfl⟩⟩
    · rw [if_neg c]
      by_cases d : ((n : Int) == 1 || (S z).length == 0) = true
      · rw [if_pos d]
        have e : (S (List.replicate n z).flatten : Str) = S z := by
          rw [Bool.or_eq_true] at d
          rcases d with d | d
          · have e1 : n = 1 := by
              have := eq_of_beq d
              omega
            subst e1
            simp
          · have e1 : z = [] := by
              have := eq_of_beq d
              rw [S_len] at this
              exact List.length_eq_zero_iff.mp this
            subst e1
            simp
        refine fin _ _ I ⟨t, by rw [e]⟩
      · rw [if_neg d]
        have e : (⟨(List.replicate (n : Int).toNat (S z).cps).foldl (· ++ ·) #[]⟩ : Str) = S (List.replicate n z).flatten := by
          rw [Int.toNat_natCast, foldl_rep]
          simp
        refine ⟨by rw [e]; exact small, ?_⟩
        rw [e]
        exact fin _ _ (I.tok _) ⟨_, rfl⟩
end
end TX
end
section
set_option maxRecDepth 100000
set_option maxHeartbeats 2000000
/-! What plans and rooms are in memory. -/
namespace TX
open PySem PySem.Spec PyProof.Rows L2 SX CW
theorem len_line {n : Nat} (h : n ≤ 1000000) : n ≤ sizeLine := by
  rw [sizeLine_eq]
  omega
theorem len_lt {n : Nat} (h : n ≤ 1000000) : n < sizeLine := by
  rw [sizeLine_eq]
  omega
/-- a dict from letters to texts -/
def kvK (ks : List Nat) (f : Nat → List Nat) : List (Key × V) := ks.map fun k => (Sum.inr (S [k]), V.str (S (f k)))
theorem sk_inj {a b : Nat} (h : (Sum.inr (S [a]) : Key) = Sum.inr (S [b])) : a = b := by
  have h1 := Sum.inr.inj h
  have h2 := S_inj h1
  exact (List.cons.inj h2).1
theorem valV_kv {f : Nat → List Nat} {k : Nat} : ∀ {ks : List Nat}, k ∈ ks → valV (kvK ks f) (Sum.inr (S [k])) = some (.str (S (f k)))
  | [], h => nomatch h
  | a :: ks, h => by
    unfold valV kvK
    rw [List.map_cons, List.find?_cons]
    by_cases c : a = k
    · subst c
      simp
    · have e : decide ((Sum.inr (S [a]) : Key) = Sum.inr (S [k])) = false := decide_eq_false fun z => c (sk_inj z)
      rw [e]
      have h' : k ∈ ks := by
        rcases List.mem_cons.mp h with z | z
        · exact absurd z.symm c
        · exact z
      exact valV_kv h'
/-- the crossing pairs, ascending -/
def prs (ks : List Nat) (X : Nat → Nat → Bool) : List Str := ks.flatMap fun a => (ks.filter fun b => decide (a < b) && X a b).map fun b => S [a, b]
/-- a dict stands at d, under a lock or not -/
def DkAt (H : Hp) (d : Addr) (kvs : List (Key × V)) : Prop := H d = some (.dK kvs) ∨ ∃ od, H d = some (.frz od (.dK kvs))
theorem DkAt.keep {H H' : Hp} {d : Addr} {kvs : List (Key × V)} (h : DkAt H d kvs) (k : ∀ o, H d = some o → H' d = some o) : DkAt H' d kvs := h.elim (fun e => .inl (k _ e)) fun ⟨od, e⟩ => .inr ⟨od, k _ e⟩
theorem DkAt.get {H : Hp} {d : Addr} {ks : List Nat} {f : Nat → List Nat} {k : Nat} (h : DkAt H d (kvK ks f)) (hk : k ∈ ks) : DGet H d (.str (S [k])) (some (.str (S (f k)))) := .inl ⟨kvK ks f, Sum.inr (S [k]), h, rfl, (valV_kv hk).symm⟩
theorem DkAt.ne {H : Hp} {d r : Addr} {kvs : List (Key × V)} {o : HO} (h : DkAt H d kvs) (hr : H r = some o) (n1 : ∀ kvs, o ≠ .dK kvs) (n2 : ∀ od kvs, o ≠ .frz od (.dK kvs)) : d ≠ r := fun z => by
  rcases h with e | ⟨od, e⟩
  · rw [z, hr] at e
    exact n1 _ (Option.some.inj e)
  · rw [z, hr] at e
    exact n2 _ _ (Option.some.inj e)
theorem DkAt.same_ {H : Hp} {d : Addr} {kvs kvs' : List (Key × V)} (h : DkAt H d kvs) (h' : DkAt H d kvs') : kvs = kvs' := by
  rcases h with e | ⟨od, e⟩ <;> rcases h' with e' | ⟨od', e'⟩ <;> rw [e] at e'
  · exact HO.dK.inj (Option.some.inj e')
  · cases Option.some.inj e'
  · cases Option.some.inj e'
  · exact HO.dK.inj (HO.frz.inj (Option.some.inj e')).2
def pflds (ks : List Nat) (tp da dl : Addr) : List (Str × V) := [("kinds", .str (S ks)), ("pairs", .ref tp), ("across", .ref da), ("lesser", .ref dl)]
structure PlanAt (C : Addr) (H : Hp) (p : Addr) (ks : List Nat) (X : Nat → Nat → Bool) : Prop where
  few : ks.length ≤ 26
  up : ks.Pairwise (· < ·)
  cr : Crossing X
  abc : ∀ k ∈ ks, 97 ≤ k ∧ k ≤ 122
  ex : ∃ dx tp da dl, H p = some (.ins C dx (pflds ks tp da dl)) ∧ H tp = some (.tup ((prs ks X).map V.str)) ∧ DkAt H da (kvK ks (acr ks X)) ∧ DkAt H dl (kvK ks (les ks X))
theorem PlanAt.same {C : Addr} {H H' : Hp} {p : Addr} {ks : List Nat} {X : Nat → Nat → Bool} (h : PlanAt C H p ks X) (k : ∀ b o, H b = some o → H' b = some o) : PlanAt C H' p ks X := by
  obtain ⟨dx, tp, da, dl, h1, h2, h3, h4⟩ := h.ex
  exact ⟨h.few, h.up, h.cr, h.abc, dx, tp, da, dl, k _ _ h1, k _ _ h2, h3.keep (k _), h4.keep (k _)⟩
/-- a lock is put on a dict, or taken off -/
theorem PlanAt.swap {C : Addr} {H H' : Hp} {p t : Addr} {ks : List Nat} {X : Nat → Nat → Bool} {kvs : List (Key × V)} (h : PlanAt C H p ks X) (ht : DkAt H t kvs) (ht' : DkAt H' t kvs) (k : ∀ b o, b ≠ t → H b = some o → H' b = some o) : PlanAt C H' p ks X := by
  obtain ⟨dx, tp, da, dl, h1, h2, h3, h4⟩ := h.ex
  have dk : ∀ (d : Addr) (kv : List (Key × V)), DkAt H d kv → DkAt H' d kv := fun d kv hd => by
    by_cases z : d = t
    · subst z
      rw [hd.same_ ht]
      exact ht'
    · exact hd.keep (k d · z)
  exact ⟨h.few, h.up, h.cr, h.abc, dx, tp, da, dl, k _ _ (ht.ne h1 (fun _ z => by cases z) (fun _ _ z => by cases z)).symm h1, k _ _ (ht.ne h2 (fun _ z => by cases z) (fun _ _ z => by cases z)).symm h2, dk _ _ h3, dk _ _ h4⟩
structure PlanT (K : PySem.W.Frag) (C : Addr) : Prop where
  cl : Cls K C
  nk : NoAttr K C "kinds"
  np : NoAttr K C "pairs"
  na : NoAttr K C "across"
  nl : NoAttr K C "lesser"
theorem pf_kinds (ks : List Nat) (tp da dl : Addr) : (pflds ks tp da dl).lookup ("kinds" : Str) = some (.str (S ks)) := by
  unfold pflds
  rw [List.lookup_cons, show (("kinds" : Str) == ("kinds" : Str)) = true from by decide +kernel]
theorem pf_pairs (ks : List Nat) (tp da dl : Addr) : (pflds ks tp da dl).lookup ("pairs" : Str) = some (.ref tp) := by
  unfold pflds
  rw [List.lookup_cons, show (("pairs" : Str) == ("kinds" : Str)) = false from by decide +kernel]
  dsimp only
  rw [List.lookup_cons, show (("pairs" : Str) == ("pairs" : Str)) = true from by decide +kernel]
theorem pf_across (ks : List Nat) (tp da dl : Addr) : (pflds ks tp da dl).lookup ("across" : Str) = some (.ref da) := by
  unfold pflds
  rw [List.lookup_cons, show (("across" : Str) == ("kinds" : Str)) = false from by decide +kernel]
  dsimp only
  rw [List.lookup_cons, show (("across" : Str) == ("pairs" : Str)) = false from by decide +kernel]
  dsimp only
  rw [List.lookup_cons, show (("across" : Str) == ("across" : Str)) = true from by decide +kernel]
theorem pf_lesser (ks : List Nat) (tp da dl : Addr) : (pflds ks tp da dl).lookup ("lesser" : Str) = some (.ref dl) := by
  unfold pflds
  rw [List.lookup_cons, show (("lesser" : Str) == ("kinds" : Str)) = false from by decide +kernel]
  dsimp only
  rw [List.lookup_cons, show (("lesser" : Str) == ("pairs" : Str)) = false from by decide +kernel]
  dsimp only
  rw [List.lookup_cons, show (("lesser" : Str) == ("across" : Str)) = false from by decide +kernel]
  dsimp only
  rw [List.lookup_cons, show (("lesser" : Str) == ("lesser" : Str)) = true from by decide +kernel]
def rflds (p : Addr) (n : List Nat) : List (Str × V) := [("plan", .ref p), ("name", .str (S n))]
structure RoomT (K : PySem.W.Frag) (C : Addr) : Prop where
  cl : Cls K C
  np : NoAttr K C "plan"
  nn : NoAttr K C "name"
/-- a def of the module, under its name -/
structure D (K : PySem.W.Frag) (mg : Str → Option Value) (x : Str) (st : Stmt) (dv : List V) : Prop where
  ex : ∃ (f : Addr) (fd : FuncData), FunD K x x (defArgs st) (defBody st) (defScope st) dv [] f fd ∧ mg x = some (.ref f)
/-- a method -/
structure M (K : PySem.W.Frag) (C : Addr) (m qual : Str) (st : Stmt) (dv : List V) : Prop where
  ex : ∃ (f : Addr) (fd : FuncData), FunD K m qual (defArgs st) (defBody st) (defScope st) dv [] f fd ∧ Meth K C m f
section
variable {P : Program} {w : World} {K : PySem.W.Frag} {mg : Str → Option Value} {base : Heap}
/-- a def without defaults that lets nothing out, by its body -/
theorem D.cal {x : Str} {st : Stmt} {N ps : List Str} {k : Nat} {sp : Sp} (F : D K mg x st []) (Sc : FnScope N ps (defScope st))
    (hb : ∀ (f : Addr) (fd : FuncData), FunD K x x (defArgs st) (defBody st) (defScope st) [] [] f fd → Binds K fd ps []) (len : ∀ vs H Q E, sp vs H Q E → vs.length = ps.length)
    (hbody : ∀ (f : Addr) (cdv : Value) (A : Around) (outer : List Env) (s : Shared) (H : Hp) (vs : List V) (Q : VK) (E : XK), Room k (A.deeper (envOfC x (defScope st) s.heap.objs.size f cdv)) → sp vs H Q E →
      ∃ t, PSs (cxOf C8.CX0 P w K mg base N x (defScope st) f cdv A outer s H E).nox (defBody st) t ∧ t { nx := fun _ H' => Q .non H', rt := Q } (start N vs) H) : C8.Cal P w K mg base (k + 1) x sp [] := by
  obtain ⟨f, fd, F, g⟩ := F.ex
  refine ⟨f, fd, ps, [], F.ok Sc len fun cdv A outer s H vs Q E hr h => ?_, g, F.kp, hb f fd F, .nil⟩
  obtain ⟨t, h1, h2⟩ := hbody f cdv A outer s H vs Q E hr h
  exact ⟨t, PSs.nox h1, h2⟩
end
end TX
end
section
namespace TX
open PySem
/-! The places of the text. -/
def top (i : Nat) : Stmt := PySem.Challenge.pw_crosswalls_k27_halves_have_sides.main.body.getD i (.Pass ⟨0, 0, 0, 0⟩)
abbrev s_wall : Stmt := top 0
abbrev s_behind : Stmt := top 2
abbrev s_followed : Stmt := top 3
abbrev s_leads_nearer : Stmt := top 4
abbrev s_way_between : Stmt := top 5
abbrev s_starts_with : Stmt := top 7
abbrev s_those_across : Stmt := top 8
abbrev s_parted : Stmt := top 9
abbrev s_to_door : Stmt := top 10
abbrev s_is_in : Stmt := top 12
abbrev s_InvalidPlan_init : Stmt := L2.inClass (top 15) 0
abbrev s_InvalidKind_init : Stmt := L2.inClass (top 16) 0
abbrev s_InvalidWay_init : Stmt := L2.inClass (top 17) 0
abbrev s_SameKind_init : Stmt := L2.inClass (top 18) 0
abbrev s_TooLong_init : Stmt := L2.inClass (top 20) 0
abbrev s_TooMany_init : Stmt := L2.inClass (top 21) 0
abbrev s_check_kind : Stmt := top 24
abbrev s_check_way : Stmt := top 25
abbrev s_check_length : Stmt := top 26
abbrev s_check_same_plan : Stmt := top 27
abbrev s_Plan_init : Stmt := L2.inClass (top 30) 0
abbrev s_Plan_eq : Stmt := L2.inClass (top 30) 1
abbrev s_Plan_crosses : Stmt := L2.inClass (top 30) 2
abbrev s_Plan_add : Stmt := L2.inClass (top 30) 3
abbrev s_Plan_mul : Stmt := L2.inClass (top 30) 4
abbrev s_Plan_parts : Stmt := L2.inClass (top 30) 7
abbrev s_are_letters : Stmt := top 31
abbrev s_is_pair : Stmt := top 32
abbrev s_upright : Stmt := top 33
abbrev s_kinds_across : Stmt := top 34
abbrev s_kinds_before : Stmt := top 35
abbrev s_check_no_common_kind : Stmt := top 36
abbrev s_group_of : Stmt := top 37
abbrev s_is_beside : Stmt := top 38
abbrev s_Room_init : Stmt := L2.inClass (top 40) 0
abbrev s_Room_len : Stmt := L2.inClass (top 40) 1
abbrev s_Room_iter : Stmt := L2.inClass (top 40) 2
abbrev s_Room_getitem : Stmt := L2.inClass (top 40) 3
abbrev s_Room_add : Stmt := L2.inClass (top 40) 4
abbrev s_Room_nearer : Stmt := L2.inClass (top 40) 7
abbrev s_Room_eq : Stmt := L2.inClass (top 40) 8
abbrev s_Room_lt : Stmt := L2.inClass (top 40) 9
abbrev s_Room_le : Stmt := L2.inClass (top 40) 10
abbrev s_Room_gt : Stmt := L2.inClass (top 40) 11
abbrev s_Room_ge : Stmt := L2.inClass (top 40) 12
abbrev s_Room_order : Stmt := L2.inClass (top 40) 13
abbrev s_room_named : Stmt := top 41
abbrev s_Wall_init : Stmt := L2.inClass (top 43) 0
abbrev s_Wall_eq : Stmt := L2.inClass (top 43) 1
abbrev s_Wall_beyond : Stmt := L2.inClass (top 43) 2
abbrev s_Wall_crosses : Stmt := L2.inClass (top 43) 4
abbrev s_Wall_lies : Stmt := L2.inClass (top 43) 5
abbrev s_Half_init : Stmt := L2.inClass (top 45) 0
abbrev s_Half_beside : Stmt := L2.inClass (top 45) 1
abbrev s_Half_contains : Stmt := L2.inClass (top 45) 2
abbrev s_Half_invert : Stmt := L2.inClass (top 45) 3
abbrev s_Half_eq : Stmt := L2.inClass (top 45) 4
abbrev s_Half_le : Stmt := L2.inClass (top 45) 5
abbrev s_Half_meets : Stmt := L2.inClass (top 45) 6
abbrev s_law_begin : Stmt := top 47
abbrev s_law_draw : Stmt := top 48
abbrev s_law_pick : Stmt := top 49
abbrev s_law_shuffled : Stmt := top 50
abbrev s_law_is_crossing : Stmt := top 51
abbrev s_law_drawn_floor : Stmt := top 52
abbrev s_law_as_plan : Stmt := top 53
abbrev s_law_drawn_way : Stmt := top 54
abbrev s_law_turned : Stmt := top 55
abbrev s_law_root_of : Stmt := top 56
abbrev s_law_is_beyond : Stmt := top 57
abbrev s_law_half_of : Stmt := top 58
abbrev s_law_has : Stmt := top 59
abbrev s_law_no_kind : Stmt := top 60
abbrev s_law_has_its_side : Stmt := top 61
abbrev s_law_is_alone : Stmt := top 62
abbrev s_law_bare : Stmt := top 63
abbrev s_law : Stmt := top 64
end TX
end
section
set_option maxRecDepth 100000
set_option maxHeartbeats 2000000
/-! crosswalls.names: behind, followed, barred_after. -/
namespace TX
open PySem PySem.Spec PyProof.Rows L2 SX CW
/-- behind(plan, name, kind) -/
def spBehind (C : Addr) : Sp := fun vs H Q _ => ∃ (p : Addr) (ks : List Nat) (X : Nat → Nat → Bool) (name : List Nat) (k : Nat), vs = [.ref p, .str (S name), .str (S [k])] ∧ PlanAt C H p ks X ∧ k ∈ ks ∧ name.length ≤ 100000 ∧
  Q (.str (S (beh ks X name k))) H
section
variable {P : Program} {w : World} {K : PySem.W.Frag} {mg : Str → Option Value} {base : Heap} {C : Addr}
theorem sc_behind : FnScope ["plan", "name", "kind", "stem", "tail", "late", "early"] ["plan", "name", "kind"] (defScope s_behind) := ⟨rfl, rfl, rfl, by decide +kernel, rfl, by decide +kernel, by decide +kernel⟩
theorem ok_behind (F : D K mg "behind" s_behind []) (T : PlanT K C) (zl : mg "len" = none) : C8.Cal P w K mg base 1 "behind" (spBehind C) [] := by
  refine F.cal (ps := ["plan", "name", "kind"]) sc_behind (fun f fd F => F.bindsN fun _ _ _ _ _ _ us hl => match us, hl with | [_, _, _], _ => rfl) (fun vs H Q E h => ?_) (fun f cdv A outer s H vs Q E hr h => ?_)
  · obtain ⟨p, ks, X, name, k, rfl, _⟩ := h
    rfl
  · obtain ⟨p, ks, X, name, k, rfl, hp, hk, hn, q⟩ := h
    have hu := hu_of hr
    refine ⟨_, pss_cons (ps_set (i := 3) sc_behind.nd rfl (.inl rfl) (pe_bm PySem.F.plainAttrs_str PySem.F.slot_str_rstrip PySem.F.type_str_rstrip mt_rstripChars (pv 1) (pa_cons (pe_dget hu (pe_fld (pv 0) rfl) (pv 2) (fun _ _ => rfl)) pa_nil)))
      (pss_cons (ps_set (i := 4) sc_behind.nd rfl (.inl rfl) (pe_slice sl_str (pv 1) (po_some (pe_callB call_len_str (by rfl) zl PySem.boot_len (pa_cons (pv 3) pa_nil))) po_none))
      (pss_cons (ps_if (pt_val (pe_m1 PySem.F.slot_str_endswith PySem.F.type_str_endswith mt_endswith (pv 3) (pv 2))) (pss_one (ps_ret (pe_op op_add_str (pe_slice sl_str (pv 3) po_none (po_some (pe_un un_neg pe_int))) (pv 4)))) pss_nil)
      (pss_cons (ps_set (i := 5) sc_behind.nd rfl (.inl rfl) (pe_bm PySem.F.plainAttrs_str PySem.F.slot_str_lstrip PySem.F.type_str_lstrip mt_lstripChars (pv 4) (pa_cons (pe_dget hu (pe_fld (pv 0) rfl) (pv 2) (fun _ _ => rfl)) pa_nil)))
      (pss_cons (ps_set (i := 6) sc_behind.nd rfl (.inl rfl) (pe_slice sl_str (pv 4) po_none (po_some (pe_op op_sub (pe_callB call_len_str (by rfl) zl PySem.boot_len (pa_cons (pv 4) pa_nil)) (pe_callB call_len_str (by rfl) zl PySem.boot_len (pa_cons (pv 5) pa_nil))))))
      (pss_one (ps_ret (pe_op op_add_str (pe_op op_add_str (pe_op op_add_str (pv 3) (pv 6)) (pv 2)) (pv 5)))))))), ?_⟩
    obtain ⟨dx, tp, da, dl, h1, h2, h3, h4⟩ := hp.ex
    have nl : ((S name : Str)).length ≤ sizeLine := by rw [S_len]; exact len_line (by omega)
    have g3 : DGet H da (.str (S [k])) (some (.str (S (acr ks X k)))) := h3.get hk
    have g4 : DGet H dl (.str (S [k])) (some (.str (S (les ks X k)))) := h4.get hk
    have eb : beh ks X name k = behindL (acr ks X k) (les ks X k) name k := rfl
    unfold behindL at eb
    dsimp only at eb
    -- stem, tail
    refine ⟨_, rfl, rfl, _, rfl, p, C, dx, _, _, rfl, h1, T.cl, T.na, pf_across _ _ _ _, _, rfl, da, _, rfl, g3, _, _, rfl, rfl, nl, ?_⟩
    rw [S_rstrip]
    generalize hs : rstripL (fun c => (acr ks X k).contains c) name = stem at eb ⊢
    have sl : stem.length ≤ name.length := by
      rw [← hs]
      unfold rstripL
      rw [List.length_reverse]
      have z := congrArg List.length (take_drop_while (fun c => (acr ks X k).contains c) name.reverse)
      rw [List.length_append, List.length_reverse] at z
      omega
    have ls : ((S stem : Str)).length ≤ sizeLine := by rw [S_len]; exact len_line (by omega)
    refine ⟨_, rfl, _, rfl, _, rfl, ls, _, rfl, _, rfl, nl, ?_⟩
    rw [S_len, S_cutFrom]
    generalize ht : name.drop stem.length = tail at eb ⊢
    have tl : tail.length ≤ name.length := by
      rw [← ht, List.length_drop]
      omega
    have lt : ((S tail : Str)).length ≤ sizeLine := by rw [S_len]; exact len_line (by omega)
    -- if stem.endswith(kind)
    refine ⟨_, rfl, ⟨_, rfl⟩, _, rfl, _, _, rfl, rfl, _, rfl, ?_⟩
    rw [S_ends]
    by_cases c : stem.getLast? = some k
    · rw [decide_eq_true c]
      refine iteT ?_
      refine ⟨_, rfl, _, rfl, _, rfl, _, rfl, ls, _, rfl, _, _, rfl, rfl, ?_, ?_⟩
      · rw [S_butLast, S_len, S_len, List.length_dropLast]
        exact len_line (by omega)
      · rw [S_butLast, S_cat]
        rw [if_pos c] at eb
        rw [← eb]
        exact q
    · rw [decide_eq_false c]
      refine iteF ?_
      rw [if_neg c] at eb
      -- late, early
      refine ⟨_, rfl, rfl, _, rfl, p, C, dx, _, _, rfl, h1, T.cl, T.nl, pf_lesser _ _ _ _, _, rfl, dl, _, rfl, g4, _, _, rfl, rfl, lt, ?_⟩
      rw [S_lstrip]
      generalize hl : tail.dropWhile (fun c => (les ks X k).contains c) = late at eb ⊢
      have ll : late.length ≤ tail.length := by
        have z := congrArg List.length (take_drop_while (fun c => (les ks X k).contains c) tail)
        rw [List.length_append, hl] at z
        omega
      refine ⟨_, rfl, _, rfl, _, rfl, lt, _, rfl, _, rfl, (by rw [S_len]; exact len_line (by omega)), _, _, rfl, rfl, _, rfl, _, rfl, lt, ?_⟩
      have ez : (((S tail : Str).length : Int) - ((S late : Str).length : Int)) = ((tail.length - late.length : Nat) : Int) := by
        rw [S_len, S_len]
        omega
      rw [ez, S_cutTo]
      have el : (tail.take (tail.length - late.length)).length ≤ tail.length := by
        rw [List.length_take]
        omega
      generalize tail.take (tail.length - late.length) = early at eb el ⊢
      refine ⟨_, rfl, _, rfl, _, _, rfl, rfl, (by rw [S_len, S_len]; exact len_line (by omega)), _, rfl, _, _, rfl, rfl, ?_, _, rfl, _, _, rfl, rfl, ?_, ?_⟩
      · rw [S_cat stem early, S_len, S_len, List.length_append]
        exact len_line (by simp only [List.length_cons, List.length_nil]; omega)
      · rw [S_cat stem early, S_cat (stem ++ early) [k], S_len, S_len, List.length_append, List.length_append]
        exact len_line (by simp only [List.length_cons, List.length_nil]; omega)
      · rw [S_cat stem early, S_cat (stem ++ early) [k], S_cat (stem ++ early ++ [k]) late]
        rw [← eb]
        exact q
end
end TX
end
section
set_option maxRecDepth 100000
set_option maxHeartbeats 2000000
namespace TX
open PySem PySem.Spec PyProof.Rows L2 SX CW
/-- followed(plan, name, way) -/
def spFollowed (C : Addr) : Sp := fun vs H Q _ => ∃ (p : Addr) (ks : List Nat) (X : Nat → Nat → Bool) (name way : List Nat), vs = [.ref p, .str (S name), .str (S way)] ∧ PlanAt C H p ks X ∧ (∀ k ∈ way, k ∈ ks) ∧
  name.length + way.length ≤ 100000 ∧ Q (.str (S (fol ks X name way))) H
/-- is_barred_after(plan, barred, kind, other) -/
def spIsBarred (C : Addr) : Sp := fun vs H Q _ => ∃ (p : Addr) (ks : List Nat) (X : Nat → Nat → Bool) (b : List Nat) (k o : Nat), vs = [.ref p, .str (S b), .str (S [k]), .str (S [o])] ∧ PlanAt C H p ks X ∧ k ∈ ks ∧ o ∈ ks ∧
  Q (.bl ((o == k) || (X k o && (decide (o < k) || b.contains o)))) H
/-- barred_after(plan, barred, kind) -/
def spBarred (C : Addr) : Sp := fun vs H Q _ => ∃ (p : Addr) (ks : List Nat) (X : Nat → Nat → Bool) (b : List Nat) (k : Nat), vs = [.ref p, .str (S b), .str (S [k])] ∧ PlanAt C H p ks X ∧ k ∈ ks ∧
  ∀ H', L2.Same H H' → Q (.str (S (ks.filter fun o => (o == k) || (X k o && (decide (o < k) || b.contains o))))) H'
/-- is_name(plan, value) -/
def spIsName (K : PySem.W.Frag) (C : Addr) : Sp := fun vs H Q _ => ∃ (p : Addr) (ks : List Nat) (X : Nat → Nat → Bool) (x : V), vs = [.ref p, x] ∧ PlanAt C H p ks X ∧
  ((∃ v : List Nat, x = .str (S v) ∧ v.length ≤ 100000 ∧ ∀ H', L2.Same H H' → Q (.bl (v.all (fun c => ks.contains c) && isName X v)) H') ∨
   (∃ t, TyX K H x t ∧ PySem.W.kitOne K t (.type "str") = some false ∧ Q (.bl false) H))
theorem getS {z : List Nat} {i c : Nat} (h : (S z).cps[i]? = some c) : z[i]? = some c := by
  have e : (S z).cps[i]? = z[i]? := by
    show z.toArray[i]? = z[i]?
    simp
  rw [e] at h
  exact h
theorem sizeS (z : List Nat) : (S z).cps.size = z.length := by
  show z.toArray.size = z.length
  simp
section
variable {P : Program} {w : World} {K : PySem.W.Frag} {mg : Str → Option Value} {base : Heap} {C : Addr}
theorem sc_followed : FnScope ["plan", "name", "way", "kind"] ["plan", "name", "way"] (defScope s_followed) := ⟨rfl, rfl, rfl, by decide +kernel, rfl, by decide +kernel, by decide +kernel⟩
theorem ok_followed (F : D K mg "followed" s_followed []) (cB : C8.Cal P w K mg base 1 "behind" (spBehind C) []) : C8.Cal P w K mg base 2 "followed" (spFollowed C) [] := by
  refine F.cal (ps := ["plan", "name", "way"]) sc_followed (fun f fd F => F.bindsN fun _ _ _ _ _ _ us hl => match us, hl with | [_, _, _], _ => rfl) (fun vs H Q E h => ?_) (fun f cdv A outer s H vs Q E hr h => ?_)
  · obtain ⟨p, ks, X, name, way, rfl, _⟩ := h
    rfl
  · obtain ⟨p, ks, X, name, way, rfl, hp, hw, hn, q⟩ := h
    refine ⟨_, pss_cons (ps_for PassesOwn.never rfl (pi_str (pv 2)) (pg_name (i := 3) sc_followed.nd rfl (.inl rfl))
        (pss_one (ps_set (i := 1) sc_followed.nd rfl (.inl rfl) (C8.pe_c cB hr (by decide) (by rfl) (pa_cons (pv 0) (pa_cons (pv 1) (pa_cons (pv 3) pa_nil)))))))
      (pss_one (ps_ret (pv 1))), ?_⟩
    refine ⟨_, rfl, _, rfl, for_it walk_str (fun i σ H' => ∃ v, σ = [some (.ref p), some (.str (S (fol ks X name (way.take i)))), some (.str (S way)), v] ∧ H' = H) ⟨none, rfl, rfl⟩ (fun _ _ _ _ _ => trivial) ?_ ?_⟩
    · rintro i x σ H' H2 hi ⟨v, rfl, rfl⟩ ⟨rfl, c, hc, rfl⟩
      have hc' := getS hc
      have hin : c ∈ ks := hw c (List.mem_of_getElem? hc')
      have hl := fol_length ks X (way.take i) name
      rw [List.length_take] at hl
      refine ⟨_, rfl, _, rfl, _, rfl, p, ks, X, _, c, rfl, hp, hin, by omega, ?_⟩
      refine ⟨some (.str (S [c])), ?_, rfl⟩
      rw [take_one hc', fol_snoc]
      rfl
    · rintro σ H' ⟨v, rfl, rfl⟩
      rw [sizeS, List.take_length]
      exact ⟨_, rfl, q⟩
theorem lt_one (a b : Nat) : decide ((S [a]).cps.toList < (S [b]).cps.toList) = decide (a < b) := by
  show decide ([a] < [b]) = decide (a < b)
  rw [decide_eq_decide]
  constructor
  · intro h
    cases h with
    | rel h => exact h
    | cons h => cases h
  · exact fun h => List.Lex.rel h
theorem eq_one (a b : Nat) : decide (V.str (S [a]) = V.str (S [b])) = (a == b) := by
  rw [Bool.eq_iff_iff, decide_eq_true_iff, beq_iff_eq]
  constructor
  · intro h
    exact (List.cons.inj (S_inj (V.str.inj h))).1
  · rintro rfl
    rfl
theorem mem_S (c : Nat) (l : List Nat) : decide (c ∈ (S l).cps.toList) = l.contains c := by
  show decide (c ∈ l.toArray.toList) = l.contains c
  rw [Bool.eq_iff_iff]
  simp
theorem all_in (ks v : List Nat) : (v.all fun c => ks.contains c) = (v.dropWhile fun c => ks.contains c).isEmpty := by
  induction v with
  | nil => rfl
  | cons a v ih =>
    rw [List.all_cons, List.dropWhile_cons]
    cases h : ks.contains a
    · simp
    · simpa using ih
end
end TX
end
section
set_option maxRecDepth 100000
set_option maxHeartbeats 2000000
/-! text[::-1] -/
namespace TX
open PySem PySem.Spec PyProof.Rows L2 SX CW PySem.Builtin.Str
def tRevS (te : TE) : TE := fun σ H Q => te σ H fun x H1 => ∃ z : List Nat, x = .str (S z) ∧ z.length ≤ 1000000 ∧ Q (.str (S z.reverse)) H1
theorem rev_pick (z : List Nat) : (((List.range z.length).map fun k => z.length - 1 - k).filterMap ((S z).cps[·]?)) = z.reverse := by
  rw [PySem.W.krv_range, List.filterMap_reverse]
  have h := PySem.W.krv_all z.toArray
  have e : (List.range z.length).filterMap ((S z).cps[·]?) = z := by
    have h2 : (List.range z.toArray.size).filterMap (z.toArray[·]?) = z := by simpa using h
    simpa using h2
  rw [e]
section
variable {X : Cx} {e st : Expr} {te ts : TE} {p2 pos : Pos}
theorem pe_revS (he : PE X e te) (hs : PE X st (tUn (rU fun i => .int (-i)) (tC (.int 1)))) : PE X (.Subscript e (.Slice none none (some st) p2) pos) (tRevS te) := by
  refine ⟨fun pins s σ H Q I h => ?_⟩
  refine Subscript_ (thn (he.run pins s σ H _ I h) fun v s1 ⟨x, H1, I1, r1, z, ex, hz, q⟩ => ?_)
  subst ex
  obtain ⟨t, rfl⟩ := r1
  refine wpAny_Slice ?_
  rw [evalPart_none]
  refine wpAny_pure (wpAny_pure ?_)
  rw [evalPart_some]
  refine thn (hs.run pins s1 σ H1 (fun y H2 => y = .int (-1) ∧ H2 = H1) I1 ⟨1, rfl, rfl, rfl⟩) fun vs s2 ⟨y, H2, I2, r2, ey, eH⟩ => ?_
  subst ey
  subst eH
  obtain ⟨u, rfl⟩ := r2
  have I3 : Inv X pins σ H2 { s2 with heap := s2.heap.push { cls := .type "slice", data := .fields #[.none, .none, .int (-1) u] } } := I2.kept (t' := s2.toks) fun b ob q => Heap.get?_push_of_some _ q
  show wpAny (model X.prog X.w) X.A (subscriptTail e (.Slice none none (some st) p2) (.str (S z) t) (.ref s2.heap.objs.size)) (EP X pins σ Q) X.xe _
  refine tail_any (ops := [.ref s2.heap.objs.size, .str (S z) t]) (typeIs_str _ _ _) F.slot_str_getitem.lookup ?_ (by with_unfolding_all rfl)
  refine wpAny_getItem_str_slice (l := none) (u := none) (st := some (-1, u)) ⟨_, Heap.get?_push_size _ rfl, rfl, rfl⟩ rfl ?_
  show Made.post (if ((-1 : Int) == 1 && (strSliceIndices none none (-1) (S z).length).length == (S z).length) = true then Made.val (.str (S z) t)
    else Made.str ⟨((strSliceIndices none none (-1) (S z).length).filterMap ((S z).cps[·]?)).toArray⟩) (EP X pins σ Q) _
  have e1 : ((-1 : Int) == 1) = false := by decide
  rw [if_neg (by rw [e1, Bool.false_and]; exact Bool.false_ne_true), picked_rev, S_len, rev_pick]
  exact ⟨by rw [S_len, List.length_reverse]; exact len_line (by omega), .str (S z.reverse), H2, I3.tok _, ⟨_, rfl⟩, q⟩
end
end TX
end
section
set_option maxRecDepth 100000
set_option maxHeartbeats 2000000
/-! Sorted lists of texts are told by their members. -/
namespace TX
open PySem PySem.Spec PyProof.Rows L2 SX CW
theorem rising_le {α : Type} (f : α → Str) (key : α → Nat) (hk : ∀ a b, ltCps (f a).cps.toList (f b).cps.toList = decide (key a < key b)) :
    ∀ (l : List α) (p : α), risingS (f p) (l.map f) = true → (p :: l).Pairwise (fun a b => key a ≤ key b)
  | [], p, _ => List.pairwise_singleton _ _
  | x :: l, p, h => by
    have h' : (!ltCps (f x).cps.toList (f p).cps.toList && risingS (f x) (l.map f)) = true := h
    rw [Bool.and_eq_true] at h'
    obtain ⟨h1, h2⟩ := h'
    rw [hk] at h1
    have h3 : key p ≤ key x := by simpa using h1
    have ih := rising_le f key hk l x h2
    refine List.pairwise_cons.mpr ⟨fun y hy => ?_, ih⟩
    rcases List.mem_cons.mp hy with e | e
    · rw [e]; exact h3
    · exact Nat.le_trans h3 ((List.pairwise_cons.mp ih).1 y e)
theorem sorted_le {α : Type} (f : α → Str) (key : α → Nat) (hk : ∀ a b, ltCps (f a).cps.toList (f b).cps.toList = decide (key a < key b)) (l : List α) (h : sortedS (l.map f) = true) :
    l.Pairwise (fun a b => key a ≤ key b) := by
  cases l with
  | nil => exact List.Pairwise.nil
  | cons p l => exact rising_le f key hk l p h
theorem uniq {α : Type} (key : α → Nat) : ∀ (l m : List α), l.Pairwise (fun a b => key a < key b) → m.Pairwise (fun a b => key a < key b) → (∀ x, x ∈ l ↔ x ∈ m) → l = m
  | [], m, _, _, h => by
    cases m with
    | nil => rfl
    | cons b m => exact absurd ((h b).mpr List.mem_cons_self) (by simp)
  | a :: l, [], _, _, h => absurd ((h a).mp List.mem_cons_self) (by simp)
  | a :: l, b :: m, hl, hm, h => by
    obtain ⟨l1, l2⟩ := List.pairwise_cons.mp hl
    obtain ⟨m1, m2⟩ := List.pairwise_cons.mp hm
    have e : a = b := by
      rcases List.mem_cons.mp ((h a).mp List.mem_cons_self) with z | z
      · exact z
      · rcases List.mem_cons.mp ((h b).mpr List.mem_cons_self) with y | y
        · exact y.symm
        · have := m1 a z
          have := l1 b y
          omega
    subst e
    rw [uniq key l m l2 m2 fun x => ?_]
    constructor
    · intro hx
      rcases List.mem_cons.mp ((h x).mp (List.mem_cons_of_mem _ hx)) with z | z
      · have := l1 x hx
        rw [z] at this
        omega
      · exact z
    · intro hx
      rcases List.mem_cons.mp ((h x).mpr (List.mem_cons_of_mem _ hx)) with z | z
      · have := m1 x hx
        rw [z] at this
        omega
      · exact z
/-- a list of texts that are all f of something -/
theorem all_f {α : Type} (f : α → Str) : ∀ ys : List Str, (∀ y ∈ ys, ∃ a, y = f a) → ∃ l : List α, ys = l.map f
  | [], _ => ⟨[], rfl⟩
  | y :: ys, h => by
    obtain ⟨a, ea⟩ := h y List.mem_cons_self
    obtain ⟨l, el⟩ := all_f f ys fun z hz => h z (List.mem_cons_of_mem _ hz)
    exact ⟨a :: l, by rw [ea, el]; rfl⟩
/-- sorted(..) of different texts, by what they are -/
theorem sorted_is {α : Type} (f : α → Str) (key : α → Nat) (hk : ∀ a b, ltCps (f a).cps.toList (f b).cps.toList = decide (key a < key b)) (inj : ∀ a b, key a = key b → a = b) {ys xs : List Str} {m : List α}
    (pm : ys.Perm xs) (nd : xs.Nodup) (hs : sortedS ys = true) (hx : ∀ y ∈ xs, ∃ a, y = f a) (hm : m.Pairwise (fun a b => key a < key b)) (hxm : ∀ a, f a ∈ xs ↔ a ∈ m) : ys = m.map f := by
  obtain ⟨l, rfl⟩ := all_f f ys fun y hy => hx y (pm.mem_iff.mp hy)
  have finj : ∀ a b, f a = f b → a = b := by
    intro a b e
    refine inj a b ?_
    have h1 := hk a b
    have h2 := hk b a
    rw [e] at h1 h2
    have h3 : ltCps (f b).cps.toList (f b).cps.toList = false := by
      have := hk b b
      rw [this]
      exact decide_eq_false (Nat.lt_irrefl _)
    rw [h3] at h1 h2
    have h4 := of_decide_eq_false h1.symm
    have h5 := of_decide_eq_false h2.symm
    omega
  have ndl : l.Nodup := by
    have z := pm.nodup_iff.mpr nd
    exact (List.pairwise_map.mp z).imp fun h e => h (congrArg f e)
  have le := sorted_le f key hk l hs
  have lt : l.Pairwise (fun a b => key a < key b) := by
    refine (List.Pairwise.and le ndl).imp fun {a b} ⟨h1, h2⟩ => ?_
    rcases Nat.lt_or_ge (key a) (key b) with z | z
    · exact z
    · exact absurd (inj a b (by omega)) h2
  rw [uniq key l m lt hm fun x => ?_]
  rw [← hxm x, ← pm.mem_iff, List.mem_map]
  constructor
  · exact fun h => ⟨x, h, rfl⟩
  · rintro ⟨y, hy, e⟩
    rw [← finj y x e]
    exact hy
theorem lt_k1 (a b : Nat) : ltCps (S [a]).cps.toList (S [b]).cps.toList = decide (a < b) := by
  rw [ltCps_eq]
  show decide ([a] < [b]) = decide (a < b)
  rw [decide_eq_decide]
  constructor
  · intro h
    cases h with
    | rel h => exact h
    | cons h => cases h
  · exact fun h => List.Lex.rel h
/-- pairs of letters -/
def fP (p : Nat × Fin 1000) : Str := S [p.1, p.2.val]
def kP (p : Nat × Fin 1000) : Nat := p.1 * 1000 + p.2.val
theorem lt_k2 (a b : Nat × Fin 1000) : ltCps (fP a).cps.toList (fP b).cps.toList = decide (kP a < kP b) := by
  obtain ⟨a1, a2, ha⟩ := a
  obtain ⟨b1, b2, hb⟩ := b
  rw [ltCps_eq]
  show decide ([a1, a2] < [b1, b2]) = decide (a1 * 1000 + a2 < b1 * 1000 + b2)
  rw [decide_eq_decide]
  constructor
  · intro h
    cases h with
    | rel h => omega
    | cons h =>
      cases h with
      | rel h => omega
      | cons h => cases h
  · intro h
    rcases Nat.lt_trichotomy a1 b1 with c | c | c
    · exact List.Lex.rel c
    · subst c
      exact List.Lex.cons (List.Lex.rel (by omega))
    · omega
theorem inj_k2 (a b : Nat × Fin 1000) (h : kP a = kP b) : a = b := by
  obtain ⟨a1, a2, ha⟩ := a
  obtain ⟨b1, b2, hb⟩ := b
  have h' : a1 * 1000 + a2 = b1 * 1000 + b2 := h
  have e1 : a1 = b1 := by omega
  have e2 : a2 = b2 := by omega
  subst e1
  subst e2
  rfl
/-- the crossing pairs as pairs of numbers -/
def prL (ks : List Nat) (X : Nat → Nat → Bool) (h : ∀ k ∈ ks, k < 1000) : List (Nat × Fin 1000) :=
  ks.flatMap fun a => (ks.attach.filter fun b => decide (a < b.1) && X a b.1).map fun b => (a, ⟨b.1, h b.1 b.2⟩)
theorem prL_map (ks : List Nat) (X : Nat → Nat → Bool) (h : ∀ k ∈ ks, k < 1000) : (prL ks X h).map fP = prs ks X := by
  unfold prL prs
  rw [List.map_flatMap]
  congr 1
  funext a
  rw [List.map_map]
  have e : ∀ l : List Nat, ∀ (hl : ∀ k ∈ l, k < 1000), (l.attach.filter fun b => decide (a < b.1) && X a b.1).map (fun b => S [a, b.1]) = (l.filter fun b => decide (a < b) && X a b).map fun b => S [a, b] := by
    intro l hl
    have e1 : (l.attach.filter fun b => decide (a < b.1) && X a b.1).map (fun b => S [a, b.1]) = ((l.attach.filter fun b => decide (a < b.1) && X a b.1).map (fun b => b.1)).map fun b => S [a, b] := by
      rw [List.map_map]
      rfl
    rw [e1]
    congr 1
    have e2 := List.filter_map (f := fun b : { x // x ∈ l } => b.1) (p := fun b => decide (a < b) && X a b) (l := l.attach)
    rw [List.attach_map_subtype_val] at e2
    rw [e2]
    rfl
  exact e ks h
theorem mem_prL {ks : List Nat} {X : Nat → Nat → Bool} {h : ∀ k ∈ ks, k < 1000} {p : Nat × Fin 1000} : p ∈ prL ks X h ↔ p.1 ∈ ks ∧ p.2.val ∈ ks ∧ p.1 < p.2.val ∧ X p.1 p.2.val = true := by
  unfold prL
  rw [List.mem_flatMap]
  constructor
  · rintro ⟨a, ha, hp⟩
    obtain ⟨b, hb, e⟩ := List.mem_map.mp hp
    subst e
    have z := (List.mem_filter.mp hb).2
    rw [Bool.and_eq_true, decide_eq_true_iff] at z
    exact ⟨ha, b.2, z.1, z.2⟩
  · rintro ⟨h1, h2, h3, h4⟩
    obtain ⟨a, b, hb⟩ := p
    refine ⟨a, h1, List.mem_map.mpr ⟨⟨b, h2⟩, List.mem_filter.mpr ⟨List.mem_attach _ _, ?_⟩, rfl⟩⟩
    rw [Bool.and_eq_true, decide_eq_true_iff]
    exact ⟨h3, h4⟩
theorem prL_up {ks : List Nat} {X : Nat → Nat → Bool} {h : ∀ k ∈ ks, k < 1000} (up : ks.Pairwise (· < ·)) : (prL ks X h).Pairwise (fun a b => kP a < kP b) := by
  unfold prL
  rw [List.pairwise_flatMap]
  refine ⟨fun a ha => ?_, up.imp fun {a b} hab => ?_⟩
  · rw [List.pairwise_map]
    refine List.Pairwise.filter _ ?_
    have z : (ks.attach.map (·.1)).Pairwise (· < ·) := by
      rw [List.attach_map_subtype_val]
      exact up
    rw [List.pairwise_map] at z
    refine z.imp fun {x y} hxy => ?_
    show a * 1000 + x.1 < a * 1000 + y.1
    omega
  · intro x hx y hy
    obtain ⟨c, _, e1⟩ := List.mem_map.mp hx
    obtain ⟨d, _, e2⟩ := List.mem_map.mp hy
    subst e1
    subst e2
    have := h c.1 c.2
    show a * 1000 + c.1 < b * 1000 + d.1
    omega
end TX
end
section
set_option maxRecDepth 100000
set_option maxHeartbeats 2000000
/-! crosswalls.plans: the small defs. -/
namespace TX
open PySem PySem.Spec PyProof.Rows L2 SX CW
def upL (a b : Nat) : List Nat := if a < b then [a, b] else [b, a]
/-- upright(pair) -/
def spUpright : Sp := fun vs H Q _ => ∃ (a b : Nat), vs = [.str (S [a, b])] ∧ Q (.str (S (upL a b))) H
/-- is_pair(kinds, value), where it is one -/
def spIsPair (K : PySem.W.Frag) : Sp := fun vs H Q _ => ∃ (zs : List Nat) (a b : Nat), vs = [.str (S zs), .str (S [a, b])] ∧ a ≠ b ∧ a ∈ zs ∧ b ∈ zs ∧ Q (.bl true) H
/-- are_letters(value), where they are -/
def spLetters : Sp := fun vs H Q _ => ∃ (zs : List Nat), vs = [.str (S zs)] ∧ zs.Nodup ∧ (∀ k ∈ zs, 97 ≤ k ∧ k ≤ 122) ∧ zs.length ≤ 1000 ∧ ∀ H', L2.Same H H' → Q (.bl true) H'
/-- kinds_across(kinds, pairs, kind) -/
def spAcross : Sp := fun vs H Q _ => ∃ (ks : List Nat) (X : Nat → Nat → Bool) (tp : Addr) (k : Nat), vs = [.str (S ks), .ref tp, .str (S [k])] ∧ H tp = some (.tup ((prs ks X).map V.str)) ∧ Crossing X ∧ k ∈ ks ∧ ks.length ≤ 26 ∧
  ∀ H', L2.Same H H' → Q (.str (S (acr ks X k))) H'
/-- kinds_before(kinds, kind) -/
def spBefore : Sp := fun vs H Q _ => ∃ (l : List Nat) (k : Nat), vs = [.str (S l), .str (S [k])] ∧ l.length ≤ 26 ∧ ∀ H', L2.Same H H' → Q (.str (S (l.filter fun c => decide (c < k)))) H'
theorem mem_prs {ks : List Nat} {X : Nat → Nat → Bool} {a b : Nat} : S [a, b] ∈ prs ks X ↔ a ∈ ks ∧ b ∈ ks ∧ a < b ∧ X a b = true := by
  unfold prs
  rw [List.mem_flatMap]
  constructor
  · rintro ⟨c, hc, hp⟩
    obtain ⟨d, hd, e⟩ := List.mem_map.mp hp
    have e2 := S_inj e
    have e3 := List.cons.inj e2
    have e4 := List.cons.inj e3.2
    obtain ⟨z1, z2⟩ := List.mem_filter.mp hd
    rw [Bool.and_eq_true, decide_eq_true_iff] at z2
    rw [e3.1] at hc z2
    rw [e4.1] at z1 z2
    exact ⟨hc, z1, z2.1, z2.2⟩
  · rintro ⟨h1, h2, h3, h4⟩
    refine ⟨a, h1, List.mem_map.mpr ⟨b, List.mem_filter.mpr ⟨h2, ?_⟩, rfl⟩⟩
    rw [Bool.and_eq_true, decide_eq_true_iff]
    exact ⟨h3, h4⟩
theorem sum_ones : ∀ l : List Nat, (l.map ((fun x : Str => x.length) ∘ fun c => S [c])).sum = l.length
  | [] => rfl
  | a :: l => by
    rw [List.map_cons, List.sum_cons, sum_ones l, List.length_cons]
    show (S [a]).length + l.length = _
    rw [S_len]
    simp only [List.length_cons, List.length_nil]
    omega
theorem empty_S : ("" : Str) = S [] := by decide +kernel
/-- ''.join of single letters -/
theorem join_ones {K : PySem.W.Frag} {H : Hp} {D : Addr} {l : List Nat} {Q : VK} (hl : H D = some (.lst (l.map fun c => V.str (S [c])))) (hn : l.length ≤ 1000000) (q : Q (.str (S l)) H) :
    ∃ a p, ∃ ys : List Str, (V.str ("" : Str)) = .str a ∧ [V.ref D] = [.ref p] ∧ (SqL K H p (ys.map V.str) ∨ SqT K H p (ys.map V.str)) ∧ (ys.map (·.length)).sum + ys.length * a.length ≤ 16777216 ∧ Q (.str (Txt.join a ys)) H := by
  refine ⟨_, _, l.map fun c => S [c], rfl, rfl, .inl ?_, ?_, ?_⟩
  · rw [List.map_map]
    exact SqL.of hl
  · rw [List.length_map, List.map_map, sum_ones, empty_S, S_len]
    simp only [List.length_nil]
    omega
  · rw [empty_S, S_join1]
    exact q
section
variable {P : Program} {w : World} {K : PySem.W.Frag} {mg : Str → Option Value} {base : Heap} {C : Addr}
theorem sc_upright : FnScope ["pair"] ["pair"] (defScope s_upright) := ⟨rfl, rfl, rfl, by decide +kernel, rfl, by decide +kernel, by decide +kernel⟩
theorem ok_upright (F : D K mg "upright" s_upright []) : C8.Cal P w K mg base 1 "upright" spUpright [] := by
  refine F.cal (ps := ["pair"]) sc_upright (fun f fd F => F.bindsN fun _ _ _ _ _ _ us hl => match us, hl with | [_], _ => rfl) (fun vs H Q E h => ?_) (fun f cdv A outer s H vs Q E hr h => ?_)
  · obtain ⟨a, b, rfl, _⟩ := h
    rfl
  · obtain ⟨a, b, rfl, q⟩ := h
    refine ⟨_, pss_one (ps_ret (pe_ifExp (pt_cmpR op_lt_str (pe_ix ix_str (pv 0) pe_int (fun _ _ => rfl)) (pe_ix ix_str (pv 0) pe_int (fun _ _ => rfl)) (nomark _)) (pv 0) (pe_revS (pv 0) (pe_un un_neg pe_int)))), ?_⟩
    have l2 : (S [a, b]).length ≤ sizeLine := by rw [S_len]; exact len_line (by simp)
    refine ⟨_, rfl, _, _, a, rfl, rfl, l2, atI_nat (j := 0) rfl, _, rfl, _, _, b, rfl, rfl, l2, atI_nat (j := 1) rfl, _, _, rfl, rfl, _, rfl, ?_⟩
    rw [lt_one]
    unfold upL at q
    refine ite2 (fun c => ?_) (fun c => ?_)
    · have c' := of_decide_eq_true c
      rw [if_pos c'] at q
      exact ⟨_, rfl, q⟩
    · have c' : ¬ a < b := fun z => c (decide_eq_true z)
      rw [if_neg c'] at q
      exact ⟨_, rfl, [a, b], rfl, by simp, q⟩
theorem sc_ispair : FnScope ["kinds", "value"] ["kinds", "value"] (defScope s_is_pair) := ⟨rfl, rfl, rfl, by decide +kernel, rfl, by decide +kernel, by decide +kernel⟩
theorem ok_ispair (F : D K mg "is_pair" s_is_pair []) (zi : mg "isinstance" = none) (zs : mg "str" = none) (zl : mg "len" = none) : C8.Cal P w K mg base 1 "is_pair" (spIsPair K) [] := by
  refine F.cal (ps := ["kinds", "value"]) sc_ispair (fun f fd F => F.bindsN fun _ _ _ _ _ _ us hl => match us, hl with | [_, _], _ => rfl) (fun vs H Q E h => ?_) (fun f cdv A outer s H vs Q E hr h => ?_)
  · obtain ⟨zs, a, b, rfl, _⟩ := h
    rfl
  · obtain ⟨zs', a, b, rfl, hab, ha, hb, q⟩ := h
    refine ⟨_, pss_cons (ps_if (PW.pt (pw_or (pt_not (pt_val (pe_callB call_isi (by rfl) zi PyProof.Rows.boot_isinstance (pa_cons (pv 1) (pa_cons (pe_bltn (v := .ty "str") (by rfl) zs (by decide +kernel) rfl) pa_nil)))))
        (pw_or1 (pt_cmpR op_ne (pe_callB call_len_str (by rfl) zl PySem.boot_len (pa_cons (pv 1) pa_nil)) pe_int (nomark _))))) (pss_one (ps_ret pe_bl)) pss_nil)
      (pss_one (ps_ret (pe_and (pe_cmpR op_ne (pe_ix ix_str (pv 1) pe_int (fun _ _ => rfl)) (pe_ix ix_str (pv 1) pe_int (fun _ _ => rfl)) (nomark _))
        (pe_and (pe_cmpR op_in_sign (pe_ix ix_str (pv 1) pe_int (fun _ _ => rfl)) (pv 0) (by rfl)) (pe_one (pe_cmpR op_in_sign (pe_ix ix_str (pv 1) pe_int (fun _ _ => rfl)) (pv 0) (by rfl))))))), ?_⟩
    have l2 : (S [a, b]).length ≤ sizeLine := by rw [S_len]; exact len_line (by simp)
    refine ⟨_, rfl, _, _, .type "str", .type "str", true, rfl, .ty _, .base (.str _), kit_ty (by decide +kernel), _, rfl, iteF ?_⟩
    refine ⟨_, rfl, _, rfl, l2, rfl, _, rfl, ?_⟩
    have e0 : (!decide (V.int ((S [a, b]).length : Int) = V.int 2)) = false := by
      rw [S_len]
      rfl
    rw [e0]
    refine iteF ?_
    refine ⟨_, rfl, _, _, a, rfl, rfl, l2, atI_nat (j := 0) rfl, _, rfl, _, _, b, rfl, rfl, l2, atI_nat (j := 1) rfl, rfl, _, rfl, ?_⟩
    have e1 : (!decide (V.str (S [a]) = V.str (S [b]))) = true := by
      rw [eq_one]
      simpa using hab
    show if (!decide (V.str (S [a]) = V.str (S [b]))) = true then _ else _
    rw [e1]
    refine iteT ?_
    refine ⟨_, rfl, _, _, a, rfl, rfl, l2, atI_nat (j := 0) rfl, _, rfl, a, _, rfl, rfl, _, rfl, ?_⟩
    rw [mem_S]
    have e2 : zs'.contains a = true := List.contains_iff_mem.mpr ha
    rw [e2]
    refine iteT ?_
    refine ⟨_, rfl, _, _, b, rfl, rfl, l2, atI_nat (j := 1) rfl, _, rfl, b, _, rfl, rfl, ?_⟩
    rw [mem_S]
    have e3 : zs'.contains b = true := List.contains_iff_mem.mpr hb
    rw [e3]
    exact q
theorem sc_across : FnScope ["kinds", "pairs", "kind", "other"] ["kinds", "pairs", "kind"] (defScope s_kinds_across) := ⟨rfl, rfl, rfl, by decide +kernel, rfl, by decide +kernel, by decide +kernel⟩
theorem flat_str (l : List Str) : (l.map V.str).all flatV = true := by
  rw [List.all_eq_true]
  intro v hv
  obtain ⟨x, _, rfl⟩ := List.mem_map.mp hv
  rfl
theorem inV_str (x : Str) (l : List Str) : inV (.str x) (l.map V.str) = decide (x ∈ l) := by
  unfold inV
  rw [Bool.eq_iff_iff, List.any_eq_true, decide_eq_true_iff]
  constructor
  · rintro ⟨v, hv, e⟩
    obtain ⟨y, hy, rfl⟩ := List.mem_map.mp hv
    have : y = x := by simpa [eqV] using e
    rw [← this]
    exact hy
  · intro h
    exact ⟨.str x, List.mem_map.mpr ⟨x, h, rfl⟩, by simp [eqV]⟩
theorem ok_across (F : D K mg "kinds_across" s_kinds_across []) (cU : C8.Cal P w K mg base 1 "upright" spUpright []) : C8.Cal P w K mg base 2 "kinds_across" spAcross [] := by
  refine F.cal (ps := ["kinds", "pairs", "kind"]) sc_across (fun f fd F => F.bindsN fun _ _ _ _ _ _ us hl => match us, hl with | [_, _, _], _ => rfl) (fun vs H Q E h => ?_) (fun f cdv A outer s H vs Q E hr h => ?_)
  · obtain ⟨ks, X, tp, k, rfl, _⟩ := h
    rfl
  · obtain ⟨ks, X, tp, k, rfl, ht, cr, hk, hn, q⟩ := h
    refine ⟨_, pss_one (ps_ret (pe_join pe_str (pe_lc (own := [("other", 3)]) (g := gName 3) rfl sc_across.nd (pi_str (pv 0)) (blkOk_by (own := [("other", 3)]) (N := ["kinds", "pairs", "kind", "other"]) (sc := defScope s_kinds_across) (by decide +kernel))
      (fun _ _ _ _ _ => pg_name (i := 3) sc_across.nd rfl (.inl rfl)) (fun _ _ _ _ _ => pts_one (pt_cmpR (r := rIn K false) op_in_seq (C8.pe_c cU hr (by decide) (by rfl) (pa_cons (pe_op op_add_str (pv 2) (pv 3)) pa_nil)) (pv 1) (by rfl))) (fun _ _ _ _ _ => pv 3)))), ?_⟩
    refine ⟨⟨_, rfl⟩, _, rfl, _, rfl, fun D hD => ?_⟩
    refine lc_it walk_str (fun i H' => H' D = some (.lst (((ks.take i).filter (X k)).map fun c => V.str (S [c]))) ∧ L2.Same H H') ⟨upd_same, fun a o e => ?_⟩ (fun _ _ _ _ => trivial) ?_ ?_
    · rw [upd_ne (ne_of_none e hD)]
      exact e
    · rintro i x H' H2 hi ⟨hl, sm⟩ ⟨rfl, c, hc, rfl⟩
      have hc' := getS hc
      have hin : c ∈ ks := List.mem_of_getElem? hc'
      refine ⟨rfl, _, rfl, _, rfl, _, _, rfl, rfl, (by rw [S_len]; exact len_line (by simp [S, Str.length])), k, c, rfl, _, rfl, tp, _, rfl, .inr (SqT.of (sm _ _ ht)), rfl, flat_str _, _, rfl, ?_⟩
      show if (inV (V.str (S (upL k c))) ((prs ks X).map V.str)) = true then _ else _
      rw [inV_str]
      have ef : decide (S (upL k c) ∈ prs ks X) = X k c := by
        rw [Bool.eq_iff_iff, decide_eq_true_iff]
        unfold upL
        by_cases z : k < c
        · rw [if_pos z, mem_prs]
          exact ⟨fun h => h.2.2.2, fun h => ⟨hk, hin, z, h⟩⟩
        · rw [if_neg z, mem_prs]
          constructor
          · intro h
            rw [cr.sym]
            exact h.2.2.2
          · intro h
            have ne := cr.ne h
            rw [cr.sym] at h
            exact ⟨hin, hk, by omega, h⟩
      rw [ef]
      have et : (ks.take (i + 1)).filter (X k) = (ks.take i).filter (X k) ++ (if X k c = true then [c] else []) := by
        rw [take_one hc', List.filter_append]
        congr 1
        by_cases z : X k c = true <;> simp [List.filter, z]
      cases e1 : X k c
      · refine iteF ⟨?_, sm⟩
        rw [et, e1]
        simpa using hl
      · refine iteT ?_
        refine ⟨_, rfl, _, hl, ?_, ?_, fun a o e => ?_⟩
        · rw [List.length_map]
          have z := List.length_filter_le (X k) (ks.take i)
          rw [List.length_take] at z
          exact len_lt (by omega)
        · rw [upd_same, et, e1]
          simp
        · rw [upd_ne (ne_of_none e hD)]
          exact sm a o e
    · rintro H' ⟨hl, sm⟩
      rw [sizeS, List.take_length] at hl
      have z := List.length_filter_le (X k) ks
      exact join_ones hl (by omega) (q H' sm)
theorem sc_before : FnScope ["kinds", "kind", "other"] ["kinds", "kind"] (defScope s_kinds_before) := ⟨rfl, rfl, rfl, by decide +kernel, rfl, by decide +kernel, by decide +kernel⟩
theorem ok_before (F : D K mg "kinds_before" s_kinds_before []) : C8.Cal P w K mg base 1 "kinds_before" spBefore [] := by
  refine F.cal (ps := ["kinds", "kind"]) sc_before (fun f fd F => F.bindsN fun _ _ _ _ _ _ us hl => match us, hl with | [_, _], _ => rfl) (fun vs H Q E h => ?_) (fun f cdv A outer s H vs Q E hr h => ?_)
  · obtain ⟨l, k, rfl, _⟩ := h
    rfl
  · obtain ⟨ks, k, rfl, hn, q⟩ := h
    refine ⟨_, pss_one (ps_ret (pe_join pe_str (pe_lc (own := [("other", 2)]) (g := gName 2) rfl sc_before.nd (pi_str (pv 0)) (blkOk_by (own := [("other", 2)]) (N := ["kinds", "kind", "other"]) (sc := defScope s_kinds_before) (by decide +kernel))
      (fun _ _ _ _ _ => pg_name (i := 2) sc_before.nd rfl (.inl rfl)) (fun _ _ _ _ _ => pts_one (pt_cmpR op_lt_str (pv 2) (pv 1) (nomark _))) (fun _ _ _ _ _ => pv 2)))), ?_⟩
    refine ⟨⟨_, rfl⟩, _, rfl, _, rfl, fun D hD => ?_⟩
    refine lc_it walk_str (fun i H' => H' D = some (.lst (((ks.take i).filter fun c => decide (c < k)).map fun c => V.str (S [c]))) ∧ L2.Same H H') ⟨upd_same, fun a o e => ?_⟩ (fun _ _ _ _ => trivial) ?_ ?_
    · rw [upd_ne (ne_of_none e hD)]
      exact e
    · rintro i x H' H2 hi ⟨hl, sm⟩ ⟨rfl, c, hc, rfl⟩
      have hc' := getS hc
      refine ⟨rfl, _, rfl, _, rfl, _, _, rfl, rfl, _, rfl, ?_⟩
      rw [lt_one]
      have et : (ks.take (i + 1)).filter (fun c => decide (c < k)) = (ks.take i).filter (fun c => decide (c < k)) ++ (if decide (c < k) = true then [c] else []) := by
        rw [take_one hc', List.filter_append]
        congr 1
        by_cases z : c < k <;> simp [List.filter, z]
      cases e1 : decide (c < k)
      · refine iteF ⟨?_, sm⟩
        rw [et, e1]
        simpa using hl
      · refine iteT ?_
        refine ⟨_, rfl, _, hl, ?_, ?_, fun a o e => ?_⟩
        · rw [List.length_map]
          have z := List.length_filter_le (fun c => decide (c < k)) (ks.take i)
          rw [List.length_take] at z
          exact len_lt (by omega)
        · rw [upd_same, et, e1]
          simp
        · rw [upd_ne (ne_of_none e hD)]
          exact sm a o e
    · rintro H' ⟨hl, sm⟩
      rw [sizeS, List.take_length] at hl
      have z := List.length_filter_le (fun c => decide (c < k)) ks
      exact join_ones hl (by omega) (q H' sm)
theorem allT_length {xs : List Str} (nd : xs.Nodup) : (allT xs).length = xs.length := by
  have h1 := allT_nodup xs
  have pm : (allT xs).Perm xs := (List.perm_ext_iff_of_nodup h1 nd).mpr fun y => allT_mem
  exact pm.length_eq
theorem signs_S (l : List Nat) : signs (S l) = l.map fun c => S [c] := rfl
theorem nodup_signs {l : List Nat} (h : l.Nodup) : (signs (S l)).Nodup := by
  rw [signs_S]
  show List.Pairwise _ _
  rw [List.pairwise_map]
  exact h.imp fun hn e => hn ((List.cons.inj (S_inj e)).1)
theorem sc_letters : FnScope ["value", "letter"] ["value"] (defScope s_are_letters) := ⟨rfl, rfl, rfl, by decide +kernel, rfl, by decide +kernel, by decide +kernel⟩
theorem ok_letters (F : D K mg "are_letters" s_are_letters []) (zi : mg "isinstance" = none) (zs : mg "str" = none) (zl : mg "len" = none) (zt : mg "set" = none) (za : mg "all" = none) : C8.Cal P w K mg base 1 "are_letters" spLetters [] := by
  refine F.cal (ps := ["value"]) sc_letters (fun f fd F => F.bindsN fun _ _ _ _ _ _ us hl => match us, hl with | [_], _ => rfl) (fun vs H Q E h => ?_) (fun f cdv A outer s H vs Q E hr h => ?_)
  · obtain ⟨zs, rfl, _⟩ := h
    rfl
  · obtain ⟨l, rfl, nd, abc, hn, q⟩ := h
    refine ⟨_, pss_cons (ps_if (pt_not (pt_val (pe_callB call_isi (by rfl) zi PyProof.Rows.boot_isinstance (pa_cons (pv 0) (pa_cons (pe_bltn (v := .ty "str") (by rfl) zs (by decide +kernel) rfl) pa_nil))))) (pss_one (ps_ret pe_bl)) pss_nil)
      (pss_one (ps_ret (pe_and (pe_cmpR op_eq (pe_callB cr_lenST (by rfl) zl PySem.boot_len (pa_cons (pe_callTy (cr_setTxt rfl) (by rfl) zt PyProof.Rows.boot_set (pa_cons (pv 0) pa_nil)) pa_nil)) (pe_callB call_len_str (by rfl) zl PySem.boot_len (pa_cons (pv 0) pa_nil)) (nomark _))
        (pe_one (pe_callB (cr_all rfl) (by rfl) za (by decide +kernel) (pa_cons (pe_lc (own := [("letter", 1)]) (g := gName 1) rfl sc_letters.nd (pi_str (pv 0)) (blkOk_by (own := [("letter", 1)]) (N := ["value", "letter"]) (sc := defScope s_are_letters) (by decide +kernel))
          (fun _ _ _ _ _ => pg_name (i := 1) sc_letters.nd rfl (.inl rfl)) (fun _ _ _ _ _ => pts_nil) (fun _ _ _ _ _ => pe_chain op_le_str op_le_str pe_str (pv 1) pe_str)) pa_nil)))))), ?_⟩
    refine ⟨_, rfl, _, _, .type "str", .type "str", true, rfl, .ty _, .base (.str _), kit_ty (by decide +kernel), _, rfl, iteF ?_⟩
    refine ⟨_, rfl, _, rfl, (by rw [S_len]; unfold scanBound; omega), fun p hp => ?_⟩
    refine ⟨_, _, rfl, upd_same, _, rfl, _, rfl, (by rw [S_len]; exact len_line (by omega)), rfl, _, rfl, ?_⟩
    have e1 : decide (V.int ((allT (signs (S l))).length : Int) = V.int ((S l).length : Int)) = true := by
      rw [allT_length (nodup_signs nd), signs_S, List.length_map, S_len]
      exact decide_eq_true rfl
    rw [e1]
    refine iteT ?_
    refine ⟨_, rfl, _, rfl, fun D hD => ?_⟩
    have sm0 : L2.Same H (upd H p (STO w p (allT (signs (S l))))) := fun a o e => by
      rw [upd_ne (ne_of_none e hp)]
      exact e
    refine lc_it walk_str (fun i H' => H' D = some (.lst ((List.replicate i true).map V.bl)) ∧ L2.Same H H' ∧ i ≤ l.length) ⟨upd_same, fun a o e => ?_, Nat.zero_le _⟩ (fun _ _ _ _ => trivial) ?_ ?_
    · rw [upd_ne (ne_of_none (sm0 a o e) hD)]
      exact sm0 a o e
    · rintro i x H' H2 hi ⟨hl, sm, hil⟩ ⟨rfl, c, hc, rfl⟩
      have hc' := getS hc
      obtain ⟨c1, c2⟩ := abc c (List.mem_of_getElem? hc')
      have ea : ("a" : Str) = S [97] := by decide +kernel
      have ez : ("z" : Str) = S [122] := by decide +kernel
      rw [sizeS] at hi
      refine ⟨rfl, _, rfl, _, _, rfl, rfl, _, rfl, ?_⟩
      have t1 : (!decide ((⟨#[c]⟩ : Str).cps.toList < ("a" : Str).cps.toList)) = true := by
        rw [ea]
        show (!decide ((S [c]).cps.toList < (S [97]).cps.toList)) = true
        rw [lt_one]
        simp
        omega
      have t2 : (!decide (("z" : Str).cps.toList < (⟨#[c]⟩ : Str).cps.toList)) = true := by
        rw [ez]
        show (!decide ((S [122]).cps.toList < (S [c]).cps.toList)) = true
        rw [lt_one]
        simp
        omega
      rw [t1]
      refine iteT ?_
      refine ⟨_, _, rfl, rfl, ?_⟩
      rw [t2]
      refine ⟨_, hl, (by rw [List.length_map, List.length_replicate]; exact len_lt (by omega)), ?_, fun a o e => ?_, hi⟩
      · rw [upd_same, List.replicate_succ', List.map_append]
        rfl
      · rw [upd_ne (ne_of_none e (sm0.free hD))]
        exact sm a o e
    · rintro H' ⟨hl, sm, _⟩
      refine ⟨D, _, rfl, SqL.of hl, ?_⟩
      have e2 : (List.replicate (S l).cps.size true).all id = true := by
        rw [List.all_eq_true]
        intro b hb
        exact (List.mem_replicate.mp hb).2
      rw [e2]
      exact q H' sm
end
end TX
end
section
set_option maxRecDepth 100000
set_option maxHeartbeats 2000000
/-! crosswalls.plans: Plan is made; crosswalls.rooms: Room is made. -/
namespace TX
open PySem PySem.Spec PyProof.Rows L2 SX CW
/-- an iterable of two sorts -/
theorem pi_or {X : Cx} {tg e : Expr} {w1 w2 : TI} (h1 : PI X tg e w1) (h2 : PI X tg e w2) : PI X tg e (fun σ H R => w1 σ H R ∨ w2 σ H R) :=
  ⟨fun pins s σ H R I h => h.elim (h1.run pins s σ H R I) (h2.run pins s σ H R I)⟩
/-- a dict comprehension over a walk -/
theorem dc_it {J : It} {n : Nat} {G : Hp → Prop} {Y : Nat → Hp → V → Hp → Prop} (w : L2.Walk J n G Y) {g : TG} {tt : TT} {tk tv : TE} {vs : List Nat} {σ : L2.St} {H1 : Hp} {D : Addr} {Qd : Hp → Prop} (Pv : Nat → Hp → Prop) (h0 : Pv 0 (upd H1 D (.dK [])))
    (hG : ∀ i H, i ≤ n → Pv i H → G H)
    (hs : ∀ i x H H', i < n → Pv i H → Y i H x H' → g x (wipe σ vs) H' fun σ2 H2 => wipe σ2 vs = wipe σ vs ∧ tt σ2 H2 fun b H3 =>
      if b = true then tk σ2 H3 fun y H4 => tv σ2 H4 fun z H5 => ∃ kvs k, y = kV k ∧ H5 D = some (.dK kvs) ∧ kvs.length < sizeLine ∧ Pv (i + 1) (upd H5 D (.dK (putK kvs k z))) else Pv (i + 1) H3) (hd : ∀ H, Pv n H → Qd H) :
    ∃ W : Nat → Nat → Hp → Prop, (∃ m, W 0 m (upd H1 D (.dK []))) ∧ ∀ i m H, W i m H →
      (J.stop i H ∧ Qd H) ∨ (J.go i H ∧ ∃ Nx : Hp → Prop, (∀ H', Nx H' → ∃ m', m' < m ∧ W (i + 1) m' H') ∧ ∀ x H', J.yld i H x H' → g x (wipe σ vs) H' fun σ2 H2 => wipe σ2 vs = wipe σ vs ∧ tt σ2 H2 fun b H3 =>
        if b = true then tk σ2 H3 fun y H4 => tv σ2 H4 fun z H5 => ∃ kvs k, y = kV k ∧ H5 D = some (.dK kvs) ∧ kvs.length < sizeLine ∧ Nx (upd H5 D (.dK (putK kvs k z))) else Nx H3) := by
  refine ⟨fun i m H => m = n - i ∧ i ≤ n ∧ Pv i H, ⟨n, rfl, Nat.zero_le _, h0⟩, fun i m H ⟨em, hi, p⟩ => ?_⟩
  subst em
  by_cases c : i < n
  · exact .inr ⟨w.goes i H c (hG i H hi p), Pv (i + 1), fun H' p' => ⟨n - (i + 1), by omega, rfl, c, p'⟩, fun x H' y => hs i x H H' c p (w.yields i H x H' c (hG i H hi p) y)⟩
  · have e : i = n := by omega
    subst e
    exact .inl ⟨w.stops H (hG i H hi p), hd H p⟩
/-- what stood but at r stands -/
def But (r : Addr) (H H' : Hp) : Prop := ∀ b o, b ≠ r → H b = some o → H' b = some o
theorem But.refl (r : Addr) (H : Hp) : But r H H := fun _ _ _ h => h
theorem But.trans {r : Addr} {H H1 H2 : Hp} (a : But r H H1) (b : But r H1 H2) : But r H H2 := fun c o n h => b c o n (a c o n h)
theorem But.of {r : Addr} {H H' : Hp} (a : L2.Same H H') : But r H H' := fun c o _ h => a c o h
theorem But.new {r q : Addr} {H : Hp} {o : HO} (hq : H q = none) : But r H (upd H q o) := fun c u _ h => by
  rw [upd_ne (ne_of_none h hq)]
  exact h
theorem But.at {r : Addr} {H : Hp} {o : HO} : But r H (upd H r o) := fun c u n h => by
  rw [upd_ne n]
  exact h
theorem same_new {q : Addr} {H : Hp} {o : HO} (hq : H q = none) : L2.Same H (upd H q o) := fun c u h => by
  rw [upd_ne (ne_of_none h hq)]
  exact h
/-- a plan stands, whatever is stored at an object with few attributes -/
theorem PlanAt.but {C : Addr} {H H' : Hp} {p r : Addr} {ks : List Nat} {X : Nat → Nat → Bool} {C' dx' : Addr} {fs : List (Str × V)} (h : PlanAt C H p ks X) (hr : H r = some (.ins C' dx' fs)) (hf : fs.length ≤ 3) (k : But r H H') : PlanAt C H' p ks X := by
  obtain ⟨dx, tp, da, dl, h1, h2, h3, h4⟩ := h.ex
  have n1 : p ≠ r := ne_of h1 hr (by
    intro e
    injection e with _ _ e3
    have := congrArg List.length e3
    have e4 : (pflds ks tp da dl).length = 4 := rfl
    omega)
  have n2 : tp ≠ r := ne_of h2 hr (by intro e; cases e)
  have n3 : da ≠ r := h3.ne hr (fun _ e => by cases e) (fun _ _ e => by cases e)
  have n4 : dl ≠ r := h4.ne hr (fun _ e => by cases e) (fun _ _ e => by cases e)
  exact ⟨h.few, h.up, h.cr, h.abc, dx, tp, da, dl, k _ _ n1 h1, k _ _ n2 h2, h3.keep (k _ · n3), h4.keep (k _ · n4)⟩
/-- check_length(letters), where they are few enough -/
def spChkLen : Sp := fun vs H Q _ => ∃ l : List Nat, vs = [.str (S l)] ∧ l.length ≤ 2000 ∧ Q .non H
/-- check_way(plan, value), where it is a way -/
def spChkWay (C : Addr) : Sp := fun vs H Q _ => ∃ (p : Addr) (ks : List Nat) (X : Nat → Nat → Bool) (l : List Nat), vs = [.ref p, .str (S l)] ∧ PlanAt C H p ks X ∧ (∀ c ∈ l, c ∈ ks) ∧ l.length ≤ 2000 ∧ Q .non H
/-- Room.__init__(self, plan, way), where it is a way -/
def spRoomInit (C CR : Addr) : Sp := fun vs H Q _ => ∃ (r dx p : Addr) (ks : List Nat) (X : Nat → Nat → Bool) (l : List Nat), vs = [.ref r, .ref p, .str (S l)] ∧ H r = some (.ins CR dx []) ∧ PlanAt C H p ks X ∧ (∀ c ∈ l, c ∈ ks) ∧ l.length ≤ 2000 ∧
  Q .non (upd H r (.ins CR dx (rflds p (fol ks X [] l))))
/-- Plan.__init__(self, kinds, crossing), where all is right -/
def spPlanInit (K : PySem.W.Frag) (C : Addr) : Sp := fun vs H Q _ => ∃ (r dx c : Addr) (zs ks : List Nat) (X : Nat → Nat → Bool) (es : List Str), vs = [.ref r, .str (S zs), .ref c] ∧ H r = some (.ins C dx []) ∧
  zs.Perm ks ∧ ks.Pairwise (· < ·) ∧ (∀ k ∈ ks, 97 ≤ k ∧ k ≤ 122) ∧ ks.length ≤ 8 ∧ Crossing X ∧ (SqL K H c (es.map V.str) ∨ SqT K H c (es.map V.str)) ∧ es.length < 64 ∧
  (∀ e ∈ es, ∃ a b, e = S [a, b] ∧ a ∈ ks ∧ b ∈ ks ∧ X a b = true) ∧ (∀ a b, a ∈ ks → b ∈ ks → a < b → X a b = true → S [a, b] ∈ es ∨ S [b, a] ∈ es) ∧
  ∀ H', But r H H' → PlanAt C H' r ks X → Q .non H'
section
variable {P : Program} {w : World} {K : PySem.W.Frag} {mg : Str → Option Value} {base : Heap} {C CR : Addr}
theorem sc_chklen : FnScope ["letters"] ["letters"] (defScope s_check_length) := ⟨rfl, rfl, rfl, by decide +kernel, rfl, by decide +kernel, by decide +kernel⟩
theorem ok_chklen (F : D K mg "check_length" s_check_length []) (zl : mg "len" = none) (g : ∃ t, mg "MOST_LETTERS" = some (.int 2000 t)) : C8.Cal P w K mg base 1 "check_length" spChkLen [] := by
  refine F.cal (ps := ["letters"]) sc_chklen (fun f fd F => F.bindsN fun _ _ _ _ _ _ us hl => match us, hl with | [_], _ => rfl) (fun vs H Q E h => ?_) (fun f cdv A outer s H vs Q E hr h => ?_)
  · obtain ⟨l, rfl, _⟩ := h
    rfl
  · obtain ⟨l, rfl, hl, q⟩ := h
    obtain ⟨t, g⟩ := g
    refine ⟨_, pss_one (ps_if (pt_cmpR op_gt (pe_callB call_len_str (by rfl) zl PySem.boot_len (pa_cons (pv 0) pa_nil)) (C8.pe_gc (v := .int 2000) (by rfl) ⟨_, g, ⟨t, rfl⟩⟩) (nomark _)) (pss_one ps_never) pss_nil), ?_⟩
    refine ⟨_, rfl, _, rfl, (by rw [S_len]; exact len_line (by omega)), _, _, rfl, rfl, _, rfl, ?_⟩
    have e : decide ((2000 : Int) < ((S l).length : Int)) = false := by
      rw [S_len]
      exact decide_eq_false (by omega)
    rw [e]
    exact iteF q
theorem sc_chkway : FnScope ["plan", "value", "rest"] ["plan", "value"] (defScope s_check_way) := ⟨rfl, rfl, rfl, by decide +kernel, rfl, by decide +kernel, by decide +kernel⟩
theorem drop_all {ks l : List Nat} (h : ∀ c ∈ l, c ∈ ks) : l.dropWhile (fun c => ks.contains c) = [] := by
  have z := all_in ks l
  have z2 : l.all (fun c => ks.contains c) = true := List.all_eq_true.mpr fun c hc => List.contains_iff_mem.mpr (h c hc)
  rw [z2] at z
  exact List.isEmpty_iff.mp z.symm
theorem ok_chkway (F : D K mg "check_way" s_check_way []) (T : PlanT K C) (zi : mg "isinstance" = none) (zs : mg "str" = none) (cL : C8.Cal P w K mg base 1 "check_length" spChkLen []) : C8.Cal P w K mg base 2 "check_way" (spChkWay C) [] := by
  refine F.cal (ps := ["plan", "value"]) sc_chkway (fun f fd F => F.bindsN fun _ _ _ _ _ _ us hl => match us, hl with | [_, _], _ => rfl) (fun vs H Q E h => ?_) (fun f cdv A outer s H vs Q E hr h => ?_)
  · obtain ⟨p, ks, X, l, rfl, _⟩ := h
    rfl
  · obtain ⟨p, ks, X, l, rfl, hp, hin, hl, q⟩ := h
    obtain ⟨dx, tp, da, dl, h1, h2, h3, h4⟩ := hp.ex
    refine ⟨_, pss_cons (ps_if (pt_not (pt_val (pe_callB call_isi (by rfl) zi PyProof.Rows.boot_isinstance (pa_cons (pv 1) (pa_cons (pe_bltn (v := .ty "str") (by rfl) zs (by decide +kernel) rfl) pa_nil))))) (pss_one ps_never) pss_nil)
      (pss_cons (ps_set (i := 2) sc_chkway.nd rfl (.inl rfl) (pe_bm PySem.F.plainAttrs_str PySem.F.slot_str_lstrip PySem.F.type_str_lstrip mt_lstripChars (pv 1) (pa_cons (pe_fld (pv 0) rfl) pa_nil)))
      (pss_cons (ps_if (pt_truth (pv 2) (by intro _; rfl)) (pss_one ps_never) pss_nil)
      (pss_one (ps_expr (C8.pe_c cL hr (by decide) (by rfl) (pa_cons (pv 1) pa_nil)))))), ?_⟩
    refine ⟨_, rfl, _, _, .type "str", .type "str", true, rfl, .ty _, .base (.str _), kit_ty (by decide +kernel), _, rfl, iteF ?_⟩
    refine ⟨_, rfl, rfl, _, rfl, p, C, dx, _, _, rfl, h1, T.cl, T.nk, pf_kinds _ _ _ _, _, _, rfl, rfl, (by rw [S_len]; exact len_line (by omega)), ?_⟩
    rw [S_lstrip, drop_all hin]
    refine ⟨_, rfl, false, ⟨by rw [S_len]; exact len_line (by simp), by rw [S_len]; rfl⟩, iteF ?_⟩
    exact ⟨_, rfl, l, rfl, hl, q⟩
theorem rf_eq (p : Addr) (n : List Nat) : putF "name" (.str (S n)) (putF "plan" (.ref p) []) = rflds p n := by
  have e : ¬ (("plan" : Str) = "name") := by decide +kernel
  show (if ("plan" : Str) = "name" then _ else (("plan" : Str), V.ref p) :: putF "name" (.str (S n)) []) = _
  rw [if_neg e]
  rfl
theorem sc_roominit : FnScope ["self", "plan", "way"] ["self", "plan", "way"] (defScope s_Room_init) := ⟨rfl, rfl, rfl, by decide +kernel, rfl, by decide +kernel, by decide +kernel⟩
theorem ok_room {f : Addr} {fd : FuncData} (F : FunD K "__init__" "Room.__init__" (defArgs s_Room_init) (defBody s_Room_init) (defScope s_Room_init) [.str ""] [] f fd) (TR : RoomT K CR) (M : Mk K CR f) (gR : mg "Room" = some (.ref CR))
    (cW : C8.Cal P w K mg base 2 "check_way" (spChkWay C) []) (cF : C8.Cal P w K mg base 2 "followed" (spFollowed C) []) : C8.Mak P w K mg base 3 "Room" CR (spRoomInit C CR) [] := by
  obtain ⟨ds, vd, b⟩ := F.binds1 (ps := ["self", "plan", "way"]) 3 1 (by simp) rfl (fun T kV doc pm an cdv ct us its hu hi => match us, hu, its, hi with | [_, _, _], _, [_], _ => ⟨_, rfl, rfl⟩)
  cases vd
  refine ⟨f, fd, ["self", "plan", "way"], [], M, F.ok sc_roominit (fun vs H Q E h => ?_) (fun cdv A outer s H vs Q E hr h => ?_), gR, b, .nil⟩
  · obtain ⟨r, dx, p, ks, X, l, rfl, _⟩ := h
    rfl
  · obtain ⟨r, dx, p, ks, X, l, rfl, hr0, hp, hin, hl, q⟩ := h
    refine ⟨_, PSs.nox (pss_cons (ps_expr (C8.pe_c cW hr (by decide) (by rfl) (pa_cons (pv 1) (pa_cons (pv 2) pa_nil))))
      (pss_cons (ps_fld (pv 0) (pv 1) rfl) (pss_one (ps_fld (pv 0) (C8.pe_c cF hr (by decide) (by rfl) (pa_cons (pv 1) (pa_cons pe_str (pa_cons (pv 2) pa_nil)))) rfl)))), ?_⟩
    refine ⟨_, rfl, _, rfl, p, ks, X, l, rfl, hp, hin, hl, ?_⟩
    refine ⟨_, rfl, _, rfl, r, CR, dx, [], rfl, hr0, TR.cl, TR.np, (by show 0 < 1000; decide), ?_⟩
    have hp2 : PlanAt C (upd H r (.ins CR dx (putF "plan" (.ref p) []))) p ks X := hp.but hr0 (by simp) But.at
    rw [empty_S]
    refine ⟨_, rfl, _, rfl, p, ks, X, [], l, rfl, hp2, hin, by simp only [List.length_nil]; omega, ?_⟩
    refine ⟨_, rfl, r, CR, dx, _, rfl, upd_same, TR.cl, TR.nn, (by show 1 < 1000; decide), ?_⟩
    rw [rf_eq, upd_upd]
    exact q
end
end TX
end
section
set_option maxRecDepth 100000
set_option maxHeartbeats 4000000
namespace TX
open PySem PySem.Spec PyProof.Rows L2 SX CW
def f1 (ks : List Nat) : List (Str × V) := [("kinds", .str (S ks))]
def f2 (ks : List Nat) (tp : Addr) : List (Str × V) := [("kinds", .str (S ks)), ("pairs", .ref tp)]
def f3 (ks : List Nat) (tp da : Addr) : List (Str × V) := [("kinds", .str (S ks)), ("pairs", .ref tp), ("across", .ref da)]
theorem put1 (ks : List Nat) : putF "kinds" (.str (S ks)) [] = f1 ks := rfl
theorem put2 (ks : List Nat) (tp : Addr) : putF "pairs" (.ref tp) (f1 ks) = f2 ks tp := by
  show (if ("kinds" : Str) = "pairs" then _ else (("kinds" : Str), V.str (S ks)) :: putF "pairs" (.ref tp) []) = _
  rw [if_neg (by decide +kernel)]
  rfl
theorem put3 (ks : List Nat) (tp da : Addr) : putF "across" (.ref da) (f2 ks tp) = f3 ks tp da := by
  show (if ("kinds" : Str) = "across" then _ else (("kinds" : Str), V.str (S ks)) :: (if ("pairs" : Str) = "across" then _ else (("pairs" : Str), V.ref tp) :: putF "across" (.ref da) [])) = _
  rw [if_neg (by decide +kernel), if_neg (by decide +kernel)]
  rfl
theorem put4 (ks : List Nat) (tp da dl : Addr) : putF "lesser" (.ref dl) (f3 ks tp da) = pflds ks tp da dl := by
  show (if ("kinds" : Str) = "lesser" then _ else (("kinds" : Str), V.str (S ks)) :: (if ("pairs" : Str) = "lesser" then _ else (("pairs" : Str), V.ref tp) :: (if ("across" : Str) = "lesser" then _ else (("across" : Str), V.ref da) :: putF "lesser" (.ref dl) []))) = _
  rw [if_neg (by decide +kernel), if_neg (by decide +kernel), if_neg (by decide +kernel)]
  rfl
theorem look1 (ks : List Nat) : (f1 ks).lookup ("kinds" : Str) = some (.str (S ks)) := by
  unfold f1
  rw [List.lookup_cons, show (("kinds" : Str) == ("kinds" : Str)) = true from by decide +kernel]
theorem look2 (ks : List Nat) (tp : Addr) : (f2 ks tp).lookup ("kinds" : Str) = some (.str (S ks)) := by
  unfold f2
  rw [List.lookup_cons, show (("kinds" : Str) == ("kinds" : Str)) = true from by decide +kernel]
theorem look2p (ks : List Nat) (tp : Addr) : (f2 ks tp).lookup ("pairs" : Str) = some (.ref tp) := by
  unfold f2
  rw [List.lookup_cons, show (("pairs" : Str) == ("kinds" : Str)) = false from by decide +kernel]
  dsimp only
  rw [List.lookup_cons, show (("pairs" : Str) == ("pairs" : Str)) = true from by decide +kernel]
theorem look3 (ks : List Nat) (tp da : Addr) : (f3 ks tp da).lookup ("kinds" : Str) = some (.str (S ks)) := by
  unfold f3
  rw [List.lookup_cons, show (("kinds" : Str) == ("kinds" : Str)) = true from by decide +kernel]
theorem look3a (ks : List Nat) (tp da : Addr) : (f3 ks tp da).lookup ("across" : Str) = some (.ref da) := by
  unfold f3
  rw [List.lookup_cons, show (("across" : Str) == ("kinds" : Str)) = false from by decide +kernel]
  dsimp only
  rw [List.lookup_cons, show (("across" : Str) == ("pairs" : Str)) = false from by decide +kernel]
  dsimp only
  rw [List.lookup_cons, show (("across" : Str) == ("across" : Str)) = true from by decide +kernel]
theorem valV_out {f : Nat → List Nat} {k : Nat} : ∀ {ks : List Nat}, k ∉ ks → valV (kvK ks f) (Sum.inr (S [k])) = none
  | [], _ => rfl
  | a :: ks, h => by
    have c : a ≠ k := fun z => h (by rw [z]; exact List.mem_cons_self)
    have e : decide ((Sum.inr (S [a]) : Key) = Sum.inr (S [k])) = false := decide_eq_false fun z => c (sk_inj z)
    show ((((Sum.inr (S [a]) : Key), V.str (S (f a))) :: kvK ks f).find? fun kv => decide (kv.1 = Sum.inr (S [k]))).map (·.2) = none
    rw [List.find?_cons, e]
    exact valV_out fun z => h (List.mem_cons_of_mem _ z)
theorem kvK_more {ks : List Nat} {f : Nat → List Nat} {i c : Nat} (hc : ks[i]? = some c) (nd : ks.Nodup) : putK (kvK (ks.take i) f) (Sum.inr (S [c])) (.str (S (f c))) = kvK (ks.take (i + 1)) f := by
  have hi : i < ks.length := (List.getElem?_eq_some_iff.mp hc).1
  have out : c ∉ ks.take i := fun z => by
    obtain ⟨j, hj, e⟩ := List.getElem_of_mem z
    have hj' : j < i := by
      rw [List.length_take] at hj
      omega
    have e2 : ks[j]'(by omega) = c := by
      rw [← e, List.getElem_take]
    have e3 : ks[i] = c := (List.getElem?_eq_some_iff.mp hc).2
    have := List.pairwise_iff_getElem.mp nd j i (by omega) hi hj'
    exact this (by rw [e2, e3])
  rw [putK_new _ (valV_out out), take_one hc]
  unfold kvK
  rw [List.map_append]
  rfl
theorem nodup_up {ks : List Nat} (up : ks.Pairwise (· < ·)) : ks.Nodup := up.imp fun h e => by omega
/-- the letters, sorted -/
theorem sorted_kinds {zs ks : List Nat} {ys : List Str} (pm : zs.Perm ks) (up : ks.Pairwise (· < ·)) (py : ys.Perm (allT (signs (S zs)))) (hs : sortedS ys = true) : ys = ks.map fun k => S [k] := by
  have nz : zs.Nodup := pm.nodup_iff.mpr (nodup_up up)
  refine sorted_is (fun k => S [k]) (fun k => k) lt_k1 (fun _ _ e => e) py (allT_nodup _) hs (fun y hy => ?_) up (fun a => ?_)
  · rw [allT_mem, signs_S, List.mem_map] at hy
    obtain ⟨a, _, e⟩ := hy
    exact ⟨a, e.symm⟩
  · rw [allT_mem, signs_S, List.mem_map]
    constructor
    · rintro ⟨b, hb, e⟩
      have e2 := (List.cons.inj (S_inj e)).1
      rw [← e2]
      exact pm.mem_iff.mp hb
    · intro ha
      exact ⟨a, pm.mem_iff.mpr ha, rfl⟩
/-- the pairs, sorted -/
theorem sorted_pairs {ks : List Nat} {X : Nat → Nat → Bool} {es : List Str} {us ys : List Str} (up : ks.Pairwise (· < ·)) (abc : ∀ k ∈ ks, k < 1000) (cr : Crossing X)
    (hus : us.length = es.length) (hu : ∀ i (h : i < es.length), ∃ a b, es[i] = S [a, b] ∧ us[i]? = some (S (upL a b)))
    (he : ∀ e ∈ es, ∃ a b, e = S [a, b] ∧ a ∈ ks ∧ b ∈ ks ∧ X a b = true) (hall : ∀ a b, a ∈ ks → b ∈ ks → a < b → X a b = true → S [a, b] ∈ es ∨ S [b, a] ∈ es)
    (py : ys.Perm (allT us)) (hs : sortedS ys = true) : ys = prs ks X := by
  have hin : ∀ y, y ∈ us ↔ y ∈ prs ks X := by
    intro y
    constructor
    · intro hy
      obtain ⟨i, hi, e⟩ := List.getElem_of_mem hy
      rw [hus] at hi
      obtain ⟨a, b, e1, e2⟩ := hu i hi
      have e3 : y = S (upL a b) := by
        rw [List.getElem?_eq_getElem (by rw [hus]; exact hi)] at e2
        rw [← e]
        exact Option.some.inj e2
      obtain ⟨a', b', e4, h1, h2, h3⟩ := he es[i] (List.getElem_mem hi)
      rw [e1] at e4
      have e5 := List.cons.inj (S_inj e4)
      have e6 := (List.cons.inj e5.2).1
      rw [← e5.1] at h1 h3
      rw [← e6] at h2 h3
      rw [e3]
      unfold upL
      by_cases c : a < b
      · rw [if_pos c, mem_prs]
        exact ⟨h1, h2, c, h3⟩
      · rw [if_neg c, mem_prs]
        have ne := cr.ne h3
        rw [cr.sym] at h3
        exact ⟨h2, h1, by omega, h3⟩
    · intro hy
      have hy' := hy
      rw [← prL_map ks X abc, List.mem_map] at hy'
      obtain ⟨p, _, e⟩ := hy'
      obtain ⟨a, b, hb⟩ := p
      have e' : y = S [a, b] := e.symm
      rw [e'] at hy ⊢
      rw [mem_prs] at hy
      have key : ∀ c d : Nat, S [c, d] ∈ es → S (upL c d) ∈ us := by
        intro c d hm
        obtain ⟨i, hi, e1⟩ := List.getElem_of_mem hm
        obtain ⟨a', b', e2, e3⟩ := hu i hi
        rw [e1] at e2
        have e5 := List.cons.inj (S_inj e2)
        have e6 := (List.cons.inj e5.2).1
        rw [← e5.1, ← e6] at e3
        exact List.mem_of_getElem? e3
      rcases hall a b hy.1 hy.2.1 hy.2.2.1 hy.2.2.2 with z | z
      · have := key a b z
        unfold upL at this
        rw [if_pos hy.2.2.1] at this
        exact this
      · have := key b a z
        unfold upL at this
        rw [if_neg (by have := hy.2.2.1; omega)] at this
        exact this
  rw [← prL_map ks X abc]
  refine sorted_is fP kP lt_k2 inj_k2 py (allT_nodup _) hs (fun y hy => ?_) (prL_up up) (fun a => ?_)
  · rw [allT_mem, hin, ← prL_map ks X abc, List.mem_map] at hy
    obtain ⟨p, _, e⟩ := hy
    exact ⟨p, e.symm⟩
  · rw [allT_mem, hin]
    show S [a.1, a.2.val] ∈ prs ks X ↔ _
    rw [mem_prs, mem_prL]
theorem But.seqL {K : PySem.W.Frag} {H H' : Hp} {r a C dx : Addr} {fs : List (Str × V)} {xs : List V} (hr : H r = some (.ins C dx fs)) (e : But r H H') (h : SqL K H a xs) : SqL K H' a xs := by
  rcases h with (h | ⟨o, h⟩) | h
  · exact .inl (.inl (e _ _ (ne_of h hr (by intro z; cases z)) h))
  · exact .inl (.inr ⟨o, e _ _ (ne_of h hr (by intro z; cases z)) h⟩)
  · exact .inr h
theorem But.seqT {K : PySem.W.Frag} {H H' : Hp} {r a C dx : Addr} {fs : List (Str × V)} {xs : List V} (hr : H r = some (.ins C dx fs)) (e : But r H H') (h : SqT K H a xs) : SqT K H' a xs := by
  rcases h with (h | ⟨o, h⟩) | h
  · exact .inl (.inl (e _ _ (ne_of h hr (by intro z; cases z)) h))
  · exact .inl (.inr ⟨o, e _ _ (ne_of h hr (by intro z; cases z)) h⟩)
  · exact .inr h
theorem sameT {K : PySem.W.Frag} {H H' : Hp} {a : Addr} {xs : List V} (e : L2.Same H H') (h : SqT K H a xs) : SqT K H' a xs := by
  rcases h with (h | ⟨o, h⟩) | h
  · exact .inl (.inl (e _ _ h))
  · exact .inl (.inr ⟨o, e _ _ h⟩)
  · exact .inr h
/-- a walk over a list or a tuple that stands -/
theorem iter_seq {K : PySem.W.Frag} {σ : L2.St} {H : Hp} {c : Addr} {xs : List V} {i : Nat} (hσ : σ[i]? = some (some (.ref c))) (h : SqL K H c xs ∨ SqT K H c xs) {R : It → Hp → Prop}
    (hR : ∀ J, L2.Walk J xs.length (fun H' => (SqL K H c xs → SqL K H' c xs) ∧ (SqT K H c xs → SqT K H' c xs)) (YAt xs) → R J H) : iList K (tVar i) σ H R ∨ iTup K (tVar i) σ H R := by
  rcases h with h | h
  · exact .inl ⟨_, hσ, c, rfl, ⟨xs, h⟩, hR _ ((walk_list (K := K) (a := c) (xs := xs)).mono (fun H' z => z.1 h) fun _ _ _ _ _ _ y => y)⟩
  · exact .inr ⟨_, hσ, c, rfl, ⟨xs, h⟩, hR _ ((walk_tup (K := K) (a := c) (xs := xs)).mono (fun H' z => z.2 h) fun _ _ _ _ _ _ y => y)⟩
section
variable {P : Program} {w : World} {K : PySem.W.Frag} {mg : Str → Option Value} {base : Heap} {C CR : Addr}
abbrev nPlan : List Str := ["self", "kinds", "crossing", "entry", "kind"]
theorem sc_planinit : FnScope nPlan ["self", "kinds", "crossing"] (defScope s_Plan_init) := ⟨rfl, rfl, rfl, by decide +kernel, rfl, by decide +kernel, by decide +kernel⟩
theorem ok_planbody {f : Addr} {fd : FuncData} {dv : List V} (F : FunD K "__init__" "Plan.__init__" (defArgs s_Plan_init) (defBody s_Plan_init) (defScope s_Plan_init) dv [] f fd) (T : PlanT K C)
    (zl : mg "len" = none) (zt : mg "set" = none) (zo : mg "sorted" = none) (zu : mg "tuple" = none) (gM : ∃ t, mg "MOST_KINDS" = some (.int 8 t))
    (cL : C8.Cal P w K mg base 1 "are_letters" spLetters []) (cP : C8.Cal P w K mg base 1 "is_pair" (spIsPair K) []) (cU : C8.Cal P w K mg base 1 "upright" spUpright []) (cA : C8.Cal P w K mg base 2 "kinds_across" spAcross []) (cB : C8.Cal P w K mg base 1 "kinds_before" spBefore []) :
    FnOk P w K mg base C8.CX0 3 f fd ["self", "kinds", "crossing"] (spPlanInit K C) := by
  obtain ⟨tM, gM⟩ := gM
  refine F.ok sc_planinit (fun vs H Q E h => ?_) (fun cdv A outer s H vs Q E hr h => ?_)
  · obtain ⟨r, dx, c, zs, ks, X, es, rfl, _⟩ := h
    rfl
  · obtain ⟨r, dx, c, zs, ks, X, es, rfl, hr0, pm, up, abc, few, cr, hes, h64, he, hall, q⟩ := h
    have hu := hu_of hr
    have nz : zs.Nodup := pm.nodup_iff.mpr (nodup_up up)
    have lz : zs.length = ks.length := pm.length_eq
    refine ⟨_, PSs.nox (pss_cons (ps_if (pt_not (pt_val (C8.pe_c cL hr (by decide) (by rfl) (pa_cons (pv 1) pa_nil)))) (pss_one ps_never) pss_nil)
      (pss_cons (ps_for PassesOwn.never rfl (pi_or (pi_list (pv 2)) (pi_tup (pv 2))) (pg_name (i := 3) sc_planinit.nd rfl (.inl rfl))
        (pss_one (ps_if (pt_not (pt_val (C8.pe_c cP hr (by decide) (by rfl) (pa_cons (pv 1) (pa_cons (pv 3) pa_nil))))) (pss_one ps_never) pss_nil)))
      (pss_cons (ps_if (pt_cmpR op_gt (pe_callB call_len_str (by rfl) zl PySem.boot_len (pa_cons (pv 1) pa_nil)) (C8.pe_gc (v := .int 8) (by rfl) ⟨_, gM, ⟨tM, rfl⟩⟩) (nomark _)) (pss_one ps_never) pss_nil)
      (pss_cons (ps_fld (pv 0) (pe_join pe_str (pe_callB (cr_sortST rfl) (by rfl) zo (by decide +kernel) (pa_cons (pe_callTy (cr_setTxt rfl) (by rfl) zt PyProof.Rows.boot_set (pa_cons (pv 1) pa_nil)) pa_nil))) rfl)
      (pss_cons (ps_fld (pv 0) (pe_callTy call_tuple_of (by rfl) zu (by decide +kernel) (pa_cons (pe_callB (cr_sortST rfl) (by rfl) zo (by decide +kernel) (pa_cons (pe_callTy (cr_setLst rfl) (by rfl) zt PyProof.Rows.boot_set (pa_cons
        (pe_lc (own := [("entry", 3)]) (g := gName 3) rfl sc_planinit.nd (pi_or (pi_list (pv 2)) (pi_tup (pv 2))) (blkOk_by (own := [("entry", 3)]) (N := nPlan) (sc := defScope s_Plan_init) (by decide +kernel))
          (fun _ _ _ _ _ => pg_name (i := 3) sc_planinit.nd rfl (.inl rfl)) (fun _ _ _ _ _ => pts_nil) (fun _ _ _ _ _ => C8.pe_c cU hr (by decide) (by rfl) (pa_cons (pv 3) pa_nil))) pa_nil)) pa_nil)) pa_nil)) rfl)
      (pss_cons (ps_fld (pv 0) (pe_dc (own := [("kind", 4)]) (g := gName 4) (tv := tCall spAcross [] C8.E0 (tCons (tFld K (tVar 0) "kinds") (tCons (tFld K (tVar 0) "pairs") (tCons (tVar 4) tNil)))) rfl sc_planinit.nd (pi_str (pe_fld (pv 0) rfl)) (blkOk_by (own := [("kind", 4)]) (N := nPlan) (sc := defScope s_Plan_init) (by decide +kernel))
          (fun _ _ _ _ _ => pg_name (i := 4) sc_planinit.nd rfl (.inl rfl)) (fun _ _ _ _ _ => pts_nil) (fun _ _ _ _ _ => pv 4) (fun _ _ _ _ _ => by exact C8.pe_c cA hr (by decide) (by rfl) (pa_cons (pe_fld (pv 0) rfl) (pa_cons (pe_fld (pv 0) rfl) (pa_cons (pv 4) pa_nil))))) rfl)
      (pss_one (ps_fld (pv 0) (pe_dc (own := [("kind", 4)]) (g := gName 4) (tv := tCall spBefore [] C8.E0 (tCons (tDGet (tFld K (tVar 0) "across") (tVar 4)) (tCons (tVar 4) tNil))) rfl sc_planinit.nd (pi_str (pe_fld (pv 0) rfl)) (blkOk_by (own := [("kind", 4)]) (N := nPlan) (sc := defScope s_Plan_init) (by decide +kernel))
          (fun _ _ _ _ _ => pg_name (i := 4) sc_planinit.nd rfl (.inl rfl)) (fun _ _ _ _ _ => pts_nil) (fun _ _ _ _ _ => pv 4) (fun _ _ _ _ _ => by exact C8.pe_c cB hr (by decide) (by rfl) (pa_cons (pe_dget hu (pe_fld (pv 0) rfl) (pv 4) (fun _ _ => rfl)) (pa_cons (pv 4) pa_nil)))) rfl)))))))), ?_⟩
    -- letters
    refine ⟨_, rfl, zs, rfl, nz, fun k hk => abc k (pm.mem_iff.mp hk), by omega, fun H1 s1 => ⟨_, rfl, iteF ?_⟩⟩
    have hr1 : H1 r = some (.ins C dx []) := s1 _ _ hr0
    have hes1 : SqL K H1 c (es.map V.str) ∨ SqT K H1 c (es.map V.str) := hes.imp (s1.seq) (sameT s1)
    -- pairs
    refine iter_seq rfl hes1 fun J wk => ?_
    refine for_it wk (fun i σ H' => ∃ v, σ = [some (.ref r), some (.str (S zs)), some (.ref c), v, none] ∧ H' = H1) ⟨none, rfl, rfl⟩ (fun i σ H' _ ⟨v, _, e⟩ => by subst e; exact ⟨id, id⟩) ?_ ?_
    · rintro i x σ H' H2 hi ⟨v, rfl, rfl⟩ ⟨rfl, hx⟩
      rw [List.length_map] at hi
      have ex : x = V.str es[i] := by
        rw [List.getElem?_map, List.getElem?_eq_getElem hi] at hx
        exact (Option.some.inj hx).symm
      obtain ⟨a, b, e1, ha, hb, hX⟩ := he es[i] (List.getElem_mem hi)
      rw [e1] at ex
      subst ex
      refine ⟨_, rfl, _, rfl, zs, a, b, rfl, cr.ne hX, pm.mem_iff.mpr ha, pm.mem_iff.mpr hb, _, rfl, iteF ?_⟩
      exact ⟨_, rfl, rfl⟩
    rintro σ H' ⟨v, rfl, rfl⟩
    -- few enough
    have ew : (cxOf C8.CX0 P w K mg base nPlan "Plan.__init__" (defScope s_Plan_init) f cdv A outer s H E).nox.w = w := rfl
    refine ⟨_, rfl, _, rfl, (by rw [S_len]; exact len_line (by omega)), _, _, rfl, rfl, _, rfl, ?_⟩
    have e8 : decide ((8 : Int) < ((S zs).length : Int)) = false := by
      rw [S_len]
      exact decide_eq_false (by omega)
    rw [e8]
    refine iteF ?_
    -- self.kinds
    refine ⟨⟨_, rfl⟩, _, rfl, _, rfl, (by rw [S_len]; unfold scanBound; omega), fun p1 n1 => ?_⟩
    have lT : (allT (signs (S zs))).length < 64 := by
      rw [allT_length (nodup_signs nz), signs_S, List.length_map]
      omega
    refine ⟨p1, _, rfl, upd_same, lT, fun ys p2 py so n2 => ?_⟩
    have ey := sorted_kinds pm up py so
    subst ey
    refine ⟨_, _, ks.map fun k => S [k], rfl, rfl, .inl (SqL.of upd_same), ?_, ?_⟩
    · rw [List.length_map, List.map_map, sum_ones, empty_S, S_len]
      simp only [List.length_nil]
      omega
    rw [empty_S, S_join1]
    rw [ew] at n2 ⊢
    have b1 : But r H' (upd (upd H' p1 (STO w p1 (allT (signs (S zs))))) p2 (.lst ((ks.map fun k => S [k]).map V.str))) := (But.new n1).trans (But.new n2)
    have g1 : (upd (upd H' p1 (STO w p1 (allT (signs (S zs))))) p2 (.lst ((ks.map fun k => S [k]).map V.str))) r = some (.ins C dx []) := by
      have n2' : H' p2 = none := L2.Same.free (same_new n1) n2
      rw [upd_ne (ne_of_none hr1 n2'), upd_ne (ne_of_none hr1 n1)]
      exact hr1
    generalize (upd (upd H' p1 (STO w p1 (allT (signs (S zs))))) p2 (.lst ((ks.map fun k => S [k]).map V.str))) = H2 at b1 g1 ⊢
    refine ⟨_, rfl, r, C, dx, [], rfl, g1, T.cl, T.nk, (by show 0 < 1000; decide), ?_⟩
    rw [put1]
    have b2 : But r H' (upd H2 r (.ins C dx (f1 ks))) := b1.trans But.at
    have g2 : (upd H2 r (.ins C dx (f1 ks))) r = some (.ins C dx (f1 ks)) := upd_same
    generalize (upd H2 r (.ins C dx (f1 ks))) = H3 at b2 g2 ⊢
    have hes3 : SqL K H3 c (es.map V.str) ∨ SqT K H3 c (es.map V.str) := hes1.imp (b2.seqL hr1) (b2.seqT hr1)
    -- self.pairs
    refine iter_seq rfl hes3 fun J2 wk2 => ?_
    intro D nD
    have upEx : ∃ us : List Str, us.length = es.length ∧ ∀ i (h : i < es.length), ∃ a b, es[i] = S [a, b] ∧ us[i]? = some (S (upL a b)) := by
      have gen : ∀ l : List Str, (∀ e ∈ l, ∃ a b, e = S [a, b] ∧ a ∈ ks ∧ b ∈ ks ∧ X a b = true) → ∃ us : List Str, us.length = l.length ∧ ∀ i (h : i < l.length), ∃ a b, l[i] = S [a, b] ∧ us[i]? = some (S (upL a b)) := by
        intro l
        induction l with
        | nil => exact fun _ => ⟨[], rfl, fun i h => absurd h (Nat.not_lt_zero i)⟩
        | cons e l ih =>
          intro h
          obtain ⟨us, h1, h2⟩ := ih fun e he => h e (List.mem_cons_of_mem _ he)
          obtain ⟨a, b, ea, _⟩ := h e List.mem_cons_self
          refine ⟨S (upL a b) :: us, by rw [List.length_cons, List.length_cons, h1], fun i hi => ?_⟩
          cases i with
          | zero => exact ⟨a, b, ea, rfl⟩
          | succ i =>
            obtain ⟨a', b', e1, e2⟩ := h2 i (Nat.lt_of_succ_lt_succ hi)
            exact ⟨a', b', e1, e2⟩
      exact gen es he
    obtain ⟨us, lus, hus⟩ := upEx
    refine lc_it wk2 (fun i H4 => H4 D = some (.lst ((us.take i).map V.str)) ∧ L2.Same H3 H4) ⟨upd_same, same_new nD⟩ (fun i H4 _ z => ⟨z.2.seq, sameT z.2⟩) ?_ ?_
    · rintro i x H4 H5 hi ⟨hl, sm⟩ ⟨rfl, hx⟩
      rw [List.length_map] at hi
      obtain ⟨a, b, e1, e2⟩ := hus i hi
      have ex : x = V.str (S [a, b]) := by
        rw [List.getElem?_map, List.getElem?_eq_getElem hi, e1] at hx
        exact (Option.some.inj hx).symm
      subst ex
      refine ⟨rfl, _, rfl, a, b, rfl, _, hl, (by rw [List.length_map, List.length_take]; exact len_lt (by omega)), ?_, fun q o e => ?_⟩
      · rw [upd_same, take_one e2, List.map_append]
        rfl
      · rw [upd_ne (ne_of_none e nD)]
        exact sm q o e
    rintro H4 ⟨hl, sm4⟩
    rw [List.length_map, ← lus, List.take_length] at hl
    refine ⟨D, us, rfl, SqL.of hl, (by unfold scanBound; omega), fun p3 n3 => ?_⟩
    have lU : (allT us).length < 64 := Nat.lt_of_le_of_lt (allT_len us) (by omega)
    refine ⟨p3, _, rfl, upd_same, lU, fun ys p4 py so n4 => ?_⟩
    have ey := sorted_pairs up (fun k hk => by have := abc k hk; omega) cr lus hus he hall py so
    subst ey
    refine ⟨p4, _, rfl, .inl ⟨SqL.of upd_same, fun tp n5 => ?_⟩⟩

    have b4 : L2.Same H3 (upd (upd (upd H4 p3 (STO w p3 (allT us))) p4 (.lst ((prs ks X).map V.str))) tp (.tup ((prs ks X).map V.str))) := ((sm4.trans (same_new n3)).trans (same_new n4)).trans (same_new n5)
    have ht4 : (upd (upd (upd H4 p3 (STO w p3 (allT us))) p4 (.lst ((prs ks X).map V.str))) tp (.tup ((prs ks X).map V.str))) tp = some (.tup ((prs ks X).map V.str)) := upd_same
    generalize (upd (upd (upd H4 p3 (STO w p3 (allT us))) p4 (.lst ((prs ks X).map V.str))) tp (.tup ((prs ks X).map V.str))) = H5 at b4 ht4 ⊢
    have g5 := b4 _ _ g2
    refine ⟨_, rfl, r, C, dx, _, rfl, g5, T.cl, T.np, (by show 1 < 1000; decide), ?_⟩
    rw [put2]
    have ntp : tp ≠ r := ne_of ht4 g5 (by intro z; cases z)
    have b6 : But r H' (upd H5 r (.ins C dx (f2 ks tp))) := (b2.trans (But.of b4)).trans But.at
    have g6 : (upd H5 r (.ins C dx (f2 ks tp))) r = some (.ins C dx (f2 ks tp)) := upd_same
    have ht6 : (upd H5 r (.ins C dx (f2 ks tp))) tp = some (.tup ((prs ks X).map V.str)) := by rw [upd_ne ntp]; exact ht4
    generalize (upd H5 r (.ins C dx (f2 ks tp))) = H6 at b6 g6 ht6 ⊢
    -- self.across
    refine ⟨_, rfl, r, C, dx, _, _, rfl, g6, T.cl, T.nk, look2 _ _, _, rfl, fun da nda => ?_⟩
    refine dc_it walk_str (fun i H7 => H7 da = some (.dK (kvK (ks.take i) (acr ks X))) ∧ L2.Same H6 H7) ⟨upd_same, same_new nda⟩ (fun _ _ _ _ => trivial) ?_ ?_
    · rintro i x H7 H8 hi ⟨hl7, sm7⟩ ⟨rfl, k, hk, rfl⟩
      have hk' := getS hk
      have hin : k ∈ ks := List.mem_of_getElem? hk'
      rw [sizeS] at hi
      refine ⟨rfl, _, rfl, _, rfl, r, C, dx, _, _, rfl, sm7 _ _ g6, T.cl, T.nk, look2 _ _, _, rfl, r, C, dx, _, _, rfl, sm7 _ _ g6, T.cl, T.np, look2p _ _, _, rfl, ks, X, tp, k, rfl, sm7 _ _ ht6, cr, hin, by omega, fun H9 s9 => ?_⟩
      refine ⟨_, Sum.inr (S [k]), rfl, s9 _ _ hl7, ?_, ?_, fun q o e => ?_⟩
      · unfold kvK
        rw [List.length_map, List.length_take]
        exact len_lt (by omega)
      · rw [upd_same, kvK_more hk' (nodup_up up)]
      · rw [upd_ne (ne_of_none e nda)]
        exact s9 _ _ (sm7 q o e)
    rintro H7 ⟨hl7, sm7⟩
    rw [sizeS, List.take_length] at hl7
    have g7 := sm7 _ _ g6
    refine ⟨_, rfl, r, C, dx, _, rfl, g7, T.cl, T.na, (by show 2 < 1000; decide), ?_⟩
    rw [put3]
    have nda' : da ≠ r := ne_of hl7 g7 (by intro z; cases z)
    have b8 : But r H' (upd H7 r (.ins C dx (f3 ks tp da))) := (b6.trans (But.of sm7)).trans But.at
    have g8 : (upd H7 r (.ins C dx (f3 ks tp da))) r = some (.ins C dx (f3 ks tp da)) := upd_same
    have ht8 : (upd H7 r (.ins C dx (f3 ks tp da))) tp = some (.tup ((prs ks X).map V.str)) := by rw [upd_ne ntp]; exact sm7 _ _ ht6
    have ha8 : (upd H7 r (.ins C dx (f3 ks tp da))) da = some (.dK (kvK ks (acr ks X))) := by rw [upd_ne nda']; exact hl7
    generalize (upd H7 r (.ins C dx (f3 ks tp da))) = H8 at b8 g8 ht8 ha8 ⊢
    -- self.lesser
    refine ⟨_, rfl, r, C, dx, _, _, rfl, g8, T.cl, T.nk, look3 _ _ _, _, rfl, fun dl ndl => ?_⟩
    refine dc_it walk_str (fun i H9 => H9 dl = some (.dK (kvK (ks.take i) (les ks X))) ∧ L2.Same H8 H9) ⟨upd_same, same_new ndl⟩ (fun _ _ _ _ => trivial) ?_ ?_
    · rintro i x H9 HA hi ⟨hl9, sm9⟩ ⟨rfl, k, hk, rfl⟩
      have hk' := getS hk
      have hin : k ∈ ks := List.mem_of_getElem? hk'
      rw [sizeS] at hi
      have gd : DGet HA da (.str (S [k])) (some (.str (S (acr ks X k)))) := by
        have z := DGet.k (k := Sum.inr (S [k])) (sm9 _ _ ha8)
        rw [valV_kv hin] at z
        exact z
      have la : (acr ks X k).length ≤ ks.length := List.length_filter_le _ _
      refine ⟨rfl, _, rfl, _, rfl, r, C, dx, _, _, rfl, sm9 _ _ g8, T.cl, T.na, look3a _ _ _, _, rfl, da, _, rfl, gd, _, rfl, acr ks X k, k, rfl, by omega, fun HB sB => ?_⟩
      refine ⟨_, Sum.inr (S [k]), rfl, sB _ _ hl9, ?_, ?_, fun q o e => ?_⟩
      · unfold kvK
        rw [List.length_map, List.length_take]
        exact len_lt (by omega)
      · have e9 : (acr ks X k).filter (fun c => decide (c < k)) = les ks X k := rfl
        rw [upd_same, e9, kvK_more hk' (nodup_up up)]
      · rw [upd_ne (ne_of_none e ndl)]
        exact sB _ _ (sm9 q o e)
    rintro H9 ⟨hl9, sm9⟩
    rw [sizeS, List.take_length] at hl9
    have g9 := sm9 _ _ g8
    refine ⟨_, rfl, r, C, dx, _, rfl, g9, T.cl, T.nl, (by show 3 < 1000; decide), ?_⟩
    rw [put4]
    have ndl' : dl ≠ r := ne_of hl9 g9 (by intro z; cases z)
    refine q _ ((But.of s1).trans ((b8.trans (But.of sm9)).trans But.at)) ⟨by omega, up, cr, abc, dx, tp, da, dl, upd_same, ?_, .inl ?_, .inl ?_⟩
    · rw [upd_ne ntp]
      exact sm9 _ _ ht8
    · rw [upd_ne nda']
      exact sm9 _ _ ha8
    · rw [upd_ne ndl']
      exact hl9
end
end TX
end
section
set_option maxRecDepth 100000
set_option maxHeartbeats 4000000
/-! the law's draws -/
namespace TX
open PySem PySem.Spec PyProof.Rows L2 SX CW
def pkv (c : Addr) (pl r : Int) : List (Key × V) := [(Sum.inr "cells", .ref c), (Sum.inr "spot", .int pl), (Sum.inr "left", .int r)]
/-- the pen: begun at most n cells -/
structure PenAt (H : Hp) (p c : Addr) (n : Nat) : Prop where
  ex : ∃ (pl : Nat) (r : Int) (cs : List Int), H p = some (.dK (pkv c pl r)) ∧ H c = some (.lst (cs.map V.int)) ∧ pl ≤ n ∧ 0 ≤ r ∧ cs.length ≤ 63
theorem PenAt.mono {H : Hp} {p c : Addr} {n m : Nat} (h : PenAt H p c n) (l : n ≤ m) : PenAt H p c m := by
  obtain ⟨pl, r, cs, h1, h2, h3, h4, h5⟩ := h.ex
  exact ⟨pl, r, cs, h1, h2, by omega, h4, h5⟩
theorem PenAt.same {H H' : Hp} {p c : Addr} {n : Nat} (h : PenAt H p c n) (k : L2.Same H H') : PenAt H' p c n := by
  obtain ⟨pl, r, cs, h1, h2, h3, h4, h5⟩ := h.ex
  exact ⟨pl, r, cs, k _ _ h1, k _ _ h2, h3, h4, h5⟩
theorem valV_cons {a k : Key} {v : V} {r : List (Key × V)} : valV ((a, v) :: r) k = if a = k then some v else valV r k := by
  unfold valV
  rw [List.find?_cons]
  by_cases h : a = k
  · rw [if_pos h]
    have : decide ((a, v).1 = k) = true := decide_eq_true h
    rw [this]
    rfl
  · rw [if_neg h]
    have : decide ((a, v).1 = k) = false := decide_eq_false h
    rw [this]
theorem kcp : ¬ ((Sum.inr ("cells" : Str) : Key) = Sum.inr ("spot" : Str)) := by decide +kernel
theorem kcr : ¬ ((Sum.inr ("cells" : Str) : Key) = Sum.inr ("left" : Str)) := by decide +kernel
theorem kpr : ¬ ((Sum.inr ("spot" : Str) : Key) = Sum.inr ("left" : Str)) := by decide +kernel
theorem pk_cells (c : Addr) (pl r : Int) : valV (pkv c pl r) (Sum.inr "cells") = some (.ref c) := by
  unfold pkv
  rw [valV_cons, if_pos rfl]
theorem pk_place (c : Addr) (pl r : Int) : valV (pkv c pl r) (Sum.inr "spot") = some (.int pl) := by
  unfold pkv
  rw [valV_cons, if_neg kcp, valV_cons, if_pos rfl]
theorem pk_rest (c : Addr) (pl r : Int) : valV (pkv c pl r) (Sum.inr "left") = some (.int r) := by
  unfold pkv
  rw [valV_cons, if_neg kcr, valV_cons, if_neg kpr, valV_cons, if_pos rfl]
theorem put_rest (c : Addr) (pl r r' : Int) : putK (pkv c pl r) (Sum.inr "left") (.int r') = pkv c pl r' := by
  unfold putK pkv
  simp only [List.any_cons, List.any_nil, decide_eq_false kcr, decide_eq_false kpr, decide_eq_true, Bool.false_or, Bool.or_false, List.map_cons, List.map_nil, if_neg kcr, if_neg kpr, if_true]
theorem put_place (c : Addr) (pl r pl' : Int) : putK (pkv c pl r) (Sum.inr "spot") (.int pl') = pkv c pl' r := by
  unfold putK pkv
  have k2 : ¬ ((Sum.inr ("left" : Str) : Key) = Sum.inr ("spot" : Str)) := fun z => kpr z.symm
  simp only [List.any_cons, List.any_nil, decide_eq_false kcp, decide_eq_false k2, decide_eq_true, Bool.false_or, Bool.or_false, Bool.true_or, List.map_cons, List.map_nil, if_neg kcp, if_neg k2, if_true]
theorem sh_flat (ds : List PyData) (h : ∀ d ∈ ds, PyData.canLay0 d = true ∧ PyData.depth d ≤ 60) : PySem.SeqAt.shaped (.list ds) = true := by
  have h1 : ∀ cs : List PyData, (∀ d ∈ cs, PyData.canLay0 d = true ∧ PyData.depth d ≤ 60) → PyData.canLayAll0 cs = true ∧ PyData.depthAll cs ≤ 60 := by
    intro cs
    induction cs with
    | nil => exact fun _ => ⟨rfl, by show 0 ≤ 60; omega⟩
    | cons a cs ih =>
      intro h
      obtain ⟨i1, i2⟩ := ih fun d hd => h d (List.mem_cons_of_mem _ hd)
      obtain ⟨a1, a2⟩ := h a List.mem_cons_self
      constructor
      · show (PyData.canLay0 a && PyData.canLayAll0 cs) = true
        rw [a1, i1]
        rfl
      · show max (PyData.depth a) (PyData.depthAll cs) ≤ 60
        omega
  obtain ⟨a, b⟩ := h1 ds h
  show (PyData.canLayAll0 ds && decide (PyData.depth (.list ds) ≤ 64)) = true
  rw [a]
  have : PyData.depth (.list ds) = PyData.depthAll ds + 1 := rfl
  rw [this]
  simp
  omega
theorem sh_ints (cs : List Int) : PySem.SeqAt.shaped (.list (cs.map PyData.int)) = true := by
  refine sh_flat _ fun d hd => ?_
  obtain ⟨i, _, rfl⟩ := List.mem_map.mp hd
  exact ⟨rfl, by show (0 : Nat) ≤ 60 ; omega⟩
theorem dp_ints {K : PySem.W.Frag} {H : Hp} : ∀ cs : List Int, DpAll K H (cs.map V.int) (cs.map PyData.int)
  | [] => .nil
  | _ :: cs => .cons (.int _) (dp_ints cs)
theorem eqv_nil (cs : List Int) : PyData.eqv (.list (cs.map PyData.int)) (.list []) = decide (cs = []) := by
  cases cs with
  | nil => rfl
  | cons a cs => rfl
theorem sh_ones (cs : List Nat) (h : ∀ c ∈ cs, c < 1114112) : PySem.SeqAt.shaped (.list ((cs.map fun c => S [c]).map PyData.str)) = true := by
  refine sh_flat _ fun d hd => ?_
  obtain ⟨i, hi, rfl⟩ := List.mem_map.mp hd
  obtain ⟨c, hc, rfl⟩ := List.mem_map.mp hi
  refine ⟨?_, by show (0 : Nat) ≤ 60 ; omega⟩
  show ([c].toArray.all fun x => decide (x < 1114112)) = true
  simpa using h c hc
theorem dp_strs {K : PySem.W.Frag} {H : Hp} : ∀ cs : List Str, DpAll K H (cs.map V.str) (cs.map PyData.str)
  | [] => .nil
  | _ :: cs => .cons (.str _) (dp_strs cs)
theorem eqv_nils (cs : List Str) : PyData.eqv (.list (cs.map PyData.str)) (.list []) = decide (cs = []) := by
  cases cs with
  | nil => rfl
  | cons a cs => rfl
theorem iteJ {α : Type} {c T E : Prop} [Decidable c] {G : α → Prop} (a : α) (e : G a = E) (t : c → (∀ z, G z) → T) (h : ∀ z, G z) : if c then T else E := by
  subst e
  by_cases x : c
  · rw [if_pos x]
    exact t x h
  · rw [if_neg x]
    exact h a
/-- _law_draw(pen, number) -/
def spDraw : Sp := fun vs H Q _ => ∃ (p c : Addr) (m n : Nat), vs = [.ref p, .int n] ∧ PenAt H p c m ∧ 0 < n ∧ n < 1073741824 ∧ m ≤ 100000000 ∧
  ∀ (d : Nat) (H' : Hp), d < n → PenAt H' p c (m + 1) → But p H H' → Q (.int d) H'
section
variable {P : Program} {w : World} {K : PySem.W.Frag} {mg : Str → Option Value} {base : Heap}
abbrev nDraw : List Str := ["_law_pen", "_law_span", "_law_digit", "_law_spot", "_law_cell", "_law_first", "_law_mixed"]
theorem sc_draw : FnScope nDraw ["_law_pen", "_law_span"] (defScope s_law_draw) := ⟨rfl, rfl, rfl, by decide +kernel, rfl, by decide +kernel, by decide +kernel⟩
theorem ok_draw (F : D K mg "_law_draw" s_law_draw []) (zi : mg "int" = none) (zl : mg "len" = none) : C8.Cal P w K mg base 1 "_law_draw" spDraw [] := by
  refine F.cal (ps := ["_law_pen", "_law_span"]) sc_draw (fun f fd F => F.bindsN fun _ _ _ _ _ _ us hl => match us, hl with | [_, _], _ => rfl) (fun vs H Q E h => ?_) (fun f cdv A outer s H vs Q E hr h => ?_)
  · obtain ⟨p, c, m, n, rfl, _⟩ := h
    rfl
  · obtain ⟨p, c, m, n, rfl, hp, n0, n1, hm, q⟩ := h
    have hu := hu_of hr
    refine ⟨_, pss_cons (ps_if (pt_cmpR op_ge (pe_dget hu (pv 0) pe_str (fun _ _ => rfl)) (pv 1) (nomark _))
        (pss_cons (ps_set (i := 2) sc_draw.nd rfl (.inl rfl) (pe_op op_mod (pe_callTy call_int1 (by rfl) zi (by decide +kernel) (pa_cons (pe_dget hu (pv 0) pe_str (fun _ _ => rfl)) pa_nil)) (pv 1)))
        (pss_cons (ps_dput hu (pv 0) pe_str (pe_op op_fdiv (pe_dget hu (pv 0) pe_str (fun _ _ => rfl)) (pv 1)) rfl)
        (pss_one (ps_ret (pv 2))))) pss_nil)
      (pss_cons (ps_set (i := 3) sc_draw.nd rfl (.inl rfl) (pe_dget hu (pv 0) pe_str (fun _ _ => rfl)))
      (pss_cons (ps_dput hu (pv 0) pe_str (pe_op op_add (pv 3) pe_int) rfl)
      (pss_cons (ps_set (i := 4) sc_draw.nd rfl (.inl rfl) (pe_op op_add (pe_op op_mul pe_int (pv 3)) pe_int))
      (pss_cons (ps_if (pt_cmpR (op_neD hr.units) (pe_dget hu (pv 0) pe_str (fun _ _ => rfl)) (pe_lst pa_nil) (nomark _))
        (pss_one (ps_set (i := 4) sc_draw.nd rfl (.inl rfl) (pe_ix ix_list (pe_dget hu (pv 0) pe_str (fun _ _ => rfl)) (pe_op op_mod (pe_callTy call_int1 (by rfl) zi (by decide +kernel) (pa_cons (pv 3) pa_nil)) (pe_callB call_len_seq (by rfl) zl PySem.boot_len (pa_cons (pe_dget hu (pv 0) pe_str (fun _ _ => rfl)) pa_nil))) (fun _ _ => rfl)))) pss_nil)
      (pss_cons (ps_if (PW.pt (pw_and (pt_cmpR op_lt (pv 3) (pe_callB call_len_seq (by rfl) zl PySem.boot_len (pa_cons (pe_dget hu (pv 0) pe_str (fun _ _ => rfl)) pa_nil)) (nomark _))
            (pw_and1 (pt_cmpR op_ge (pv 4) (pe_op op_pow pe_int pe_int) (nomark _)))))
        (pss_cons (ps_dput hu (pv 0) pe_str (pe_op op_fdiv (pe_op op_sub (pv 4) (pe_op op_pow pe_int pe_int)) (pv 1)) rfl)
        (pss_one (ps_ret (pe_op op_mod (pe_callTy call_int1 (by rfl) zi (by decide +kernel) (pa_cons (pe_op op_sub (pv 4) (pe_op op_pow pe_int pe_int)) pa_nil)) (pv 1))))) pss_nil)
      (pss_cons (ps_set (i := 5) sc_draw.nd rfl (.inl rfl) (pe_op op_add (pe_op op_mul (pe_op op_mod (pe_callTy call_int1 (by rfl) zi (by decide +kernel) (pa_cons (pv 4) pa_nil)) pe_int) pe_int) (pe_op op_mul (pe_op op_mul pe_int (pv 3)) (pv 3))))
      (pss_cons (ps_set (i := 6) sc_draw.nd rfl (.inl rfl) (pe_op op_mod (pe_callTy call_int1 (by rfl) zi (by decide +kernel) (pa_cons
          (pe_op op_add (pe_op op_add (pv 5) (pe_op op_mul pe_int (pv 3))) pe_int) pa_nil)) pe_int))
      (pss_cons (ps_set (i := 6) sc_draw.nd rfl (.inl rfl) (pe_op op_mod (pe_callTy call_int1 (by rfl) zi (by decide +kernel) (pa_cons
          (pe_op op_mul (pv 6) (pe_op op_add (pv 6) pe_int)) pa_nil)) pe_int))
      (pss_one (ps_ret (pe_op op_mod (pe_callTy call_int1 (by rfl) zi (by decide +kernel) (pa_cons (pe_op op_fdiv (pe_op op_mod (pe_callTy call_int1 (by rfl) zi (by decide +kernel) (pa_cons
          (pe_op op_add (pe_op op_mul (pv 6) (pv 6)) (pe_op op_mul pe_int (pv 6))) pa_nil)) pe_int) pe_int) pa_nil)) (pv 1)))))))))))), ?_⟩
    obtain ⟨pl, r, cs, h1, h2, h3, h4, h5⟩ := hp.ex
    have gr : ∀ {G : Hp} {pl : Nat} {r : Int}, G p = some (.dK (pkv c pl r)) → DGet G p (.str "left") (some (.int r)) := fun e => by
      have z := DGet.k (k := Sum.inr "left") e
      rw [pk_rest] at z
      exact z
    have gp : ∀ {G : Hp} {pl : Nat} {r : Int}, G p = some (.dK (pkv c pl r)) → DGet G p (.str "spot") (some (.int pl)) := fun e => by
      have z := DGet.k (k := Sum.inr "spot") e
      rw [pk_place] at z
      exact z
    have gc : ∀ {G : Hp} {pl : Nat} {r : Int}, G p = some (.dK (pkv c pl r)) → DGet G p (.str "cells") (some (.ref c)) := fun e => by
      have z := DGet.k (k := Sum.inr "cells") e
      rw [pk_cells] at z
      exact z
    have ncp : c ≠ p := ne_of h2 h1 (by intro z; cases z)
    have nn : (0 : Int) < (n : Int) := by omega
    have cd : CDiv 0 (n : Int) := ⟨nn, by omega⟩
    have toN : ∀ i : Int, ∃ d : Nat, d < n ∧ i % (n : Int) = (d : Int) := fun i => by
      have a1 := Int.emod_nonneg i (b := (n : Int)) (by omega)
      have a2 := Int.emod_lt_of_pos i nn
      exact ⟨(i % (n : Int)).toNat, by omega, by omega⟩
    refine ⟨_, rfl, p, _, rfl, gr h1, _, rfl, _, _, rfl, rfl, _, rfl, ?_⟩
    refine ite2 (fun c1 => ?_) (fun _ => ?_)
    · refine ⟨_, rfl, p, _, rfl, gr h1, .inl ⟨_, rfl, _, rfl, _, _, rfl, rfl, nn, ?_⟩⟩
      refine ⟨_, rfl, p, _, rfl, gr h1, _, rfl, _, _, rfl, rfl, cd, _, rfl, ?_⟩
      refine ⟨p, _, rfl, DPut.k (k := Sum.inr "left") h1 (by show 3 < sizeLine; exact len_lt (by omega)), ?_⟩
      rw [put_rest]
      obtain ⟨d, d1, d2⟩ := toN r
      refine ⟨_, rfl, ?_⟩
      have q2 := q d (upd H p (.dK (pkv c pl (r / n)))) d1 ⟨pl, _, cs, upd_same, by rw [upd_ne ncp]; exact h2, by omega, Int.ediv_nonneg h4 (by omega), h5⟩ But.at
      rw [← d2] at q2
      exact q2
    · refine ⟨_, rfl, p, _, rfl, gp h1, ?_⟩
      refine ⟨_, rfl, _, _, rfl, rfl, _, rfl, p, _, rfl, DPut.k (k := Sum.inr "spot") h1 (by show 3 < sizeLine; exact len_lt (by omega)), ?_⟩
      rw [put_place]
      have g1 : (upd H p (.dK (pkv c ((pl : Int) + 1) r))) p = some (.dK (pkv c ((pl + 1 : Nat) : Int) r)) := upd_same
      have gc1 : (upd H p (.dK (pkv c ((pl : Int) + 1) r))) c = some (.lst (cs.map V.int)) := by rw [upd_ne ncp]; exact h2
      have b1 : But p H (upd H p (.dK (pkv c ((pl : Int) + 1) r))) := But.at
      generalize (upd H p (.dK (pkv c ((pl : Int) + 1) r))) = H1 at g1 gc1 b1 ⊢
      refine ⟨_, rfl, _, _, rfl, rfl, .inl ⟨by decide, by decide⟩, _, _, rfl, rfl, ?_⟩
      -- if cells != []
      have lenc : (cs.map V.int).length = cs.length := List.length_map ..
      refine ⟨_, rfl, p, _, rfl, gc g1, (by show 0 ≤ sizeLine; exact Nat.zero_le _), fun l hl => ?_⟩
      have g2 : (upd H1 l (.lst [])) p = some (.dK (pkv c ((pl + 1 : Nat) : Int) r)) := same_new hl _ _ g1
      have gc2 : (upd H1 l (.lst [])) c = some (.lst (cs.map V.int)) := same_new hl _ _ gc1
      have b2 : But p H (upd H1 l (.lst [])) := b1.trans (But.of (same_new hl))
      have gl : (upd H1 l (.lst [])) l = some (.lst []) := upd_same
      generalize (upd H1 l (.lst [])) = H2 at g2 gc2 b2 gl ⊢
      refine ⟨_, _, .lst (SqL.of gc2) (dp_ints cs), .lst (SqL.of gl) .nil, sh_ints cs, sh_ints [], _, rfl, ?_⟩
      rw [eqv_nil]
      have mb1 : ∀ x : Int, -2 ^ 64 < x % 2147483179 ∧ x % 2147483179 < 2 ^ 64 := fun x => by omega
      have mb2 : ∀ x : Int, -2 ^ 64 < x % 2147483237 ∧ x % 2147483237 < 2 ^ 64 := fun x => by omega
      have mb3 : ∀ x : Int, -2 ^ 64 < x % 2147483249 ∧ x % 2147483249 < 2 ^ 64 := fun x => by omega
      have p1 : (0 : Int) < 2147483179 := by decide
      have p2 : (0 : Int) < 2147483237 := by decide
      have p3 : (0 : Int) < 2147483249 := by decide
      have p4 : (0 : Int) < 2147483269 := by decide
      have p5 : (0 : Int) < 32 := by decide
      have p6 : (32 : Int) < 1073741824 := by decide
      have bp : -2 ^ 64 < 41017 * (pl : Int) ∧ 41017 * (pl : Int) < 2 ^ 64 := by omega
      have fin1 : ∀ x : Int, Q (.int (x % (n : Int))) H2 := fun x => by
        obtain ⟨d, d1, d2⟩ := toN x
        rw [d2]
        exact q d _ d1 ⟨pl + 1, r, cs, g2, gc2, by omega, h4, h5⟩ b2
      have fin2 : ∀ x y : Int, 0 ≤ y → Q (.int (x % (n : Int))) (upd H2 p (.dK (pkv c ((pl + 1 : Nat) : Int) y))) := fun x y hy => by
        obtain ⟨d, d1, d2⟩ := toN x
        rw [d2]
        exact q d _ d1 ⟨pl + 1, y, cs, upd_same, by rw [upd_ne ncp]; exact gc2, by omega, hy, h5⟩ (b2.trans But.at)
      refine ite2 (fun c2 => ?ca) (fun c2 => ?cb)
      case' ca =>
        have ne : cs ≠ [] := by simpa using c2
        have l0 : 0 < cs.length := List.length_pos_iff.mpr ne
        have jlt : ((pl : Int) % ((cs.map V.int).length : Int)).toNat < cs.length := by
          rw [lenc]
          have a1 := Int.emod_nonneg (pl : Int) (b := (cs.length : Int)) (by omega)
          have a2 := Int.emod_lt_of_pos (pl : Int) (b := (cs.length : Int)) (by omega)
          omega
        have jeq : ((((pl : Int) % ((cs.map V.int).length : Int)).toNat : Nat) : Int) = (pl : Int) % ((cs.map V.int).length : Int) := by
          rw [lenc]
          have a1 := Int.emod_nonneg (pl : Int) (b := (cs.length : Int)) (by omega)
          omega
        have gat : atI (cs.map V.int) ((pl : Int) % ((cs.map V.int).length : Int)) = some (V.int (cs[((pl : Int) % ((cs.map V.int).length : Int)).toNat])) := by
          have z := atI_nat (j := ((pl : Int) % ((cs.map V.int).length : Int)).toNat) (xs := cs.map V.int) (v := V.int (cs[((pl : Int) % ((cs.map V.int).length : Int)).toNat])) (by rw [List.getElem?_map, List.getElem?_eq_getElem jlt]; rfl)
          exact (congrArg (atI (cs.map V.int)) jeq).symm.trans z
        refine ⟨_, rfl, p, _, rfl, gc g2, _, rfl, .inl ⟨_, rfl, _, rfl, p, _, rfl, gc g2, c, _, rfl, .inl (SqL.of gc2), _, _, rfl, rfl, (by rw [lenc]; omega), ?_⟩⟩
        refine ⟨c, _, _, .int (cs[((pl : Int) % ((cs.map V.int).length : Int)).toNat]), rfl, rfl, SqL.of gc2, gat, ?_⟩
      all_goals
        refine ⟨_, rfl, _, rfl, p, _, rfl, gc g2, c, _, rfl, .inl (SqL.of gc2), _, _, rfl, rfl, _, rfl, ?_⟩
        refine ite2 (fun c3 => ⟨_, rfl, _, _, rfl, rfl, ⟨by decide, by decide, by decide⟩, _, _, rfl, rfl, _, rfl, ite2 (fun c4 => ?_) (fun c4 => ?_)⟩) (fun c3 => iteF ?_)
        · refine ⟨_, rfl, _, _, rfl, rfl, ⟨by decide, by decide, by decide⟩, _, _, rfl, rfl, _, rfl, _, _, rfl, rfl, ⟨cd.1, cd.2⟩, _, rfl, p, _, rfl, DPut.k (k := Sum.inr "left") g2 (by show 3 < sizeLine; exact len_lt (by omega)), ?_⟩
          rw [put_rest]
          refine ⟨_, rfl, _, _, rfl, rfl, ⟨by decide, by decide, by decide⟩, _, _, rfl, rfl, .inl ⟨_, rfl, _, rfl, _, _, rfl, rfl, nn, ?_⟩⟩
          exact fin2 _ _ (Int.ediv_nonneg (Int.sub_nonneg_of_le (of_decide_eq_true c4)) (by omega))
        all_goals
          refine ⟨_, rfl, .inl ⟨_, rfl, _, _, rfl, rfl, p1, _, _, rfl, rfl, .inl (mb1 _), _, rfl, _, _, rfl, rfl, .inl ⟨by decide, by decide⟩, _, rfl, _, _, rfl, rfl, .inl bp, _, _, rfl, rfl, ?_⟩⟩
          refine ⟨_, rfl, _, rfl, _, _, rfl, rfl, .inl ⟨by decide, by decide⟩, _, _, rfl, rfl, _, _, rfl, rfl, .inl ⟨_, rfl, _, _, rfl, rfl, p2, ?_⟩⟩
          refine ⟨_, rfl, _, rfl, _, _, rfl, rfl, _, _, rfl, rfl, .inl (mb2 _), .inl ⟨_, rfl, _, _, rfl, rfl, p3, ?_⟩⟩
          refine ⟨_, rfl, _, rfl, _, _, rfl, rfl, .inl (mb3 _), _, rfl, _, _, rfl, rfl, .inl ⟨by decide, by decide⟩, _, _, rfl, rfl, .inl ⟨_, rfl, _, _, rfl, rfl, p4, _, _, rfl, rfl, ⟨p5, p6⟩, .inl ⟨_, rfl, _, rfl, _, _, rfl, rfl, nn, ?_⟩⟩⟩
          exact fin1 _
end
end TX
end
section
set_option maxRecDepth 100000
set_option maxHeartbeats 4000000
/-! the law's pen, picks, drawn orders -/
namespace TX
open PySem PySem.Spec PyProof.Rows L2 SX CW
theorem But.fresh {r q : Addr} {H H' : Hp} {o : HO} (a : But r H H') (hq : H q = none) : But r H (upd H' q o) := fun c u n h => by
  rw [upd_ne (ne_of_none h hq)]
  exact a c u n h
theorem But.none {r q : Addr} {H H' : Hp} (a : But r H H') (n : q ≠ r) (hq : H' q = none) : H q = none := by
  cases e : H q with
  | none => rfl
  | some o => rw [a q o n e] at hq; cases hq
/-- the pen stands, whatever is stored at what was free -/
theorem PenAt.fresh {H H0 : Hp} {p c q : Addr} {n n0 : Nat} {o : HO} (h : PenAt H p c n) (h0 : PenAt H0 p c n0) (hq : H0 q = none) : PenAt (upd H q o) p c n := by
  obtain ⟨pl0, r0, cs0, e1, e2, _⟩ := h0.ex
  obtain ⟨pl, r, cs, h1, h2, h3, h4, h5⟩ := h.ex
  refine ⟨pl, r, cs, ?_, ?_, h3, h4, h5⟩
  · rw [upd_ne (ne_of_none e1 hq)]
    exact h1
  · rw [upd_ne (ne_of_none e2 hq)]
    exact h2
def spPen (K : PySem.W.Frag) : Sp := fun vs H Q _ => ∃ (s : Addr) (ns : List Int), vs = [.ref s] ∧ SqL K H s (ns.map V.int) ∧
  ∀ (p c : Addr) (H' : Hp), PenAt H' p c 0 → L2.Same H H' → Q (.ref p) H'
def spPick : Sp := fun vs H Q _ => ∃ (p c l : Addr) (m : Nat) (xs : List V), vs = [.ref p, .ref l] ∧ PenAt H p c m ∧ m ≤ 100000000 ∧ H l = some (.lst xs) ∧ 0 < xs.length ∧ xs.length < 1073741824 ∧
  ∀ (i : Nat) (x : V) (H' : Hp), xs[i]? = some x → PenAt H' p c (m + 1) → But p H H' → Q x H'
def ones (l : List Nat) : List V := l.map fun c => V.str (S [c])
def spShuffled : Sp := fun vs H Q _ => ∃ (p c l : Addr) (m : Nat) (zs : List Nat), vs = [.ref p, .ref l] ∧ PenAt H p c m ∧ m ≤ 1000000 ∧ H l = some (.lst (ones zs)) ∧ zs.length ≤ 26 ∧ (∀ c ∈ zs, c < 1114112) ∧
  ∀ (r : Addr) (ys : List Nat) (H' : Hp), ys.Perm zs → H' r = some (.lst (ones ys)) → PenAt H' p c (m + zs.length) → But p H H' → H r = none → Q (.ref r) H'
theorem merge_pen (l : Addr) : mergeK [] (pkv l 0 0) = pkv l 0 0 := by
  have k1 := kcp
  have k2 := kcr
  have k3 := kpr
  unfold mergeK pkv
  simp only [List.foldl_cons, List.foldl_nil]
  unfold putK
  simp only [List.any_nil, List.any_cons, List.nil_append, if_false, decide_eq_false k1, decide_eq_false k2, decide_eq_false k3, Bool.or_false, Bool.or_self, List.cons_append]
  rfl
theorem cut_ints (ns : List Int) : ∃ cs : List Int, cutV (ns.map V.int) none (some 63) = cs.map V.int ∧ cs.length ≤ 63 := by
  unfold cutV
  refine ⟨(ns.drop (HT.sIx (ns.map V.int).length 0 none)).take (HT.sIx (ns.map V.int).length (ns.map V.int).length (some 63) - HT.sIx (ns.map V.int).length 0 none), ?_, ?_⟩
  · rw [List.map_take, List.map_drop]
  · rw [List.length_take]
    have : HT.sIx (ns.map V.int).length (ns.map V.int).length (some 63) ≤ 63 := by
      show (if (63 : Int) < 0 then ((63 : Int) + ((ns.map V.int).length : Int)).toNat else min (63 : Int).toNat (ns.map V.int).length) ≤ 63
      rw [if_neg (by decide)]
      exact Nat.min_le_left _ _
    omega
section
variable {P : Program} {w : World} {K : PySem.W.Frag} {mg : Str → Option Value} {base : Heap}
theorem sc_pick : FnScope ["_law_pen", "_law_some"] ["_law_pen", "_law_some"] (defScope s_law_pick) := ⟨rfl, rfl, rfl, by decide +kernel, rfl, by decide +kernel, by decide +kernel⟩
theorem ok_pick (F : D K mg "_law_pick" s_law_pick []) (cD : C8.Cal P w K mg base 1 "_law_draw" spDraw []) (zl : mg "len" = none) : C8.Cal P w K mg base 2 "_law_pick" spPick [] := by
  refine F.cal (ps := ["_law_pen", "_law_some"]) sc_pick (fun f fd F => F.bindsN fun _ _ _ _ _ _ us hl => match us, hl with | [_, _], _ => rfl) (fun vs H Q E h => ?_) (fun f cdv A outer s H vs Q E hr h => ?_)
  · obtain ⟨p, c, l, m, xs, rfl, _⟩ := h
    rfl
  · obtain ⟨p, c, l, m, xs, rfl, hp, hm, hl, l0, l1, q⟩ := h
    refine ⟨_, pss_one (ps_ret (pe_ix ix_list (pv 1) (C8.pe_c cD hr (by decide) (by rfl) (pa_cons (pv 0) (pa_cons (pe_callB call_len_seq (by rfl) zl PySem.boot_len (pa_cons (pv 1) pa_nil)) pa_nil))) (fun _ _ => rfl))), ?_⟩
    refine ⟨_, rfl, _, rfl, _, rfl, l, _, rfl, .inl (SqL.of hl), p, c, m, xs.length, rfl, hp, l0, l1, hm, fun d H' hd hp' b => ?_⟩
    obtain ⟨pl, r, cs, h1, _⟩ := hp.ex
    have nlp : l ≠ p := ne_of hl h1 (by intro z; cases z)
    exact ⟨l, xs, _, xs[d], rfl, rfl, SqL.of (b _ _ nlp hl), atI_nat (List.getElem?_eq_getElem hd), q d _ _ (List.getElem?_eq_getElem hd) hp' b⟩
abbrev nShuf : List Str := ["_law_pen", "_law_some", "_law_rest", "_law_found"]
theorem sc_shuf : FnScope nShuf ["_law_pen", "_law_some"] (defScope s_law_shuffled) := ⟨rfl, rfl, rfl, by decide +kernel, rfl, by decide +kernel, by decide +kernel⟩
def lenAt (σ : L2.St) (H : Hp) : Nat := match σ[2]? with
  | some (some (V.ref a)) => (match H a with | some (HO.lst xs) => xs.length | _ => 0)
  | _ => 0
theorem perm_pop {found left zs : List Nat} (d : Nat) (hd : d < left.length) (h : (found ++ left).Perm zs) : ((found ++ [left[d]]) ++ left.eraseIdx d).Perm zs := by
  refine List.Perm.trans ?_ h
  rw [List.append_assoc]
  refine List.Perm.append_left _ ?_
  have e : left = left.take d ++ left[d] :: left.drop (d + 1) := by
    rw [List.getElem_cons_drop, List.take_append_drop]
  rw [List.eraseIdx_eq_take_drop_succ]
  have z : (left[d] :: (left.take d ++ left.drop (d + 1))).Perm (left.take d ++ left[d] :: left.drop (d + 1)) := (List.perm_middle).symm
  exact z.trans (List.Perm.of_eq e.symm)
theorem ok_shuf (F : D K mg "_law_shuffled" s_law_shuffled []) (cD : C8.Cal P w K mg base 1 "_law_draw" spDraw []) (zl : mg "len" = none) (zi : mg "list" = none) : C8.Cal P w K mg base 2 "_law_shuffled" spShuffled [] := by
  refine F.cal (ps := ["_law_pen", "_law_some"]) sc_shuf (fun f fd F => F.bindsN fun _ _ _ _ _ _ us hl => match us, hl with | [_, _], _ => rfl) (fun vs H Q E h => ?_) (fun f cdv A outer s H vs Q E hr h => ?_)
  · obtain ⟨p, c, l, m, zs, rfl, _⟩ := h
    rfl
  · obtain ⟨p, c, l, m, zs, rfl, hp, hm, hl, l26, hz, q⟩ := h
    refine ⟨_, pss_cons (ps_par (i := 2) (j := 3) (by rfl) sc_shuf.nd rfl rfl (by decide) rfl rfl (pa_cons (pe_callTy call_list_of (by rfl) zi (by decide +kernel) (pa_cons (pv 1) pa_nil)) (pa_cons (pe_lst pa_nil) pa_nil)) (by rfl))
      (pss_cons (ps_while PassesOwn.never (pt_cmpR (op_neD hr.units) (pv 2) (pe_lst pa_nil) (nomark _))
        (pss_one (ps_expr (pe_bm PySem.F.plainAttrs_list PySem.F.slot_list_append PySem.F.type_list_append mt_append (pv 3) (pa_cons
          (pe_bm PySem.F.plainAttrs_list PySem.F.slot_list_pop PySem.F.type_list_pop mt_popAt (pv 2) (pa_cons (C8.pe_c cD hr (by decide) (by rfl) (pa_cons (pv 0) (pa_cons (pe_callB call_len_seq (by rfl) zl PySem.boot_len (pa_cons (pv 2) pa_nil)) pa_nil))) pa_nil)) pa_nil)))))
      (pss_one (ps_ret (pv 3)))), ?_⟩
    refine ⟨_, rfl, l, _, rfl, .inl (SqL.of hl), fun lf hlf => ?_⟩
    have h1 : (upd H lf (.lst (ones zs))) lf = some (.lst (ones zs)) := upd_same
    have s1 : L2.Same H (upd H lf (.lst (ones zs))) := same_new hlf
    generalize (upd H lf (.lst (ones zs))) = H1 at h1 s1 ⊢
    refine ⟨(by show 0 ≤ sizeLine; exact Nat.zero_le _), fun ff hff => ?_⟩
    have hff0 : H ff = none := L2.Same.free s1 hff
    have h2 : (upd H1 ff (.lst [])) ff = some (.lst []) := upd_same
    have s2 : L2.Same H1 (upd H1 ff (.lst [])) := same_new hff
    have n12 : lf ≠ ff := ne_of_none h1 hff
    generalize (upd H1 ff (.lst [])) = H2 at h2 s2 ⊢
    refine ⟨_, _, rfl, ?_⟩
    obtain ⟨pl0, r0, cs0, hpd, _⟩ := hp.ex
    have nlp : lf ≠ p := fun e => by rw [e, hpd] at hlf; cases hlf
    have nfp : ff ≠ p := fun e => by rw [e, hpd] at hff0; cases hff0
    refine while_by (fun σ G => ∃ left found : List Nat, σ = [some (.ref p), some (.ref l), some (.ref lf), some (.ref ff)] ∧ G lf = some (.lst (ones left)) ∧ G ff = some (.lst (ones found)) ∧ (found ++ left).Perm zs ∧ PenAt G p c (m + found.length) ∧ But p H G) lenAt
      ⟨zs, [], rfl, s2 _ _ h1, h2, List.Perm.refl _, (hp.same s1).same s2, But.of (s1.trans s2)⟩ ?_ ?_
    · rintro σ G ⟨left, found, rfl, gl, gf, pm, gp, b⟩
      have plen : found.length + left.length = zs.length := by
        have := pm.length_eq
        rw [List.length_append] at this
        exact this
      refine ⟨_, rfl, (by show 0 ≤ sizeLine; exact Nat.zero_le _), fun e he => ?_⟩
      have s3 : L2.Same G (upd G e (.lst [])) := same_new he
      have ge : (upd G e (.lst [])) e = some (.lst []) := upd_same
      generalize (upd G e (.lst [])) = G1 at s3 ge ⊢
      have e1 : ones left = (left.map fun c => S [c]).map V.str := by unfold ones; rw [List.map_map]; rfl
      have gl1 := s3 _ _ gl
      refine ⟨_, _, .lst (SqL.of (e1 ▸ gl1)) (dp_strs _), .lst (SqL.of ge) .nil, sh_ones left fun c hc => hz c (pm.subset (List.mem_append_right _ hc)), sh_ints [], _, rfl, ?_⟩
      rw [eqv_nils]
      have b3 : But p H G1 := b.trans (But.of s3)
      have gp3 := gp.same s3
      have gf3 := s3 _ _ gf
      cases left with
      | nil =>
        refine iteF ?_
        have e0 : found.Perm zs := by simpa using pm
        rw [e0.length_eq] at gp3
        exact ⟨_, rfl, q ff found _ e0 gf3 gp3 b3 hff0⟩
      | cons x left =>
        refine iteT ?_
        have l0 : 0 < (x :: left).length := Nat.zero_lt_succ _
        have lo : (ones (x :: left)).length = (x :: left).length := List.length_map ..
        refine ⟨_, rfl, .inl ⟨rfl, _, SqL.of gf3⟩, ?_⟩
        refine ⟨_, rfl, .inl ⟨rfl, _, SqL.of gl1⟩, ?_⟩
        refine ⟨_, rfl, _, rfl, lf, _, rfl, .inl (SqL.of gl1), p, c, m + found.length, (ones (x :: left)).length, rfl, gp3, (by rw [lo]; exact l0), (by rw [lo]; omega), (by omega), fun d G2 hd gp4 b4 => ?_⟩
        rw [lo] at hd
        have gl4 := b4 _ _ nlp gl1
        have gf4 := b4 _ _ nfp gf3
        refine ⟨lf, _, (d : Int), d, V.str (S [(x :: left)[d]]), rfl, rfl, gl4, (by omega), (by omega), ?_, ?_, ?_⟩
        · rw [lo]
          unfold seqIndex?
          have c1 : ¬ ((d : Int) < 0) := by omega
          have c2 : (d : Int) < ((x :: left).length : Int) := by omega
          simp only [if_neg c1]
          rw [decide_eq_true (by omega : (0 : Int) ≤ (d : Int)), decide_eq_true c2]
          rfl
        · unfold ones
          rw [List.getElem?_map, List.getElem?_eq_getElem hd]
          rfl
        · refine ⟨ff, ones found, _, rfl, rfl, ?_, ?_, ?_⟩
          · rw [upd_ne n12.symm]
            exact gf4
          · unfold ones
            rw [List.length_map]
            exact len_lt (by omega)
          · have el : (ones (x :: left)).eraseIdx d = ones ((x :: left).eraseIdx d) := by
              unfold ones
              rw [List.eraseIdx_eq_take_drop_succ, List.eraseIdx_eq_take_drop_succ, List.map_append, List.map_take, List.map_drop]
            have ef : ones found ++ [V.str (S [(x :: left)[d]])] = ones (found ++ [(x :: left)[d]]) := by
              unfold ones
              rw [List.map_append]
              rfl
            have ll : ((x :: left).eraseIdx d).length = left.length := by
              rw [List.length_eraseIdx_of_lt hd]
              simp
            rw [el, ef]
            have g6 : (upd (upd G2 lf (.lst (ones ((x :: left).eraseIdx d)))) ff (.lst (ones (found ++ [(x :: left)[d]])))) lf = some (.lst (ones ((x :: left).eraseIdx d))) := by
              rw [upd_ne n12]
              exact upd_same
            have gp5 : PenAt G2 p c (m + (found ++ [(x :: left)[d]]).length) := by
              rw [List.length_append]
              exact gp4
            have b5 : But p H (upd (upd G2 lf (.lst (ones ((x :: left).eraseIdx d)))) ff (.lst (ones (found ++ [(x :: left)[d]])))) := ((b3.trans b4).fresh hlf).fresh hff0
            refine ⟨⟨(x :: left).eraseIdx d, found ++ [(x :: left)[d]], rfl, g6, upd_same, perm_pop d hd pm, ?_, b5⟩, ?_⟩
            · exact (gp5.fresh hp hlf).fresh hp hff0
            · have m1 : lenAt [some (.ref p), some (.ref l), some (.ref lf), some (.ref ff)] (upd (upd G2 lf (.lst (ones ((x :: left).eraseIdx d)))) ff (.lst (ones (found ++ [(x :: left)[d]])))) = left.length := by
                unfold lenAt
                simp only [List.getElem?_cons_succ, List.getElem?_cons_zero]
                rw [g6]
                show (ones ((x :: left).eraseIdx d)).length = left.length
                unfold ones
                rw [List.length_map, ll]
              have m2 : lenAt [some (.ref p), some (.ref l), some (.ref lf), some (.ref ff)] G = left.length + 1 := by
                unfold lenAt
                simp only [List.getElem?_cons_succ, List.getElem?_cons_zero]
                rw [gl]
                exact lo
              rw [m2]
              exact Nat.lt_of_le_of_lt (Nat.le_of_eq m1) (Nat.lt_succ_self _)
    · rintro σ G Q1 Q2 hq ⟨v, hv, hl, h⟩
      refine ⟨v, hv, hl, fun e he => ?_⟩
      obtain ⟨d1, d2, x1, x2, x3, x4, k, x5, x6⟩ := h e he
      exact ⟨d1, d2, x1, x2, x3, x4, k, x5, hq _ _ x6⟩
end
end TX
end
section
set_option maxRecDepth 100000
set_option maxHeartbeats 4000000
/-! the drawn table, pair by pair -/
namespace TX
open PySem PySem.Spec PyProof.Rows L2 SX CW
/-- the pair of a and b has had its turn ahead of (i, j) -/
def doneB (ks : List Nat) (i j a b : Nat) : Prop := ∃ i' j', i' < j' ∧ ks[i']? = some a ∧ ks[j']? = some b ∧ (i' < i ∨ (i' = i ∧ j' < j))
structure FlI (ks : List Nat) (i j : Nat) (X : Nat → Nat → Bool) : Prop where
  cr : Crossing X
  dn : ∀ a b, X a b = true → doneB ks i j a b ∨ doneB ks i j b a
theorem FlI.mono {ks : List Nat} {i j i2 j2 : Nat} {X : Nat → Nat → Bool} (h : FlI ks i j X) (l : ∀ i' j', i' < j' → j' < ks.length → (i' < i ∨ (i' = i ∧ j' < j)) → (i' < i2 ∨ (i' = i2 ∧ j' < j2))) : FlI ks i2 j2 X := by
  refine ⟨h.cr, fun a b x => ?_⟩
  have f : ∀ a b, doneB ks i j a b → doneB ks i2 j2 a b := fun a b ⟨i', j', h1, h2, h3, h4⟩ => ⟨i', j', h1, h2, h3, l i' j' h1 (List.getElem?_eq_some_iff.mp h3).1 h4⟩
  exact (h.dn a b x).imp (f a b) (f b a)
/-- the pair a b crosses, too -/
def addX (X : Nat → Nat → Bool) (a b : Nat) : Nat → Nat → Bool := fun x y => X x y || (x == a && y == b) || (x == b && y == a)
theorem idx_inj {ks : List Nat} (nd : ks.Nodup) {i j a : Nat} (h1 : ks[i]? = some a) (h2 : ks[j]? = some a) : i = j := by
  obtain ⟨l1, e1⟩ := List.getElem?_eq_some_iff.mp h1
  obtain ⟨l2, e2⟩ := List.getElem?_eq_some_iff.mp h2
  have pw := List.pairwise_iff_getElem.mp nd
  rcases Nat.lt_trichotomy i j with c | c | c
  · exact absurd (e1.trans e2.symm) (pw i j l1 l2 c)
  · exact c
  · exact absurd (e2.trans e1.symm) (pw j i l2 l1 c)
theorem FlI.add {ks : List Nat} (nd : ks.Nodup) {i j a b : Nat} {X : Nat → Nat → Bool} (h : FlI ks i j X) (hij : i < j) (ha : ks[i]? = some a) (hb : ks[j]? = some b) : FlI ks i (j + 1) (addX X a b) := by
  have nab : a ≠ b := fun e => by
    subst e
    exact absurd (idx_inj nd ha hb) (by omega)
  refine ⟨⟨fun x y => ?_, fun x => ?_⟩, fun x y e => ?_⟩
  · unfold addX
    rw [h.cr.sym x y]
    cases X y x <;> cases (x == a) <;> cases (y == b) <;> cases (x == b) <;> cases (y == a) <;> rfl
  · unfold addX
    rw [h.cr.irr]
    by_cases c : x = a
    · subst c
      simp [nab]
    · simp [c]
  · unfold addX at e
    rw [Bool.or_eq_true, Bool.or_eq_true, Bool.and_eq_true, Bool.and_eq_true, beq_iff_eq, beq_iff_eq, beq_iff_eq, beq_iff_eq] at e
    rcases e with (e | ⟨rfl, rfl⟩) | ⟨rfl, rfl⟩
    · have f : ∀ a b, doneB ks i j a b → doneB ks i (j + 1) a b := fun a b ⟨i', j', h1, h2, h3, h4⟩ => ⟨i', j', h1, h2, h3, by omega⟩
      exact (h.dn x y e).imp (f x y) (f y x)
    · exact .inl ⟨i, j, hij, ha, hb, .inr ⟨rfl, by omega⟩⟩
    · exact .inr ⟨i, j, hij, ha, hb, .inr ⟨rfl, by omega⟩⟩
theorem filter_snoc {ks : List Nat} {j b : Nat} {F F' : Nat → Bool} (nd : ks.Nodup) (hb : ks[j]? = some b) (h : ∀ x ∈ ks, F' x = (F x || x == b)) (h2 : ∀ l x, j ≤ l → ks[l]? = some x → F x = false) : ks.filter F' = ks.filter F ++ [b] := by
  obtain ⟨lj, ej⟩ := List.getElem?_eq_some_iff.mp hb
  have e : ks = ks.take j ++ b :: ks.drop (j + 1) := by
    rw [← ej, List.getElem_cons_drop, List.take_append_drop]
  have t1 : (ks.take j).filter F' = (ks.take j).filter F := List.filter_congr fun x hx => by
    rw [h x (List.mem_of_mem_take hx)]
    have : x ≠ b := fun z => by
      subst z
      obtain ⟨l, hl, el⟩ := List.getElem_of_mem hx
      rw [List.length_take] at hl
      rw [List.getElem_take] at el
      have z2 : ks[l]? = some x := List.getElem?_eq_some_iff.mpr ⟨by omega, el⟩
      have := idx_inj nd z2 hb
      omega
    simp [this]
  have dr : ∀ x ∈ ks.drop (j + 1), F x = false ∧ x ≠ b := fun x hx => by
    obtain ⟨l, hl, el⟩ := List.getElem_of_mem hx
    rw [List.length_drop] at hl
    rw [List.getElem_drop] at el
    have z2 : ks[j + 1 + l]? = some x := List.getElem?_eq_some_iff.mpr ⟨by omega, el⟩
    refine ⟨h2 _ _ (by omega) z2, fun z => ?_⟩
    subst z
    have := idx_inj nd z2 hb
    omega
  have t2 : (ks.drop (j + 1)).filter F' = [] := List.filter_eq_nil_iff.mpr fun x hx => by
    rw [h x (List.mem_of_mem_drop hx), (dr x hx).1]
    simp [(dr x hx).2]
  have t3 : (ks.drop (j + 1)).filter F = [] := List.filter_eq_nil_iff.mpr fun x hx => by
    rw [(dr x hx).1]
    simp
  have fb : F' b = true := by
    rw [h b (List.mem_of_getElem? hb)]
    simp
  have fb2 : F b = false := h2 j b (Nat.le_refl _) hb
  have c1 : (b :: ks.drop (j + 1)).filter F' = [b] := by
    rw [List.filter_cons_of_pos fb, t2]
  have c2 : (b :: ks.drop (j + 1)).filter F = [] := by
    rw [List.filter_cons_of_neg (by rw [fb2]; simp), t3]
  calc ks.filter F' = (ks.take j ++ b :: ks.drop (j + 1)).filter F' := by rw [← e]
    _ = (ks.take j).filter F ++ [b] := by rw [List.filter_append, t1, c1]
    _ = (ks.take j ++ b :: ks.drop (j + 1)).filter F ++ [b] := by rw [List.filter_append, c2, List.append_nil]
    _ = ks.filter F ++ [b] := by rw [← e]
theorem acr_far {ks : List Nat} (nd : ks.Nodup) {i j a b : Nat} {X : Nat → Nat → Bool} (h : FlI ks i j X) (hij : i < j) (ha : ks[i]? = some a) (hb : ks[j]? = some b) : acr ks (addX X a b) a = acr ks X a ++ [b] := by
  have nab : a ≠ b := fun e => by
    subst e
    exact absurd (idx_inj nd ha hb) (by omega)
  refine filter_snoc nd hb (fun x _ => ?_) fun l x hl hx => ?_
  · unfold addX
    simp [nab]
  · cases e : X a x with
    | false => rfl
    | true =>
      rcases h.dn a x e with ⟨i', j', h1, h2, h3, h4⟩ | ⟨i', j', h1, h2, h3, h4⟩
      · have := idx_inj nd h2 ha
        have := idx_inj nd h3 hx
        omega
      · have := idx_inj nd h3 ha
        have := idx_inj nd h2 hx
        omega
theorem acr_at {ks : List Nat} (nd : ks.Nodup) {i j a b : Nat} {X : Nat → Nat → Bool} (h : FlI ks i j X) (hij : i < j) (ha : ks[i]? = some a) (hb : ks[j]? = some b) : acr ks (addX X a b) b = acr ks X b ++ [a] := by
  have nab : b ≠ a := fun e => by
    subst e
    exact absurd (idx_inj nd ha hb) (by omega)
  refine filter_snoc nd ha (fun x _ => ?_) fun l x hl hx => ?_
  · have e1 : (b == a) = false := beq_eq_false_iff_ne.mpr nab
    show (X b x || (b == a && x == b) || (b == b && x == a)) = (X b x || x == a)
    rw [e1]
    simp
  · cases e : X b x with
    | false => rfl
    | true =>
      rcases h.dn b x e with ⟨i', j', h1, h2, h3, h4⟩ | ⟨i', j', h1, h2, h3, h4⟩
      · have := idx_inj nd h2 hb
        have := idx_inj nd h3 hx
        omega
      · have := idx_inj nd h3 hb
        have := idx_inj nd h2 hx
        omega
theorem acr_else {ks : List Nat} {a b k : Nat} {X : Nat → Nat → Bool} (h1 : k ≠ a) (h2 : k ≠ b) : acr ks (addX X a b) k = acr ks X k := by
  refine List.filter_congr fun x _ => ?_
  have e1 : (k == a) = false := beq_eq_false_iff_ne.mpr h1
  have e2 : (k == b) = false := beq_eq_false_iff_ne.mpr h2
  show (X k x || (k == a && x == b) || (k == b && x == a)) = X k x
  rw [e1, e2]
  simp
theorem put_kv {ks : List Nat} {f : Nat → List Nat} {a : Nat} {l : List Nat} (ha : a ∈ ks) : putK (kvK ks f) (Sum.inr (S [a])) (.str (S l)) = kvK ks (fun k => if k = a then l else f k) := by
  unfold putK
  have e : ((kvK ks f).any fun kv => decide (kv.1 = Sum.inr (S [a]))) = true := by
    rw [List.any_eq_true]
    exact ⟨(Sum.inr (S [a]), V.str (S (f a))), List.mem_map.mpr ⟨a, ha, rfl⟩, decide_eq_true rfl⟩
  rw [if_pos e]
  unfold kvK
  rw [List.map_map]
  refine List.map_congr_left fun k _ => ?_
  show (if (Sum.inr (S [k]) : Key) = Sum.inr (S [a]) then _ else _) = _
  by_cases c : k = a
  · subst c
    rw [if_pos rfl]
    simp
  · rw [if_neg fun z => c (sk_inj z)]
    simp [c]
theorem kv_add {ks : List Nat} (nd : ks.Nodup) {i j a b : Nat} {X : Nat → Nat → Bool} (h : FlI ks i j X) (hij : i < j) (ha : ks[i]? = some a) (hb : ks[j]? = some b) :
    kvK ks (fun k => if k = b then acr ks X b ++ [a] else if k = a then acr ks X a ++ [b] else acr ks X k) = kvK ks (acr ks (addX X a b)) := by
  refine List.map_congr_left fun k _ => ?_
  show (Sum.inr (S [k]), V.str (S (if k = b then _ else _))) = (Sum.inr (S [k]), V.str (S (acr ks (addX X a b) k)))
  by_cases c : k = b
  · rw [if_pos c, c, acr_at nd h hij ha hb]
  · rw [if_neg c]
    by_cases c2 : k = a
    · rw [if_pos c2, c2, acr_far nd h hij ha hb]
    · rw [if_neg c2, acr_else c2 c]
def zeroX : Nat → Nat → Bool := fun _ _ => false
theorem FlI.zero (ks : List Nat) : FlI ks 0 0 zeroX := ⟨⟨fun _ _ => rfl, fun _ => rfl⟩, fun _ _ e => by cases e⟩
theorem kv_zero (ks : List Nat) : kvK ks (acr ks zeroX) = kvK ks fun _ => [] := by
  refine List.map_congr_left fun k _ => ?_
  have : acr ks zeroX k = [] := List.filter_eq_nil_iff.mpr fun x _ => by simp [zeroX]
  rw [this]
end TX
end
section
set_option maxRecDepth 100000
set_option maxHeartbeats 8000000
/-! the drawn table -/
namespace TX
open PySem PySem.Spec PyProof.Rows L2 SX CW
/-- a table of kinds stands at t -/
structure TabAt (H : Hp) (t : Addr) (ks : List Nat) (X : Nat → Nat → Bool) : Prop where
  l0 : 0 < ks.length
  l8 : ks.length ≤ 8
  up : ks.Pairwise (· < ·)
  abc : ∀ k ∈ ks, 97 ≤ k ∧ k ≤ 122
  cr : Crossing X
  at_ : H t = some (.dK (kvK ks (acr ks X)))
def spFloor : Sp := fun vs H Q _ => ∃ (p c : Addr) (m n : Nat), vs = [.ref p, .int n] ∧ PenAt H p c m ∧ m ≤ 1000000 ∧ 0 < n ∧ n ≤ 8 ∧
  ∀ (t : Addr) (ks : List Nat) (X : Nat → Nat → Bool) (H' : Hp), ks.length ≤ n → (n ≤ 6 → ∀ k ∈ ks, k < 122) → (∀ k ∈ ks, k ≠ 113) → TabAt H' t ks X → PenAt H' p c (m + 200) → But p H H' → H t = none → Q (.ref t) H'
section
variable {P : Program} {w : World} {K : PySem.W.Frag} {mg : Str → Option Value} {base : Heap}
abbrev nFloor : List Str := ["_law_pen_here", "_law_number", "_law_letters", "_law_sort", "_law_table", "_law_item", "_law_at", "_law_far", "_law_is_side", "_law_is_drawn", "_law_is_often", "_law_peer"]
def eight1 : List Nat := [97, 98, 99, 100, 101, 102, 103, 104]
def eight2 : List Nat := [98, 100, 102, 104, 106, 108, 110, 112]
def eight3 : List Nat := [115, 116, 117, 118, 119, 120, 121, 122]
theorem eights {i : Nat} {x : V} (h : ([V.str "abcdefgh", V.str "bdfhjlnp", V.str "stuvwxyz"] : List V)[i]? = some x) : ∃ e : List Nat, x = .str (S e) ∧ e.length = 8 ∧ e.Pairwise (· < ·) ∧ (∀ k ∈ e, 97 ≤ k ∧ k ≤ 122) ∧ (∀ k ∈ e.take 6, k < 122) ∧ ∀ k ∈ e, k ≠ 113 := by
  have e1 : ("abcdefgh" : Str) = S eight1 := by decide +kernel
  have e2 : ("bdfhjlnp" : Str) = S eight2 := by decide +kernel
  have e3 : ("stuvwxyz" : Str) = S eight3 := by decide +kernel
  rw [e1, e2, e3] at h
  match i, h with
  | 0, h => exact ⟨eight1, (Option.some.inj h).symm, by decide, by decide, by decide, by decide, by decide⟩
  | 1, h => exact ⟨eight2, (Option.some.inj h).symm, by decide, by decide, by decide, by decide, by decide⟩
  | 2, h => exact ⟨eight3, (Option.some.inj h).symm, by decide, by decide, by decide, by decide, by decide⟩
  | n + 3, h => cases h
theorem rIx6 {K : PySem.W.Frag} {e : Addr} {sd : Nat} {b1 b2 b3 b4 b5 b6 : Bool} {G : Hp} {Q : VK} (h : sd < 6) (he : G e = some (.lst [.bl b1, .bl b2, .bl b3, .bl b4, .bl b5, .bl b6])) (q : ∀ b, Q (.bl b) G) : rIxL K (.ref e) (.int (sd : Int)) G Q := by
  have : ∃ b, ([.bl b1, .bl b2, .bl b3, .bl b4, .bl b5, .bl b6] : List V)[sd]? = some (.bl b) := by
    match sd, h with
    | 0, _ => exact ⟨_, rfl⟩
    | 1, _ => exact ⟨_, rfl⟩
    | 2, _ => exact ⟨_, rfl⟩
    | 3, _ => exact ⟨_, rfl⟩
    | 4, _ => exact ⟨_, rfl⟩
    | 5, _ => exact ⟨_, rfl⟩
    | n + 6, h => exact absurd h (by omega)
  obtain ⟨b, hb⟩ := this
  exact ⟨e, _, _, .bl b, rfl, rfl, SqL.of he, atI_nat hb, q b⟩
theorem get_kv {G : Hp} {t : Addr} {ks : List Nat} {f : Nat → List Nat} {k : Nat} (h : G t = some (.dK (kvK ks f))) (hk : k ∈ ks) : DGet G t (.str (S [k])) (some (.str (S (f k)))) := by
  have z := DGet.k (k := Sum.inr (S [k])) h
  rw [valV_kv hk] at z
  exact z
theorem get_kv2 {G : Hp} {t : Addr} {ks : List Nat} {f : Nat → List Nat} {a k : Nat} {l : List Nat} (h : G t = some (.dK (kvK ks fun k => if k = a then l else f k))) (hk : k ∈ ks) (ne : k ≠ a) : DGet G t (.str (S [k])) (some (.str (S (f k)))) := by
  have z := get_kv h hk
  rw [if_neg ne] at z
  exact z
theorem kv_len (ks : List Nat) (f : Nat → List Nat) : (kvK ks f).length = ks.length := List.length_map ..
end
end TX
end
section
set_option maxRecDepth 100000
set_option maxHeartbeats 8000000
/-! a plan is made: by two arguments, by one; the plan of a table -/
namespace TX
open PySem PySem.Spec PyProof.Rows L2 SX CW
section
variable {P : Program} {w : World} {K : PySem.W.Frag} {mg : Str → Option Value} {base : Heap} {C : Addr}
theorem ok_plan2 {f : Addr} {fd : FuncData} {d : V} (F : FunD K "__init__" "Plan.__init__" (defArgs s_Plan_init) (defBody s_Plan_init) (defScope s_Plan_init) [d] [] f fd) (M : Mk K C f) (gP : mg "Plan" = some (.ref C))
    (ok : FnOk P w K mg base C8.CX0 3 f fd ["self", "kinds", "crossing"] (spPlanInit K C)) : C8.Mak P w K mg base 3 "Plan" C (spPlanInit K C) [] := by
  obtain ⟨ds, vd, b⟩ := F.binds1 (ps := ["self", "kinds", "crossing"]) 3 1 (by simp) rfl (fun T kV doc pm an cdv ct us its hu hi => match us, hu, its, hi with | [_, _, _], _, [_], _ => ⟨_, rfl, rfl⟩)
  cases vd
  exact ⟨f, fd, _, [], M, ok, gP, b, .nil⟩
theorem ok_plan1 {f : Addr} {fd : FuncData} {d : V} (F : FunD K "__init__" "Plan.__init__" (defArgs s_Plan_init) (defBody s_Plan_init) (defScope s_Plan_init) [d] [] f fd) (M : Mk K C f) (gP : mg "Plan" = some (.ref C))
    (ok : FnOk P w K mg base C8.CX0 3 f fd ["self", "kinds", "crossing"] (spPlanInit K C)) : C8.Mak P w K mg base 3 "Plan" C (spPlanInit K C) [d] := by
  obtain ⟨ds, vd, b⟩ := F.binds1 (ps := ["self", "kinds", "crossing"]) 2 0 (by simp) rfl (fun T kV doc pm an cdv ct us its hu hi => match us, hu, its, hi with | [_, _], _, [_], _ => ⟨_, rfl, rfl⟩)
  exact ⟨f, fd, _, ds, M, ok, gP, b, vd⟩
end
/-- _law_made(pen, table) -/
def spMade (C : Addr) : Sp := fun vs H Q _ => ∃ (p c t : Addr) (m : Nat) (ks : List Nat) (X : Nat → Nat → Bool), vs = [.ref p, .ref t] ∧ PenAt H p c m ∧ m ≤ 900000 ∧ TabAt H t ks X ∧
  ∀ (r : Addr) (H' : Hp), PlanAt C H' r ks X → PenAt H' p c (m + 100) → But p H H' → Q (.ref r) H'
theorem TabAt.ne {H : Hp} {t p c : Addr} {m : Nat} {ks : List Nat} {X : Nat → Nat → Bool} (h : TabAt H t ks X) (hp : PenAt H p c m) : t ≠ p ∧ t ≠ c := by
  obtain ⟨pl, r, cs, h1, h2, _⟩ := hp.ex
  constructor
  · refine ne_of h.at_ h1 fun e => ?_
    have e2 := HO.dK.inj e
    have l0 := h.l0
    cases ks with
    | nil => exact absurd l0 (by simp)
    | cons k ks =>
      have e3 := (List.cons.inj e2).1
      have e4 : (Sum.inr (S [k]) : Key) = Sum.inr ("cells" : Str) := congrArg Prod.fst e3
      have e5 := congrArg Str.length (Sum.inr.inj e4)
      rw [S_len] at e5
      have e6 : ("cells" : Str).length = 5 := by decide +kernel
      rw [e6] at e5
      simp at e5
  · exact ne_of h.at_ h2 (by intro z; cases z)
theorem acr_lt {ks : List Nat} {X : Nat → Nat → Bool} (cr : Crossing X) {k : Nat} (hk : k ∈ ks) : (acr ks X k).length + 1 ≤ ks.length := by
  refine Nat.lt_of_le_of_ne (List.length_filter_le _ _) fun e => ?_
  have z : acr ks X k = ks := (List.filter_sublist).eq_of_length e
  have z2 : k ∈ acr ks X k := by rw [z]; exact hk
  have z3 := (List.mem_filter.mp z2).2
  rw [cr.irr] at z3
  cases z3
theorem kv_idx {ks : List Nat} {f : Nat → List Nat} {i : Nat} {k : Key} {v : V} (h : (kvK ks f)[i]? = some (k, v)) : ∃ a, ks[i]? = some a ∧ k = Sum.inr (S [a]) ∧ v = .str (S (f a)) := by
  unfold kvK at h
  rw [List.getElem?_map] at h
  cases e : ks[i]? with
  | none => rw [e] at h; cases h
  | some a =>
    rw [e] at h
    have z := Option.some.inj h
    exact ⟨a, rfl, (congrArg Prod.fst z).symm, (congrArg Prod.snd z).symm⟩
theorem get_frz {G : Hp} {t : Addr} {od : Obj} {ks : List Nat} {f : Nat → List Nat} {k : Nat} (h : G t = some (.frz od (.dK (kvK ks f)))) (hk : k ∈ ks) : DGet G t (.str (S [k])) (some (.str (S (f k)))) :=
  .inl ⟨kvK ks f, Sum.inr (S [k]), .inr ⟨od, h⟩, rfl, (valV_kv hk).symm⟩
/-- what stood but at p and t stands -/
def But2 (p t : Addr) (H H' : Hp) : Prop := ∀ b o, b ≠ p → b ≠ t → H b = some o → H' b = some o
theorem But2.step {p t : Addr} {H H1 H2 : Hp} (a : But2 p t H H1) (b : But p H1 H2) : But2 p t H H2 := fun c o n1 n2 e => b c o n1 (a c o n1 n2 e)
theorem But2.fresh {p t q : Addr} {H H' : Hp} {o : HO} (a : But2 p t H H') (hq : H q = none) : But2 p t H (upd H' q o) := fun c u n1 n2 h => by
  rw [upd_ne (ne_of_none h hq)]
  exact a c u n1 n2 h
/-- a new object and its dict -/
theorem same_born {G : Hp} {x dx : Addr} {u o : HO} (hx : G x = none) (hdx : G dx = none) : L2.Same G (upd (upd G dx u) x o) := fun b v e => by
  rw [upd_ne (ne_of_none e hx), upd_ne (ne_of_none e hdx)]
  exact e
theorem born_same {G H' : Hp} {x dx : Addr} {u o : HO} (hx : G x = none) (hdx : G dx = none) (b : But x (upd (upd G dx u) x o) H') : L2.Same G H' := fun c v e =>
  b c v (ne_of_none e hx) (same_born hx hdx c v e)
/-- the law's list of pairs -/
def PairsOk (ks : List Nat) (X : Nat → Nat → Bool) (es : List Str) : Prop := ∀ e ∈ es, ∃ a b, e = S [a, b] ∧ a ∈ ks ∧ b ∈ ks ∧ X a b = true
theorem PairsOk.snoc {ks : List Nat} {X : Nat → Nat → Bool} {es : List Str} {a b : Nat} (h : PairsOk ks X es) (ha : a ∈ ks) (hb : b ∈ ks) (hX : X a b = true) : PairsOk ks X (es ++ [S [a, b]]) := fun e he => by
  rcases List.mem_append.mp he with z | z
  · exact h e z
  · exact ⟨a, b, List.mem_singleton.mp z, ha, hb, hX⟩
theorem str_snoc (es : List Str) (x : Str) : es.map V.str ++ [V.str x] = (es ++ [x]).map V.str := by
  rw [List.map_append]
  rfl
section
variable {P : Program} {w : World} {K : PySem.W.Frag} {mg : Str → Option Value} {base : Heap} {C : Addr}
abbrev nMade : List Str := ["_law_pen_here", "_law_table", "_law_pairs", "_law_item", "_law_peer"]
end
end TX
end
section
set_option maxRecDepth 100000
set_option maxHeartbeats 4000000
/-! comparisons, sums, items, lengths by a class's own methods -/
namespace TX
open PySem PySem.Spec PyProof.Rows L2
theorem inst_of {X : Cx} {pins : List (Addr × Obj)} {σ : L2.St} {H : Hp} {s : Shared} {a C dx : Addr} {fs : List (Str × V)} (I : L2.Inv X pins σ H s) (h : H a = some (.ins C dx fs)) : ∃ od, PySem.W.InstAt s.heap a (PySem.W.instObj C dx) C (some od) := by
  have q := I.hok a _ h
  unfold ObjOk at q
  obtain ⟨_, _, _, h1, mA, ⟨o, es, ep, ho, rest⟩, _⟩ := q
  exact ⟨o, h1, rfl, rfl, ho⟩
theorem not_ni {v : V} {u : Value} {Q : Value → Shared → Prop} {s : Shared} (r : L2.RelV v u) (q : Q u s) : PySem.W.CmpBack Q u s := by
  cases v with
  | non => have e : u = .none := r; subst e; exact q
  | bl b => have e : u = .bool b := r; subst e; exact q
  | int i => obtain ⟨t, e⟩ := r; subst e; exact q
  | str x => obtain ⟨t, e⟩ := r; subst e; exact q
  | byt b => obtain ⟨t, e⟩ := r; subst e; exact q
  | flt b => obtain ⟨t, e⟩ := r; subst e; exact q
  | ref a => have e : u = .ref a := r; subst e; exact q
  | ty n => have e : u = .type n := r; subst e; exact q
/-- a method under its name, which lets nothing out -/
structure Dun (P : Program) (w : World) (K : PySem.W.Frag) (mg : Str → Option Value) (base : Heap) (k : Nat) (C : Addr) (nm : Str) (sp : Sp) : Prop where
  ex : ∃ f fd ps, FnOk P w K mg base C8.CX0 k f fd ps sp ∧ PySem.W.findIn K (.ref C) nm = some (some (.ref f)) ∧ PySem.W.isFn K (.ref f) = true ∧ L2.Binds K fd ps []
section
variable {X : Cx} {pins : List (Addr × Obj)} {σ : L2.St} {H : Hp} {s : Shared} {n : Nat} {A : Around} {f : Addr} {fd : FuncData} {ps : List Str} {sp : Sp} {Q : VK} {E' : Value → Shared → Prop} {us : List Value} {vs : List V}
theorem run_sub (hA : L2.Sub X n A) (F : FnOk X.prog X.w X.K X.mg X.base C8.CX0 n f fd ps sp) (b : L2.Binds X.K fd ps []) (I : L2.Inv X pins σ H s) (r : Vals vs us) (h : sp vs H Q C8.E0) : wpAny (model X.prog X.w) A (call (.ref f) us) (EP X pins σ Q) E' s := by
  refine PySem.wpAny_call ?_
  have e0 := I.env0
  have e1 : Env0 X.prog X.w X.K X.mg X.base A X.stack s H := ⟨by rw [hA.fr]; exact e0.frames, e0.mod, e0.bs, e0.bsz, e0.funs, e0.frf, e0.hok, e0.bare⟩
  have len : us.length = ps.length := by
    rw [← F.len _ _ _ _ h]
    have gen : ∀ {vs : List V} {us : List Value}, Vals vs us → us.length = vs.length := by
      intro vs us r
      induction r with
      | nil => rfl
      | cons _ _ ih => rw [List.length_cons, List.length_cons, ih]
    exact gen r
  have b1 : BindsTo s fd { pos := us } (List.zip ps us) := by
    have z := b s us I.kIn (by rw [List.append_nil]; exact len)
    rw [List.append_nil] at z
    exact z
  refine codeAny_mono (F.run A X.stack s H { pos := us } us vs Q C8.E0 hA.room e1 b1 r h) fun r s' q => ?_
  cases r with
  | ok fl =>
    cases fl with
    | ret u => exact I.after q
    | _ => exact False.elim q
  | error e => exact False.elim q
end
theorem sub_self {X : Cx} {n : Nat} (hr : Room n X.A) : L2.Sub X n X.A := ⟨hr, rfl⟩
section
variable {X : Cx} {k : Nat} {C : Addr} {sp : Sp}
/-- a < b and the like, two instances of one own class -/
theorem op_cmpOwn {op : CmpOp} (hop : ∀ a b, compareOp op a b = richCompare op a b) (D : Dun X.prog X.w X.K X.mg X.base k C (cmpInfo op).2.1 sp) (hr : Room k X.A) :
    OpR X (compareOp op) (fun x y H Q => ∃ a dx fs b dy gs, x = .ref a ∧ y = .ref b ∧ H a = some (.ins C dx fs) ∧ H b = some (.ins C dy gs) ∧ sp [x, y] H Q C8.E0) := by
  intro pins s σ H x y v u Q I rx ry h
  obtain ⟨a, dx, fs, b, dy, gs, rfl, rfl, ha, hb, h⟩ := h
  obtain ⟨f, fd, ps, F, hs, hf, bi⟩ := D.ex
  have ev : v = .ref a := rx
  have eu : u = .ref b := ry
  subst ev
  subst eu
  obtain ⟨oa, ia⟩ := inst_of I ha
  obtain ⟨ob, ib⟩ := inst_of I hb
  obtain ⟨m, fr⟩ := I.fr
  rw [hop]
  refine PySem.W.cmp_K (by have := hr.un; omega) fr I.ok.mod.kin ia ib.type (by unfold PySem.W.notFirst; simp) hs hf ?_
  exact thn (run_sub (sub_self hr) F bi I (.cons rx (.cons ry .nil)) h) fun u s' ⟨v, H', I', r, q⟩ => not_ni r ⟨v, H', I', r, q⟩
/-- a + b, a * b, two instances of one own class -/
theorem op_binOwn {op : Operator} (D : Dun X.prog X.w X.K X.mg X.base k C (dunder op.info.2) sp) (sf : PySem.W.selfFirst X.K C = true) (hr : Room k X.A) :
    OpR X (binaryOp op) (fun x y H Q => ∃ a dx fs b dy gs, x = .ref a ∧ y = .ref b ∧ H a = some (.ins C dx fs) ∧ H b = some (.ins C dy gs) ∧ sp [x, y] H Q C8.E0) := by
  intro pins s σ H x y v u Q I rx ry h
  obtain ⟨a, dx, fs, b, dy, gs, rfl, rfl, ha, hb, h⟩ := h
  obtain ⟨f, fd, ps, F, hs, hf, bi⟩ := D.ex
  have ev : v = .ref a := rx
  have eu : u = .ref b := ry
  subst ev
  subst eu
  obtain ⟨oa, ia⟩ := inst_of I ha
  obtain ⟨ob, ib⟩ := inst_of I hb
  obtain ⟨m, fr⟩ := I.fr
  refine PySem.W.binop_K fr I.ok.mod.kin ia ib.type sf hs hf ?_
  exact thn (run_sub (sub_self hr) F bi I (.cons rx (.cons ry .nil)) h) fun u s' ⟨v, H', I', r, q⟩ => not_ni r ⟨v, H', I', r, q⟩
/-- a + text, a * number: an instance and a value of a built-in class -/
theorem op_binOwnT {op : Operator} {T : String} (D : Dun X.prog X.w X.K X.mg X.base k C (dunder op.info.2) sp) (sf : PySem.W.selfFirst X.K C = true) {rc fo ro : Option Value}
    (h1 : PySem.W.findIn X.K (.ref C) (dunderR op.info.2) = some rc) (h2 : rc = none ∨ ∃ g, rc = some (.ref g)) (h3 : PySem.W.findIn X.K (.type T) (dunder op.info.2) = some fo) (h4 : PySem.W.findIn X.K (.type T) (dunderR op.info.2) = some ro)
    (h5 : PySem.W.subIn X.K (.type T) (.ref C) = some false) (hr : Room k X.A) :
    OpR X (binaryOp op) (fun x y H Q => ∃ a dx fs, x = .ref a ∧ H a = some (.ins C dx fs) ∧ (∀ u, L2.RelV y u → typeOf u = pure (.type T)) ∧ sp [x, y] H Q C8.E0) := by
  intro pins s σ H x y v u Q I rx ry h
  obtain ⟨a, dx, fs, rfl, ha, ty, h⟩ := h
  obtain ⟨f, fd, ps, F, hs, hf, bi⟩ := D.ex
  have ev : v = .ref a := rx
  subst ev
  obtain ⟨oa, ia⟩ := inst_of I ha
  obtain ⟨m, fr⟩ := I.fr
  refine PySem.W.ksp_binT fr I.ok.mod.kin ia (ty u ry) sf hs hf h1 h2 h3 h4 h5 ?_
  exact thn (run_sub (sub_self hr) F bi I (.cons rx (.cons ry .nil)) h) fun u s' ⟨v, H', I', r, q⟩ => not_ni r ⟨v, H', I', r, q⟩
/-- len(a) -/
theorem call_lenOwn (D : Dun X.prog X.w X.K X.mg X.base k C "__len__" sp) (hr : Room (k + 1) X.A) :
    CallR X (.builtin "len") (fun xs H Q => ∃ a dx fs, xs = [.ref a] ∧ H a = some (.ins C dx fs) ∧ sp [.ref a] H (fun v H' => ∃ i : Int, v = .int i ∧ 0 ≤ i ∧ i < 2 ^ 63 ∧ Q v H') C8.E0) := by
  intro pins s σ H xs us Q I rx h
  obtain ⟨a, dx, fs, rfl, ha, h⟩ := h
  obtain ⟨f, fd, ps, F, hs, hf, bi⟩ := D.ex
  obtain ⟨oa, ia⟩ := inst_of I ha
  obtain ⟨m, fr⟩ := I.fr
  match us, rx with
  | [u], .cons r .nil =>
    have eu : u = .ref a := r
    subst eu
    refine PySem.W.len_K fr I.ok.mod.kin ia hs hf ?_
    refine thn (run_sub (L2.Sub.in1 (sub_self hr)) F bi I (.cons r .nil) h) fun u s' ⟨v, H', I', r, q⟩ => ?_
    obtain ⟨i, rfl, i0, i1, q⟩ := q
    obtain ⟨t, e⟩ := r
    subst e
    exact ⟨⟨i0, i1⟩, .int i, H', I'.tok _, ⟨_, rfl⟩, q⟩
end
end TX
end
section
set_option maxRecDepth 100000
set_option maxHeartbeats 4000000
/-! a != b by an own __eq__ alone; a[k] by an own method -/
namespace TX
open PySem PySem.Spec PyProof.Rows L2
def strKeysB (es : Array DictEntry) : Bool := es.toList.all fun e => match e.key with | .str _ _ => true | _ => false
/-- does the class C stand just over object, with __eq__ the def f, and no __ne__? -/
def neB (K : PySem.W.Frag) (C f : Addr) : Bool := match K.lookup C with
  | some ⟨.type t, _, .cls cd, sl⟩ => decide (t = "type") && (cd.mro == [.ref C, .type "object"]) && !cd.hasDel && (match sl.toList with | [_, _, _, _, some (.builtin _), _] => true | _ => false) &&
      (match K.lookup cd.ns with
        | some ⟨_, _, .dict es _, _⟩ => strKeysB es && (nsFind es "__eq__" == some (.ref f)) && (nsFind es "__ne__" == none)
        | _ => false)
  | _ => false
theorem strKeysB_ok {es : Array DictEntry} (h : strKeysB es = true) : StrKeys es := fun e he => by
  have z := List.all_eq_true.mp h e (by simpa using he)
  revert z
  cases e.key with
  | str n t => exact fun _ => ⟨n, t, rfl⟩
  | _ => exact fun z => by cases z
theorem ownEq_of {K : PySem.W.Frag} {C f : Addr} (c : neB K C f = true) (hf : PySem.W.isFn K (.ref f) = true) {h : Heap} (X : K.In h) {x : Addr} {o : Obj} (hx : h.get? x = some o) (hc : o.cls = .ref C) : h.OwnEqNoNe x C f "object" [.type "object"] := by
  unfold neB at c
  split at c
  · rename_i t dd cd sl e
    simp only [Bool.and_eq_true, decide_eq_true_eq] at c
    obtain ⟨⟨⟨⟨h1, h2⟩, h3⟩, h4⟩, h5⟩ := c
    subst h1
    split at h4
    · rename_i k0 k1 k2 k3 nid k5 es
      split at h5
      · rename_i c2 d2 en ep sl2 e2
        simp only [Bool.and_eq_true] at h5
        obtain ⟨⟨g1, g2⟩, g3⟩ := h5
        have z1 := X _ _ e
        have z2 := X _ _ e2
        have esl : sl = #[k0, k1, k2, k3, some (.builtin nid), k5] := by
          apply Array.toList_inj.mp
          exact es
        subst esl
        obtain ⟨nm, bs, mr, nsA, qn, hdct, sn, sub, ab, col, hd⟩ := cd
        have em : mr = [.ref C, .type "object"] := by simpa using h2
        have eh : hd = false := by simpa using h3
        subst em
        subst eh
        have g2' : nsFind en "__eq__" = some (.ref f) := by simpa using g2
        have g3' : nsFind en "__ne__" = none := by simpa using g3
        have hfn : ∃ of, h.get? f = some of ∧ of.cls = .type "function" := by
          unfold PySem.W.isFn at hf
          have hf2 : PySem.W.typeIn K (.ref f) = some (.type "function") := by simpa using hf
          have hf3 : (K.lookup f).map Obj.cls = some (.type "function") := hf2
          cases z : K.lookup f with
          | none => rw [z] at hf3; cases hf3
          | some of =>
            rw [z] at hf3
            exact ⟨of, X _ _ z, Option.some.inj hf3⟩
        obtain ⟨of, of1, of2⟩ := hfn
        exact ⟨o, of, nm, qn, nsA, bs, hdct, sn, sub, ab, col, dd, k0, k1, k2, k3, k5, nid, nsFind en, _, hx, hc, z1, ⟨_, en, ep, z2, rfl, strKeysB_ok g1, fun _ => rfl⟩, g2', of1, of2, PySem.F.cmp_object.mro, PySem.F.cmp_object.eq.lookup, g3'⟩
      · cases h5
    · cases h4
  · cases c
section
variable {X : Cx} {k : Nat} {C : Addr} {sp : Sp}
/-- a != b, two instances of one own class that has an __eq__ and no __ne__ -/
theorem op_neOwn {f : Addr} {fd : FuncData} {ps : List Str} (F : FnOk X.prog X.w X.K X.mg X.base C8.CX0 k f fd ps sp) (hf : PySem.W.isFn X.K (.ref f) = true) (bi : L2.Binds X.K fd ps []) (ne : neB X.K C f = true) (hr : Room (k + 1) X.A) :
    OpR X (compareOp .NotEq) (fun x y H Q => ∃ a dx fs b dy gs, x = .ref a ∧ y = .ref b ∧ H a = some (.ins C dx fs) ∧ H b = some (.ins C dy gs) ∧ sp [x, y] H (fun v H' => ∃ z, v = .bl z ∧ Q (.bl !z) H') C8.E0) := by
  intro pins s σ H x y v u Q I rx ry h
  obtain ⟨a, dx, fs, b, dy, gs, rfl, rfl, ha, hb, h⟩ := h
  have ev : v = .ref a := rx
  have eu : u = .ref b := ry
  subst ev
  subst eu
  obtain ⟨oa, ia⟩ := inst_of I ha
  obtain ⟨ob, ib⟩ := inst_of I hb
  refine PySem.W.cmp_ofNotEq ?_
  refine PySem.richCompare_ne_ownEq PySem.F.cmp_object (ownEq_of ne hf I.kIn ia.at_ ia.cls) ib.at_ ib.cls (by have := hr.un; omega) ?_
  refine thn (run_sub (L2.Sub.in1 (sub_self hr)) F bi I (.cons rx (.cons ry .nil)) h) fun u s' ⟨v, H', I', r, q⟩ => ?_
  obtain ⟨z, rfl, q⟩ := q
  have e : u = .bool z := r
  subst e
  exact ⟨z, rfl, .bl !z, H', I', rfl, q⟩
end
end TX
end
section
set_option maxRecDepth 100000
set_option maxHeartbeats 4000000
/-! pairs of a number and a text, compared -/
namespace TX
open PySem PySem.Spec PyProof.Rows L2
abbrev sLt (x y : Str) : Bool := decide (x.cps.toList < y.cps.toList)
theorem rc_lt (A : Around) (s : Shared) (x y : Str) (t u : Tok) : Ob.RcOp .Lt A s (.str x t) (.str y u) (sLt x y) := fun _ _ _ _ q =>
  richCompare_gives (typeIs_str _ _ _) (typeIs_str _ _ _) PySem.F.slot_str_lt PySem.F.entry_str_lt (PySem.F.args_str_lt_2 _ _) (gives_str_lt x y t u) (by intro z; cases z) q
theorem rc_le (A : Around) (s : Shared) (x y : Str) (t u : Tok) : Ob.RcOp .LtE A s (.str x t) (.str y u) (!sLt y x) := fun _ _ _ _ q =>
  richCompare_gives (typeIs_str _ _ _) (typeIs_str _ _ _) PySem.F.slot_str_le PySem.F.entry_str_le (PySem.F.args_str_le_2 _ _) (gives_str_le x y t u) (by intro z; cases z) q
theorem rc_gt (A : Around) (s : Shared) (x y : Str) (t u : Tok) : Ob.RcOp .Gt A s (.str x t) (.str y u) (sLt y x) := fun _ _ _ _ q =>
  richCompare_gives (typeIs_str _ _ _) (typeIs_str _ _ _) PySem.F.slot_str_gt PySem.F.entry_str_gt (PySem.F.args_str_gt_2 _ _) (gives_str_gt x y t u) (by intro z; cases z) q
theorem rc_ge (A : Around) (s : Shared) (x y : Str) (t u : Tok) : Ob.RcOp .GtE A s (.str x t) (.str y u) (!sLt x y) := fun _ _ _ _ q =>
  richCompare_gives (typeIs_str _ _ _) (typeIs_str _ _ _) PySem.F.slot_str_ge PySem.F.entry_str_ge (PySem.F.args_str_ge_2 _ _) (gives_str_ge x y t u) (by intro z; cases z) q
/-- what a comparison of two such pairs gives -/
def cmpIS (rI : Int → Int → Bool) (rS : Str → Str → Bool) (z : Bool) (i j : Int) (p q : Str) : Bool := if (i == j) = true then (if (p == q) = true then z else rS p q) else rI i j
theorem op_tupIS {X : Cx} {op : CmpOp} {rI : Int → Int → Bool} {rS : Str → Str → Bool} {z : Bool} (hop : ∀ a b, compareOp op a b = richCompare op a b)
    (hI : ∀ (A : Around) (s : Shared) (a b : Int) (t u : Tok), Ob.RcOp op A s (.int a t) (.int b u) (rI a b)) (hS : ∀ (A : Around) (s : Shared) (x y : Str) (t u : Tok), Ob.RcOp op A s (.str x t) (.str y u) (rS x y))
    (hT : ∀ (A : Around) (s : Shared) (l b : Addr) (v1 v2 w1 w2 : Value) (e0 e1 r0 r1 : Bool), s.heap.IsTuple l #[v1, v2] → s.heap.IsTuple b #[w1, w2] → A.units < cLine → SeqAt.EqAt A.in1 s v1 w1 e0 → SeqAt.EqAt A.in1 s v2 w2 e1 →
      Ob.RcOp op A.in1 s v1 w1 r0 → Ob.RcOp op A.in1 s v2 w2 r1 → Ob.RcOp op A s (.ref l) (.ref b) (if e0 = true then (if e1 = true then z else r1) else r0)) (hu : X.A.units < cLine) :
    OpR X (compareOp op) (fun x y H Q => ∃ a b i j p q, x = .ref a ∧ y = .ref b ∧ SqT X.K H a [.int i, .str p] ∧ SqT X.K H b [.int j, .str q] ∧ Q (.bl (cmpIS rI rS z i j p q)) H) := by
  intro pins s σ H x y v u Q I rx ry h
  obtain ⟨a, b, i, j, p, q, rfl, rfl, h1, h2, h⟩ := h
  have ev : v = .ref a := rx
  have eu : u = .ref b := ry
  subst ev
  subst eu
  rw [hop]
  obtain ⟨its, vi, ti, _⟩ := I.tuple h1
  obtain ⟨jts, vj, tj, _⟩ := I.tuple h2
  have two : ∀ {i : Int} {p : Str} {its : List Value}, Vals [.int i, .str p] its → ∃ t1 t2, its = [.int i t1, .str p t2] := by
    intro i p its r
    cases r with
    | cons r1 r =>
      cases r with
      | cons r2 r =>
        cases r
        obtain ⟨t1, e1⟩ := r1
        obtain ⟨t2, e2⟩ := r2
        exact ⟨t1, t2, by rw [e1, e2]⟩
  obtain ⟨t1, t2, rfl⟩ := two vi
  obtain ⟨t3, t4, rfl⟩ := two vj
  have e := hT X.A s a b _ _ _ _ _ _ _ _ ti tj hu (SeqAt.EqAt.int_int i t1 j t3) (SeqAt.EqAt.str_str p t2 q t4) (hI X.A.in1 s i j t1 t3) (hS X.A.in1 s p q t2 t4)
  have k : EP X pins σ Q (.bool (cmpIS rI rS z i j p q)) s := ⟨.bl (cmpIS rI rS z i j p q), H, I, rfl, h⟩
  exact e _ _ _ _ k
theorem two_all {v1 v2 w1 w2 : Value} {P : Value → Value → Nat → Prop} (h0 : P v1 w1 0) (h1 : P v2 w2 1) : ∀ (j : Nat) (a : j < (#[v1, v2] : Array Value).size) (b : j < (#[w1, w2] : Array Value).size), P (#[v1, v2] : Array Value)[j] (#[w1, w2] : Array Value)[j] j := by
  intro j a b
  match j, a, b with
  | 0, _, _ => exact h0
  | 1, _, _ => exact h1
  | n + 2, a, _ => exact absurd a (by simp)
def pick2 (a b : Bool) : Nat → Bool := fun k => if k = 0 then a else b
theorem lex2 (e0 e1 r0 r1 z : Bool) : Ob.lexAt (pick2 e0 e1) (pick2 r0 r1) z 0 2 = (if e0 = true then (if e1 = true then z else r1) else r0) := by
  rw [Ob.lexAt_succ, Ob.lexAt_succ, Ob.lexAt_zero]
  rfl
theorem tup_lt (A : Around) (s : Shared) (l b : Addr) (v1 v2 w1 w2 : Value) (e0 e1 r0 r1 : Bool) (h1 : s.heap.IsTuple l #[v1, v2]) (h2 : s.heap.IsTuple b #[w1, w2]) (hu : A.units < cLine) (q0 : SeqAt.EqAt A.in1 s v1 w1 e0) (q1 : SeqAt.EqAt A.in1 s v2 w2 e1) (c0 : Ob.RcOp .Lt A.in1 s v1 w1 r0) (c1 : Ob.RcOp .Lt A.in1 s v2 w2 r1) :
    Ob.RcOp .Lt A s (.ref l) (.ref b) (if e0 = true then (if e1 = true then false else r1) else r0) := by
  have e := Ob.RcOp.tuples_lt (e := pick2 e0 e1) (r := pick2 r0 r1) h1 h2 hu (two_all (P := fun v w k => SeqAt.EqAt A.in1 s v w (pick2 e0 e1 k)) q0 q1) (fun j a b _ => two_all (P := fun v w k => Ob.RcOp .Lt A.in1 s v w (pick2 r0 r1 k)) c0 c1 j a b)
  have m : min (#[v1, v2] : Array Value).size (#[w1, w2] : Array Value).size = 2 := rfl
  have d : decide ((#[v1, v2] : Array Value).size < (#[w1, w2] : Array Value).size) = false := rfl
  rw [m, d, lex2] at e
  exact e
theorem op_ltIS {X : Cx} (hu : X.A.units < cLine) : OpR X (compareOp .Lt) (fun x y H Q => ∃ a b i j p q, x = .ref a ∧ y = .ref b ∧ SqT X.K H a [.int i, .str p] ∧ SqT X.K H b [.int j, .str q] ∧ Q (.bl (cmpIS (fun i j => decide (i < j)) (sLt) false i j p q)) H) :=
  op_tupIS (fun _ _ => rfl) (fun _ _ a b t u => Ob.RcOp.lt_int a b t u) (fun A s x y t u => rc_lt A s x y t u) tup_lt hu
theorem tup_le (A : Around) (s : Shared) (l b : Addr) (v1 v2 w1 w2 : Value) (e0 e1 r0 r1 : Bool) (h1 : s.heap.IsTuple l #[v1, v2]) (h2 : s.heap.IsTuple b #[w1, w2]) (hu : A.units < cLine) (q0 : SeqAt.EqAt A.in1 s v1 w1 e0) (q1 : SeqAt.EqAt A.in1 s v2 w2 e1) (c0 : Ob.RcOp .LtE A.in1 s v1 w1 r0) (c1 : Ob.RcOp .LtE A.in1 s v2 w2 r1) :
    Ob.RcOp .LtE A s (.ref l) (.ref b) (if e0 = true then (if e1 = true then true else r1) else r0) := by
  have e := Ob.RcOp.tuples_le (e := pick2 e0 e1) (r := pick2 r0 r1) h1 h2 hu (two_all (P := fun v w k => SeqAt.EqAt A.in1 s v w (pick2 e0 e1 k)) q0 q1) (fun j a b _ => two_all (P := fun v w k => Ob.RcOp .LtE A.in1 s v w (pick2 r0 r1 k)) c0 c1 j a b)
  have m : min (#[v1, v2] : Array Value).size (#[w1, w2] : Array Value).size = 2 := rfl
  have d : decide ((#[v1, v2] : Array Value).size ≤ (#[w1, w2] : Array Value).size) = true := rfl
  rw [m, d, lex2] at e
  exact e
theorem op_leIS {X : Cx} (hu : X.A.units < cLine) : OpR X (compareOp .LtE) (fun x y H Q => ∃ a b i j p q, x = .ref a ∧ y = .ref b ∧ SqT X.K H a [.int i, .str p] ∧ SqT X.K H b [.int j, .str q] ∧ Q (.bl (cmpIS (fun i j => decide (i ≤ j)) (fun x y => !sLt y x) true i j p q)) H) :=
  op_tupIS (fun _ _ => rfl) (fun _ _ a b t u => Ob.RcOp.le_int a b t u) (fun A s x y t u => rc_le A s x y t u) tup_le hu
theorem tup_gt (A : Around) (s : Shared) (l b : Addr) (v1 v2 w1 w2 : Value) (e0 e1 r0 r1 : Bool) (h1 : s.heap.IsTuple l #[v1, v2]) (h2 : s.heap.IsTuple b #[w1, w2]) (hu : A.units < cLine) (q0 : SeqAt.EqAt A.in1 s v1 w1 e0) (q1 : SeqAt.EqAt A.in1 s v2 w2 e1) (c0 : Ob.RcOp .Gt A.in1 s v1 w1 r0) (c1 : Ob.RcOp .Gt A.in1 s v2 w2 r1) :
    Ob.RcOp .Gt A s (.ref l) (.ref b) (if e0 = true then (if e1 = true then false else r1) else r0) := by
  have e := Ob.RcOp.tuples_gt (e := pick2 e0 e1) (r := pick2 r0 r1) h1 h2 hu (two_all (P := fun v w k => SeqAt.EqAt A.in1 s v w (pick2 e0 e1 k)) q0 q1) (fun j a b _ => two_all (P := fun v w k => Ob.RcOp .Gt A.in1 s v w (pick2 r0 r1 k)) c0 c1 j a b)
  have m : min (#[v1, v2] : Array Value).size (#[w1, w2] : Array Value).size = 2 := rfl
  have d : decide ((#[v1, v2] : Array Value).size > (#[w1, w2] : Array Value).size) = false := rfl
  rw [m, d, lex2] at e
  exact e
theorem op_gtIS {X : Cx} (hu : X.A.units < cLine) : OpR X (compareOp .Gt) (fun x y H Q => ∃ a b i j p q, x = .ref a ∧ y = .ref b ∧ SqT X.K H a [.int i, .str p] ∧ SqT X.K H b [.int j, .str q] ∧ Q (.bl (cmpIS (fun i j => decide (j < i)) (fun x y => sLt y x) false i j p q)) H) :=
  op_tupIS (fun _ _ => rfl) (fun _ _ a b t u => Ob.RcOp.gt_int a b t u) (fun A s x y t u => rc_gt A s x y t u) tup_gt hu
theorem tup_ge (A : Around) (s : Shared) (l b : Addr) (v1 v2 w1 w2 : Value) (e0 e1 r0 r1 : Bool) (h1 : s.heap.IsTuple l #[v1, v2]) (h2 : s.heap.IsTuple b #[w1, w2]) (hu : A.units < cLine) (q0 : SeqAt.EqAt A.in1 s v1 w1 e0) (q1 : SeqAt.EqAt A.in1 s v2 w2 e1) (c0 : Ob.RcOp .GtE A.in1 s v1 w1 r0) (c1 : Ob.RcOp .GtE A.in1 s v2 w2 r1) :
    Ob.RcOp .GtE A s (.ref l) (.ref b) (if e0 = true then (if e1 = true then true else r1) else r0) := by
  have e := Ob.RcOp.tuples_ge (e := pick2 e0 e1) (r := pick2 r0 r1) h1 h2 hu (two_all (P := fun v w k => SeqAt.EqAt A.in1 s v w (pick2 e0 e1 k)) q0 q1) (fun j a b _ => two_all (P := fun v w k => Ob.RcOp .GtE A.in1 s v w (pick2 r0 r1 k)) c0 c1 j a b)
  have m : min (#[v1, v2] : Array Value).size (#[w1, w2] : Array Value).size = 2 := rfl
  have d : decide ((#[v1, v2] : Array Value).size ≥ (#[w1, w2] : Array Value).size) = true := rfl
  rw [m, d, lex2] at e
  exact e
theorem op_geIS {X : Cx} (hu : X.A.units < cLine) : OpR X (compareOp .GtE) (fun x y H Q => ∃ a b i j p q, x = .ref a ∧ y = .ref b ∧ SqT X.K H a [.int i, .str p] ∧ SqT X.K H b [.int j, .str q] ∧ Q (.bl (cmpIS (fun i j => decide (j ≤ i)) (fun x y => !sLt x y) true i j p q)) H) :=
  op_tupIS (fun _ _ => rfl) (fun _ _ a b t u => Ob.RcOp.ge_int a b t u) (fun A s x y t u => rc_ge A s x y t u) tup_ge hu
end TX
end
section
set_option maxRecDepth 100000
set_option maxHeartbeats 4000000
/-! plans and rooms compared, put together -/
namespace TX
open PySem PySem.Spec PyProof.Rows L2 SX CW
structure RoomAt (C CR : Addr) (H : Hp) (a p : Addr) (ks : List Nat) (X : Nat → Nat → Bool) (n : List Nat) : Prop where
  pl : PlanAt C H p ks X
  ex : ∃ dx, H a = some (.ins CR dx (rflds p n))
def spPlanEq (C : Addr) : Sp := fun vs H Q _ => ∃ (p q : Addr) (ks : List Nat) (X : Nat → Nat → Bool), vs = [.ref p, .ref q] ∧ PlanAt C H p ks X ∧ PlanAt C H q ks X ∧ Q (.bl true) H
theorem sh_pairs (ks : List Nat) (X : Nat → Nat → Bool) (h : ∀ k ∈ ks, 97 ≤ k ∧ k ≤ 122) : PySem.SeqAt.shaped (.tuple ((prs ks X).map PyData.str)) = true ∧ PyData.canLay0 (.tuple ((prs ks X).map PyData.str)) = true := by
  have a := sh_flat ((prs ks X).map PyData.str) fun d hd => by
    obtain ⟨x, hx, rfl⟩ := List.mem_map.mp hd
    refine ⟨?_, by show (0 : Nat) ≤ 60; omega⟩
    unfold prs at hx
    obtain ⟨a, ha, hx⟩ := List.mem_flatMap.mp hx
    obtain ⟨b, hb, rfl⟩ := List.mem_map.mp hx
    have h1 := h a ha
    have h2 := h b (List.mem_filter.mp hb).1
    show ([a, b].toArray.all fun x => decide (x < 1114112)) = true
    simp
    omega
  have b : PySem.SeqAt.shaped (.tuple ((prs ks X).map PyData.str)) = true := a
  refine ⟨b, ?_⟩
  unfold PySem.SeqAt.shaped at b
  rw [Bool.and_eq_true] at b
  exact b.1
section
variable {P : Program} {w : World} {K : PySem.W.Frag} {mg : Str → Option Value} {base : Heap} {C CR : Addr}
theorem sc_planeq : FnScope ["self", "other"] ["self", "other"] (defScope s_Plan_eq) := ⟨rfl, rfl, rfl, by decide +kernel, rfl, by decide +kernel, by decide +kernel⟩
theorem ok_planeq {f : Addr} {fd : FuncData} (F : FunD K "__eq__" "Plan.__eq__" (defArgs s_Plan_eq) (defBody s_Plan_eq) (defScope s_Plan_eq) [] [] f fd) (T : PlanT K C) (nI : C8.InsC K C) (zi : mg "isinstance" = none) (gP : mg "Plan" = some (.ref C)) :
    FnOk P w K mg base C8.CX0 1 f fd ["self", "other"] (spPlanEq C) := by
  refine F.ok sc_planeq (fun vs H Q E h => ?_) (fun cdv A outer s H vs Q E hr h => ?_)
  · obtain ⟨p, q, ks, X, rfl, _⟩ := h
    rfl
  · obtain ⟨p, q, ks, X, rfl, hp, hq, k⟩ := h
    refine ⟨_, PSs.nox (pss_one (ps_ret (pe_and (pe_callB call_isi (by rfl) zi PyProof.Rows.boot_isinstance (pa_cons (pv 1) (pa_cons (C8.pe_gc (v := .ref C) (by rfl) ⟨_, gP, rfl⟩) pa_nil)))
      (pe_and (pe_cmpR op_eq (pe_fld (pv 0) rfl) (pe_fld (pv 1) rfl) (nomark _)) (pe_one (pe_cmpR (op_eqD hr.units) (pe_fld (pv 0) rfl) (pe_fld (pv 1) rfl) (nomark _))))))), ?_⟩
    obtain ⟨dx, tp, da, dl, h1, h2, h3, h4⟩ := hp.ex
    obtain ⟨dx', tp', da', dl', g1, g2, g3, g4⟩ := hq.ex
    refine ⟨_, rfl, _, _, .ref C, .ref C, true, rfl, .own _, .base (.ins g1 nI.cl nI.ha nI.hn nI.htk nI.hm), nI.me, _, rfl, iteT ?_⟩
    refine ⟨_, rfl, p, C, dx, _, _, rfl, h1, T.cl, T.nk, pf_kinds _ _ _ _, _, rfl, q, C, dx', _, _, rfl, g1, T.cl, T.nk, pf_kinds _ _ _ _, rfl, _, rfl, ?_⟩
    rw [decide_eq_true rfl]
    refine iteT ?_
    refine ⟨_, rfl, p, C, dx, _, _, rfl, h1, T.cl, T.np, pf_pairs _ _ _ _, _, rfl, q, C, dx', _, _, rfl, g1, T.cl, T.np, pf_pairs _ _ _ _, _, _, .tup (SqT.of h2) (dp_strs _), .tup (SqT.of g2) (dp_strs _), (sh_pairs ks X hp.abc).1, (sh_pairs ks X hp.abc).1, ?_⟩
    rw [SeqAt.eqv_refl _ (sh_pairs ks X hp.abc).2]
    exact k
/-- check_same_plan(one, other), where the plans are equal -/
def spSamePlan (C CR : Addr) : Sp := fun vs H Q _ => ∃ (a b p q : Addr) (ks : List Nat) (X : Nat → Nat → Bool) (n m : List Nat), vs = [.ref a, .ref b] ∧ RoomAt C CR H a p ks X n ∧ RoomAt C CR H b q ks X m ∧ Q .non H
theorem rf_plan (p : Addr) (n : List Nat) : (rflds p n).lookup ("plan" : Str) = some (.ref p) := by
  unfold rflds
  rw [List.lookup_cons, show (("plan" : Str) == ("plan" : Str)) = true from by decide +kernel]
theorem rf_nameV (p : Addr) (n : List Nat) : (rflds p n).lookup ("name" : Str) = some (.str (S n)) := by
  unfold rflds
  rw [List.lookup_cons, show (("name" : Str) == ("plan" : Str)) = false from by decide +kernel]
  dsimp only
  rw [List.lookup_cons, show (("name" : Str) == ("name" : Str)) = true from by decide +kernel]
theorem sc_same : FnScope ["one", "other"] ["one", "other"] (defScope s_check_same_plan) := ⟨rfl, rfl, rfl, by decide +kernel, rfl, by decide +kernel, by decide +kernel⟩
theorem ok_same (F : D K mg "check_same_plan" s_check_same_plan []) (TR : RoomT K CR) {f : Addr} {fd : FuncData} (GE : FnOk P w K mg base C8.CX0 1 f fd ["self", "other"] (spPlanEq C)) (hf : PySem.W.isFn K (.ref f) = true) (bi : L2.Binds K fd ["self", "other"] []) (ne : neB K C f = true) : C8.Cal P w K mg base 3 "check_same_plan" (spSamePlan C CR) [] := by
  refine F.cal (ps := ["one", "other"]) sc_same (fun f fd F => F.bindsN fun _ _ _ _ _ _ us hl => match us, hl with | [_, _], _ => rfl) (fun vs H Q E h => ?_) (fun f' cdv A outer s H vs Q E hr h => ?_)
  · obtain ⟨a, b, p, q, ks, X, n, m, rfl, _⟩ := h
    rfl
  · obtain ⟨a, b, p, q, ks, X, n, m, rfl, ha, hb, k⟩ := h
    refine ⟨_, pss_one (ps_if (pt_cmpR (op_neOwn GE hf bi ne (hr.mono (by decide))) (pe_fld (pv 0) rfl) (pe_fld (pv 1) rfl) (nomark _)) (pss_one ps_never) pss_nil), ?_⟩
    obtain ⟨dx, h1⟩ := ha.ex
    obtain ⟨dy, g1⟩ := hb.ex
    obtain ⟨ex, _, _, _, h2, _⟩ := ha.pl.ex
    obtain ⟨ey, _, _, _, g2, _⟩ := hb.pl.ex
    refine ⟨_, rfl, a, CR, dx, _, _, rfl, h1, TR.cl, TR.np, rf_plan _ _, _, rfl, b, CR, dy, _, _, rfl, g1, TR.cl, TR.np, rf_plan _ _, p, ex, _, q, ey, _, rfl, rfl, h2, g2, p, q, ks, X, rfl, ha.pl, hb.pl, true, rfl, _, rfl, iteF k⟩
end
end TX
end
section
set_option maxRecDepth 100000
set_option maxHeartbeats 4000000
namespace TX
open PySem PySem.Spec PyProof.Rows L2 SX CW
def spRoomEq (C CR : Addr) : Sp := fun vs H Q _ => ∃ (a b p q : Addr) (ks : List Nat) (X : Nat → Nat → Bool) (n m : List Nat), vs = [.ref a, .ref b] ∧ RoomAt C CR H a p ks X n ∧ RoomAt C CR H b q ks X m ∧ Q (.bl (decide (n = m))) H
def spRoomNamed (C CR : Addr) : Sp := fun vs H Q _ => ∃ (p : Addr) (ks : List Nat) (X : Nat → Nat → Bool) (n : List Nat), vs = [.ref p, .str (S n)] ∧ PlanAt C H p ks X ∧ n.length ≤ 2000 ∧ ∀ (a : Addr) (H' : Hp), RoomAt C CR H' a p ks X n → L2.Same H H' → Q (.ref a) H'
def spRoomAdd (C CR : Addr) : Sp := fun vs H Q _ => ∃ (a p : Addr) (ks : List Nat) (X : Nat → Nat → Bool) (n way : List Nat), vs = [.ref a, .str (S way)] ∧ RoomAt C CR H a p ks X n ∧ (∀ c ∈ way, c ∈ ks) ∧ way.length ≤ 2000 ∧ n.length ≤ 2000 ∧ (fol ks X n way).length ≤ 2000 ∧
  ∀ (r : Addr) (H' : Hp), RoomAt C CR H' r p ks X (fol ks X n way) → L2.Same H H' → Q (.ref r) H'
def spWayTo (C CR : Addr) : Sp := fun vs H Q _ => ∃ (a b p q : Addr) (ks : List Nat) (X : Nat → Nat → Bool) (n m : List Nat), vs = [.ref a, .ref b] ∧ RoomAt C CR H a p ks X n ∧ RoomAt C CR H b q ks X m ∧ (∀ c ∈ n, c ∈ ks) ∧ (∀ c ∈ m, c ∈ ks) ∧ n.length ≤ 2000 ∧ m.length ≤ 2000 ∧
  Q (.str (S (fol ks X [] (n.reverse ++ m)))) H
def spDist (C CR : Addr) : Sp := fun vs H Q _ => ∃ (a b p q : Addr) (ks : List Nat) (X : Nat → Nat → Bool) (n m : List Nat), vs = [.ref a, .ref b] ∧ RoomAt C CR H a p ks X n ∧ RoomAt C CR H b q ks X m ∧ (∀ c ∈ n, c ∈ ks) ∧ (∀ c ∈ m, c ∈ ks) ∧ n.length ≤ 2000 ∧ m.length ≤ 2000 ∧
  Q (.int ((fol ks X [] (n.reverse ++ m)).length : Int)) H
theorem put_nameV (p : Addr) (n m : List Nat) : putF "name" (.str (S m)) (rflds p n) = rflds p m := by
  show (if ("plan" : Str) = "name" then _ else (("plan" : Str), V.ref p) :: (if ("name" : Str) = "name" then _ else _)) = _
  rw [if_neg (by decide +kernel), if_pos rfl]
  rfl
section
variable {P : Program} {w : World} {K : PySem.W.Frag} {mg : Str → Option Value} {base : Heap} {C CR : Addr}
theorem sc_roomeq : FnScope ["self", "other"] ["self", "other"] (defScope s_Room_eq) := ⟨rfl, rfl, rfl, by decide +kernel, rfl, by decide +kernel, by decide +kernel⟩
theorem ok_roomeq {f : Addr} {fd : FuncData} (F : FunD K "__eq__" "Room.__eq__" (defArgs s_Room_eq) (defBody s_Room_eq) (defScope s_Room_eq) [] [] f fd) (TR : RoomT K CR) (nI : C8.InsC K CR) (zi : mg "isinstance" = none) (gR : mg "Room" = some (.ref CR))
    (DE : Dun P w K mg base 1 C "__eq__" (spPlanEq C)) : FnOk P w K mg base C8.CX0 2 f fd ["self", "other"] (spRoomEq C CR) := by
  refine F.ok sc_roomeq (fun vs H Q E h => ?_) (fun cdv A outer s H vs Q E hr h => ?_)
  · obtain ⟨a, b, p, q, ks, X, n, m, rfl, _⟩ := h
    rfl
  · obtain ⟨a, b, p, q, ks, X, n, m, rfl, ha, hb, k⟩ := h
    refine ⟨_, PSs.nox (pss_one (ps_ret (pe_and (pe_callB call_isi (by rfl) zi PyProof.Rows.boot_isinstance (pa_cons (pv 1) (pa_cons (C8.pe_gc (v := .ref CR) (by rfl) ⟨_, gR, rfl⟩) pa_nil)))
      (pe_and (pe_cmpR (op_cmpOwn (op := .Eq) (fun _ _ => rfl) DE hr) (pe_fld (pv 0) rfl) (pe_fld (pv 1) rfl) (nomark _)) (pe_one (pe_cmpR op_eq (pe_fld (pv 0) rfl) (pe_fld (pv 1) rfl) (nomark _))))))), ?_⟩
    obtain ⟨dx, h1⟩ := ha.ex
    obtain ⟨dy, g1⟩ := hb.ex
    obtain ⟨ex, _, _, _, h2, _⟩ := ha.pl.ex
    obtain ⟨ey, _, _, _, g2, _⟩ := hb.pl.ex
    refine ⟨_, rfl, _, _, .ref CR, .ref CR, true, rfl, .own _, .base (.ins g1 nI.cl nI.ha nI.hn nI.htk nI.hm), nI.me, _, rfl, iteT ?_⟩
    refine ⟨_, rfl, a, CR, dx, _, _, rfl, h1, TR.cl, TR.np, rf_plan _ _, _, rfl, b, CR, dy, _, _, rfl, g1, TR.cl, TR.np, rf_plan _ _, p, ex, _, q, ey, _, rfl, rfl, h2, g2, p, q, ks, X, rfl, ha.pl, hb.pl, _, rfl, iteT ?_⟩
    refine ⟨_, rfl, a, CR, dx, _, _, rfl, h1, TR.cl, TR.nn, rf_nameV _ _, _, rfl, b, CR, dy, _, _, rfl, g1, TR.cl, TR.nn, rf_nameV _ _, rfl, ?_⟩
    have e : decide (V.str (S n) = V.str (S m)) = decide (n = m) := by
      rw [decide_eq_decide]
      exact ⟨fun z => S_inj (V.str.inj z), fun z => by rw [z]⟩
    rw [e]
    exact k
theorem ok_roombody {f : Addr} {fd : FuncData} (F : FunD K "__init__" "Room.__init__" (defArgs s_Room_init) (defBody s_Room_init) (defScope s_Room_init) [.str ""] [] f fd) (TR : RoomT K CR)
    (cW : C8.Cal P w K mg base 2 "check_way" (spChkWay C) []) (cF : C8.Cal P w K mg base 2 "followed" (spFollowed C) []) : FnOk P w K mg base C8.CX0 3 f fd ["self", "plan", "way"] (spRoomInit C CR) := by
  refine F.ok sc_roominit (fun vs H Q E h => ?_) (fun cdv A outer s H vs Q E hr h => ?_)
  · obtain ⟨r, dx, p, ks, X, l, rfl, _⟩ := h
    rfl
  · obtain ⟨r, dx, p, ks, X, l, rfl, hr0, hp, hin, hl, q⟩ := h
    refine ⟨_, PSs.nox (pss_cons (ps_expr (C8.pe_c cW hr (by decide) (by rfl) (pa_cons (pv 1) (pa_cons (pv 2) pa_nil))))
      (pss_cons (ps_fld (pv 0) (pv 1) rfl) (pss_one (ps_fld (pv 0) (C8.pe_c cF hr (by decide) (by rfl) (pa_cons (pv 1) (pa_cons pe_str (pa_cons (pv 2) pa_nil)))) rfl)))), ?_⟩
    refine ⟨_, rfl, _, rfl, p, ks, X, l, rfl, hp, hin, hl, ?_⟩
    refine ⟨_, rfl, _, rfl, r, CR, dx, [], rfl, hr0, TR.cl, TR.np, (by show 0 < 1000; decide), ?_⟩
    have hp2 : PlanAt C (upd H r (.ins CR dx (putF "plan" (.ref p) []))) p ks X := hp.but hr0 (by simp) But.at
    rw [empty_S]
    refine ⟨_, rfl, _, rfl, p, ks, X, [], l, rfl, hp2, hin, by simp only [List.length_nil]; omega, ?_⟩
    refine ⟨_, rfl, r, CR, dx, _, rfl, upd_same, TR.cl, TR.nn, (by show 1 < 1000; decide), ?_⟩
    rw [rf_eq, upd_upd]
    exact q
theorem ok_room1 {f : Addr} {fd : FuncData} (F : FunD K "__init__" "Room.__init__" (defArgs s_Room_init) (defBody s_Room_init) (defScope s_Room_init) [.str ""] [] f fd) (TR : RoomT K CR) (M : Mk K CR f) (gR : mg "Room" = some (.ref CR))
    (cW : C8.Cal P w K mg base 2 "check_way" (spChkWay C) []) (cF : C8.Cal P w K mg base 2 "followed" (spFollowed C) []) : C8.Mak P w K mg base 3 "Room" CR (spRoomInit C CR) [.str ""] := by
  obtain ⟨ds, vd, b⟩ := F.binds1 (ps := ["self", "plan", "way"]) 2 0 (by simp) rfl (fun T kV doc pm an cdv ct us its hu hi => match us, hu, its, hi with | [_, _], _, [_], _ => ⟨_, rfl, rfl⟩)
  exact ⟨f, fd, _, ds, M, ok_roombody F TR cW cF, gR, b, vd⟩
theorem sc_named : FnScope ["plan", "name", "room"] ["plan", "name"] (defScope s_room_named) := ⟨rfl, rfl, rfl, by decide +kernel, rfl, by decide +kernel, by decide +kernel⟩
theorem ok_named (F : D K mg "room_named" s_room_named []) (TR : RoomT K CR) (cL : C8.Cal P w K mg base 1 "check_length" spChkLen []) (mR : C8.Mak P w K mg base 3 "Room" CR (spRoomInit C CR) [.str ""]) : C8.Cal P w K mg base 5 "room_named" (spRoomNamed C CR) [] := by
  refine F.cal (ps := ["plan", "name"]) sc_named (fun f fd F => F.bindsN fun _ _ _ _ _ _ us hl => match us, hl with | [_, _], _ => rfl) (fun vs H Q E h => ?_) (fun f cdv A outer s H vs Q E hr h => ?_)
  · obtain ⟨p, ks, X, n, rfl, _⟩ := h
    rfl
  · obtain ⟨p, ks, X, n, rfl, hp, ln, k⟩ := h
    refine ⟨_, pss_cons (ps_expr (C8.pe_c cL hr (by decide) (by rfl) (pa_cons (pv 1) pa_nil)))
      (pss_cons (ps_set (i := 2) sc_named.nd rfl (.inl rfl) (C8.pe_mk mR hr (by decide) (by rfl) (pa_cons (pv 0) pa_nil)))
      (pss_cons (ps_fld (pv 2) (pv 1) rfl) (pss_one (ps_ret (pv 2))))), ?_⟩
    refine ⟨_, rfl, n, rfl, ln, _, rfl, fun x dx hx hdx ndx => ?_⟩
    refine ⟨x, dx, p, ks, X, [], rfl, upd_same, hp.same (fun b v e => by rw [upd_ne (ne_of_none e hx), upd_ne (ne_of_none e hdx)]; exact e), (fun c h => by cases h), by simp, rfl, ?_⟩
    refine ⟨_, rfl, _, rfl, x, CR, dx, _, rfl, upd_same, TR.cl, TR.nn, (by show 2 < 1000; decide), ?_⟩
    rw [put_nameV]
    have sm : L2.Same H (upd (upd (upd (upd H dx (.own x)) x (.ins CR dx [])) x (.ins CR dx (rflds p (fol ks X [] [])))) x (.ins CR dx (rflds p n))) := fun b v e => by
      rw [upd_ne (ne_of_none e hx), upd_ne (ne_of_none e hx), upd_ne (ne_of_none e hx), upd_ne (ne_of_none e hdx)]
      exact e
    exact ⟨_, rfl, k x _ ⟨hp.same sm, dx, upd_same⟩ sm⟩
end
end TX
end
section
set_option maxRecDepth 100000
set_option maxHeartbeats 4000000
namespace TX
open PySem PySem.Spec PyProof.Rows L2 SX CW
/-- what the sum of an instance and a text asks of the class -/
structure AddT (K : PySem.W.Frag) (C : Addr) : Prop where
  sf : PySem.W.selfFirst K C = true
  ex : ∃ rc fo ro : Option Value, PySem.W.findIn K (.ref C) (dunderR Operator.Add.info.2) = some rc ∧ (rc = none ∨ ∃ g, rc = some (.ref g)) ∧ PySem.W.findIn K (.type "str") (dunder Operator.Add.info.2) = some fo ∧ PySem.W.findIn K (.type "str") (dunderR Operator.Add.info.2) = some ro ∧ PySem.W.subIn K (.type "str") (.ref C) = some false
theorem tyS {x : Str} : ∀ u, L2.RelV (V.str x) u → typeOf u = pure (.type "str") := fun u r => by
  obtain ⟨t, rfl⟩ := r
  rfl
theorem noF (f : Str) (p : Addr) (n : List Nat) (h1 : (f == ("plan" : Str)) = false) (h2 : (f == ("name" : Str)) = false) : (rflds p n).lookup f = none := by
  unfold rflds
  rw [List.lookup_cons, h1]
  dsimp only
  rw [List.lookup_cons, h2]
  rfl
def addB (K : PySem.W.Frag) (C : Addr) : Bool := PySem.W.selfFirst K C && (decide (PySem.W.findIn K (.ref C) (dunderR Operator.Add.info.2) = some none) && ((PySem.W.findIn K (.type "str") (dunder Operator.Add.info.2)).isSome && ((PySem.W.findIn K (.type "str") (dunderR Operator.Add.info.2)).isSome && decide (PySem.W.subIn K (.type "str") (.ref C) = some false))))
theorem addB_ok {K : PySem.W.Frag} {C : Addr} (h : addB K C = true) : AddT K C := by
  unfold addB at h
  simp only [Bool.and_eq_true, decide_eq_true_eq, Option.isSome_iff_exists] at h
  obtain ⟨h1, h2, ⟨fo, h3⟩, ⟨ro, h4⟩, h5⟩ := h
  exact ⟨h1, none, fo, ro, h2, .inl rfl, h3, h4, h5⟩
end TX
end
section
set_option maxRecDepth 100000
set_option maxHeartbeats 0
/-! the head: what is asked of the top's end -/
namespace TX
open PySem PySem.Spec PyProof.Rows L2 SX CW
def mkD (x : Str) (st : Stmt) : He.DefD := ⟨(x, none), x, x, defArgs st, defBody st, defScope st, [], []⟩
def mkM (C m q : Str) (st : Stmt) : He.DefD := ⟨(C, some m), m, q, defArgs st, defBody st, defScope st, [], []⟩
def dRoom : He.DefD := ⟨("Room", some "__init__"), "__init__", "Room.__init__", defArgs s_Room_init, defBody s_Room_init, defScope s_Room_init, [.str ""], []⟩
def dPlan : He.DefD := ⟨("Plan", some "__init__"), "__init__", "Plan.__init__", defArgs s_Plan_init, defBody s_Plan_init, defScope s_Plan_init, [.adr (He.dflAt ("Plan", some "__init__") 0)], []⟩
def insB (K : PySem.W.Frag) (C : Addr) : Bool :=
  He.eqO (PySem.W.findIn K (.ref C) "__class__") (some (some (.builtin "object.__class__"))) && (He.eqO (PySem.W.specialIn K (.builtin "object.__class__") "__get__") (some (some (.builtin "getset_descriptor.__get__"))) &&
  (decide (PySem.W.takesIn K (.builtin "object.__class__") = some true) && (decide (PySem.W.mroIn K C (.type "object") = some true) && decide (PySem.W.kitOne K (.ref C) (.type "str") = some false))))
theorem insB_c {K : PySem.W.Frag} {C : Addr} (cl : Cls K C) (h : insB K C = true) : C8.InsC K C ∧ PySem.W.kitOne K (.ref C) (.type "str") = some false := by
  unfold insB at h
  simp only [Bool.and_eq_true, decide_eq_true_eq] at h
  obtain ⟨h1, h2, h3, h4, h5⟩ := h
  refine ⟨⟨cl, He.eqO_ok h1, He.eqO_ok h2, h3, h4, ?_⟩, h5⟩
  unfold PySem.W.kitOne
  rw [if_pos (by simp)]
def tupAt (K : PySem.W.Frag) (a : Addr) : Bool := match K.lookup a with
  | some ⟨.type c, _, .seq its _, _⟩ => decide (c = "tuple") && its.isEmpty
  | _ => false
theorem tupAt_ok {K : PySem.W.Frag} {a : Addr} (h : tupAt K a = true) (H : Hp) : SqT K H a [] := by
  unfold tupAt at h
  split at h
  · rename_i c d its n sl e
    rw [Bool.and_eq_true, decide_eq_true_eq] at h
    obtain ⟨h1, h2⟩ := h
    have e0 : its = #[] := Array.isEmpty_iff.mp h2
    subst e0
    subst h1
    exact .inr ⟨_, #[], n, e, rfl, rfl, Nat.zero_le _, .nil⟩
  · cases h
/-- a method of the class C, as Dun asks it -/
theorem dun_of {P : Program} {w : World} {K : PySem.W.Frag} {mg : Str → Option Value} {base : Heap} {k : Nat} {C f : Addr} {nm : Str} {sp : Sp} {fd : FuncData} {ps : List Str} (F : FnOk P w K mg base C8.CX0 k f fd ps sp) (M : Meth K C nm f) (b : L2.Binds K fd ps []) : Dun P w K mg base k C nm sp :=
  ⟨⟨f, fd, ps, F, M.at_, M.fn, b⟩⟩
end TX
end
section
set_option maxRecDepth 100000
set_option maxHeartbeats 0
namespace TX
open PySem PySem.Spec PyProof.Rows L2 SX CW
def dWall : He.DefD := ⟨("Wall", some "__init__"), "__init__", "Wall.__init__", defArgs s_Wall_init, defBody s_Wall_init, defScope s_Wall_init, [], []⟩
def rwB (K : PySem.W.Frag) (R W : Addr) : Bool := decide (PySem.W.kitOne K (.ref R) (.ref W) = some false) && decide (PySem.W.subIn K (.ref R) (.ref W) = some false)
theorem rwB_ok {K : PySem.W.Frag} {R W : Addr} (h : rwB K R W = true) : PySem.W.kitOne K (.ref R) (.ref W) = some false ∧ PySem.W.subIn K (.ref R) (.ref W) = some false := by
  unfold rwB at h
  rwa [Bool.and_eq_true, decide_eq_true_eq, decide_eq_true_eq] at h
end TX
end
section
set_option maxRecDepth 100000
set_option maxHeartbeats 0
namespace TX
open PySem PySem.Spec PyProof.Rows L2 SX CW
/-- a class over FloorError, over ValueError, with an __init__ of its own -/
def oexT (C : Addr) (cd : ClassData) : List (Option Value) → Bool
  | [_, _, _, _, some (.builtin n), _] => decide (n = "ValueError.__new__") && (!cd.hasDel && (cd.hasDict && (match cd.mro with
    | .ref D :: bm => decide (D = C) && PySem.HandSPX.refsVE bm
    | _ => false)))
  | _ => false
def oexA (K : PySem.W.Frag) (C : Addr) : Bool := match K.lookup C with
  | some ⟨.type t, _, .cls cd, sl⟩ => decide (t = "type") && oexT C cd sl.toList
  | _ => false
/-- how fields of an error are read, and isinstance of it -/
def excB (K : PySem.W.Frag) (D : Addr) : Bool :=
  He.eqO (PySem.W.findIn K (.ref D) "__getattribute__") (some (some (.builtin "BaseException.__getattribute__"))) && (He.eqO (PySem.W.findIn K (.ref D) "__getattr__") (some none) && (decide (PySem.W.subIn K (.ref D) (.type "BaseException") = some true) && (decide (PySem.W.hasDictIn K D = true) &&
  (He.eqO (PySem.W.findIn K (.ref D) "__class__") (some (some (.builtin "object.__class__"))) && (He.eqO (PySem.W.specialIn K (.builtin "object.__class__") "__get__") (some (some (.builtin "getset_descriptor.__get__"))) &&
  (decide (PySem.W.takesIn K (.builtin "object.__class__") = some true) && decide (PySem.W.mroIn K D (.type "object") = some true)))))))
/-- an error that is raised with nothing -/
def errB (K : PySem.W.Frag) (D : Addr) : Bool :=
  PySem.W.excIn K D [.type "ValueError", .type "Exception", .type "BaseException", .type "object"] "ValueError.__new__" && (PySem.W.keepIn K (.ref D) && (decide (PySem.W.subIn K (.ref D) (.type "BaseException") = some true) && decide (PySem.W.typeIn K (.ref D) = some (.type "type"))))
def rfB (K : PySem.W.Frag) (NC OP NW FE : Addr) : Bool :=
  oexA K NC && (He.eqO (PySem.W.findIn K (.ref NC) "__setattr__") (some (some (.builtin "object.__setattr__"))) && (decide (PySem.W.typeIn K (.ref NC) = some (.type "type")) && (PySem.W.keepIn K (.ref NC) && (He.eqO (PySem.W.findIn K (.ref NC) "one") (some none) && (He.eqO (PySem.W.findIn K (.ref NC) "other") (some none) &&
  (excB K NC && (decide (PySem.W.kitOne K (.ref NC) (.ref FE) = some true) && (decide (PySem.W.exmOne K (.ref NC) (.ref NC) = some true) &&
  (errB K OP && (excB K OP && (decide (PySem.W.kitOne K (.ref OP) (.ref FE) = some true) && (decide (PySem.W.exmOne K (.ref OP) (.ref NC) = some false) && (decide (PySem.W.exmOne K (.ref OP) (.ref OP) = some true) &&
  (errB K NW && (excB K NW && (decide (PySem.W.kitOne K (.ref NW) (.ref FE) = some true) && (decide (PySem.W.exmOne K (.ref NW) (.ref NC) = some false) && (decide (PySem.W.exmOne K (.ref NW) (.ref OP) = some false) && decide (PySem.W.exmOne K (.ref NW) (.ref NW) = some true)))))))))))))))))))
end TX
end
section
set_option maxRecDepth 100000
set_option maxHeartbeats 0
namespace TX
open PySem PySem.Spec PyProof.Rows L2 SX CW
/-- an error with one field: how it is made, raised, read -/
def xfB (K : PySem.W.Frag) (D FE : Addr) (fl : Str) : Bool :=
  oexA K D && (He.eqO (PySem.W.findIn K (.ref D) "__setattr__") (some (some (.builtin "object.__setattr__"))) && (decide (PySem.W.typeIn K (.ref D) = some (.type "type")) && (PySem.W.keepIn K (.ref D) && (He.eqO (PySem.W.findIn K (.ref D) fl) (some none) && (excB K D && decide (PySem.W.kitOne K (.ref D) (.ref FE) = some true))))))
def adB (K : PySem.W.Frag) (R : Addr) (T : String) : Bool := (PySem.W.findIn K (.type T) (dunder Operator.Add.info.2)).isSome && ((PySem.W.findIn K (.type T) (dunderR Operator.Add.info.2)).isSome && decide (PySem.W.subIn K (.type T) (.ref R) = some false))
def ownB (K : PySem.W.Frag) (R C : Addr) : Bool := decide (C ≠ R) && (PySem.W.selfFirst K C && ((match PySem.W.findIn K (.ref C) (dunder Operator.Add.info.2) with
  | some (some (.ref _)) => true
  | _ => false) && (decide (PySem.W.findIn K (.ref C) (dunderR Operator.Add.info.2) = some none) && decide (PySem.W.subIn K (.ref C) (.ref R) = some false))))
def ty10B (K : PySem.W.Frag) (R C : Addr) : Bool := (["NoneType", "int", "bool", "list", "tuple", "dict", "str"] : List String).all (adB K R) && ownB K R C
def ex10B (K : PySem.W.Frag) (IW IK TL : Addr) : Bool :=
  decide (PySem.W.exmOne K (.ref IW) (.ref IW) = some true) && (decide (PySem.W.exmOne K (.ref IK) (.ref IW) = some false) && (decide (PySem.W.exmOne K (.ref IK) (.ref IK) = some true) && (decide (PySem.W.exmOne K (.ref TL) (.ref IW) = some false) && (decide (PySem.W.exmOne K (.ref TL) (.ref IK) = some false) && decide (PySem.W.exmOne K (.ref TL) (.ref TL) = some true)))))
def rm10B (K : PySem.W.Frag) (R : Addr) : Bool := PySem.W.selfFirst K R && (decide (PySem.W.findIn K (.ref R) (dunderR Operator.Add.info.2) = some none) && PySem.W.fnIn K (He.ma K R "__getitem__"))
/-- the tables of two defs are not the same -/
def twoB (K : PySem.W.Frag) (p q : He.Defn) : Bool := decide ((He.cT K p).2 ≠ (He.cT K q).2)
end TX
end
section
set_option maxRecDepth 100000
set_option maxHeartbeats 0
namespace TX
open PySem PySem.Spec PyProof.Rows L2 SX CW
def fnAt (K : PySem.W.Frag) (a : Addr) : He.FnW := match List.lookup a K with
  | some ⟨_, _, .func fd, _⟩ => some (fd.name, fd.qualname, fd.params, fd.body, fd.scope, fd.globals, fd.closure, fd.builtins)
  | _ => none
def okAt (K : PySem.W.Frag) (a : Addr) (q : Str) : Bool := PySem.W.keepIn K (.ref a) && (match List.lookup a K with
  | some ⟨_, _, .func fd, _⟩ => PySem.W.codeIn K fd.code q && (He.dflB K fd.defaults [] && He.kwdB K fd.kwdefaults [])
  | _ => false)
theorem funAt {K : PySem.W.Frag} {d : He.DefD} {a : Addr} (e : fnAt K a = He.DefD.val d) (c : okAt K a d.qual = true) : ∃ fd, FunD K d.name d.qual d.params d.body d.scope [] [] a fd := by
  unfold okAt at c
  rw [Bool.and_eq_true] at c
  obtain ⟨kp, c2⟩ := c
  unfold fnAt He.DefD.val at e
  cases lk : List.lookup a K with
  | none => rw [lk] at e; cases e
  | some o =>
    rw [lk] at e c2
    obtain ⟨oc, od, dt, osl⟩ := o
    cases dt with
    | func fd =>
      obtain ⟨f1, f2, f3, f4, f5, f6, f7, f8, f9, f10, f11, f12, f13, f14, f15⟩ := fd
      simp only [Bool.and_eq_true] at c2
      simp only [Option.some.injEq, Prod.mk.injEq] at e
      obtain ⟨e1, e2, e3, e4, e5, e6, e7, e8⟩ := e
      subst e1 e2 e3 e4 e5 e6 e7 e8
      exact ⟨_, ⟨_, _, _, _, _, _, _, _, _, _, rfl, lk, c2.1, He.dflB_ok c2.2.1, He.kwdB_ok c2.2.2⟩, kp⟩
    | _ => cases e
def dHalf : He.DefD := ⟨("Half", some "__init__"), "__init__", "Half.__init__", defArgs s_Half_init, defBody s_Half_init, defScope s_Half_init, [.bl false], []⟩
/-- the staticmethod's record, the def in it -/
def stP (K : PySem.W.Frag) : Addr := He.ma K (He.ga K "Half") "beside"
def stG (K : PySem.W.Frag) : Addr := match PySem.W.recIn K (stP K) "staticmethod" with
  | some (.ref g :: _) => g
  | _ => 0
def dBes : He.DefD := mkM "Half" "beside" "Half.beside" s_Half_beside
def cstB (K : PySem.W.Frag) : Bool :=
  PySem.W.readsIn K (He.ga K "Half") (.type "type") && (He.eqO (PySem.W.specialIn K (.ref (He.ga K "Half")) "__getattribute__") (some (some (.builtin "type.__getattribute__"))) && ((match PySem.W.findCls K (.ref (He.ga K "Half")) (.type "type") "beside" with
    | some (.get (.builtin b) (.ref p) .none (.ref c)) => decide (b = "staticmethod.__get__") && (decide (p = stP K) && decide (c = He.ga K "Half"))
    | _ => false) && ((match PySem.W.recIn K (stP K) "staticmethod" with
    | some (.ref _ :: _) => true
    | _ => false) && okAt K (stG K) "Half.beside")))
def kofB (K : PySem.W.Frag) (t u : Value) : Bool := decide (PySem.W.kitOne K t u = some false)
def sofB (K : PySem.W.Frag) (t u : Value) : Bool := decide (PySem.W.subIn K t u = some false)
def ap27B (K : PySem.W.Frag) (C CR CL CH : Addr) : Bool :=
  ((["NoneType", "bool", "int", "str", "tuple", "list", "dict"] : List String).all fun T => kofB K (.type T) (.ref CR) && (kofB K (.type T) (.ref CH) && sofB K (.type T) (.ref CH))) &&
  (([C, CL, CR].all fun D => kofB K (.ref D) (.ref CH) && sofB K (.ref D) (.ref CH)) && ([C, CL, CH].all fun D => kofB K (.ref D) (.ref CR)))
def ex27B (K : PySem.W.Frag) (IK : Addr) : Bool := decide (PySem.W.kitOne K (.ref IK) (.type "ValueError") = some true) && decide (PySem.W.exmOne K (.ref IK) (.ref IK) = some true)
end TX
end
section
set_option maxRecDepth 100000
set_option maxHeartbeats 0
/-! the head, with less memory: what the names reach is gathered breadth first, a number keeping which addresses were seen -/
namespace TX
open PySem PySem.Spec PyProof.Rows L2
def seenN (m a : Nat) : Bool := Nat.beq (Nat.land (Nat.shiftRight m a) 1) 1
/-- those that were not seen yet, each once -/
def newN : List Addr → Nat → List Addr → (List Addr → Nat → List Addr) → List Addr
  | [], m, acc, k => k acc m
  | a :: r, m, acc, k => match seenN m a with
    | true => newN r m acc k
    | false => newN r (Nat.lor m (Nat.shiftLeft 1 a)) (a :: acc) k
def reachN (g : Addr → Option Obj) : Nat → List Addr → Nat → List Addr
  | 0, fr, _ => fr
  | n + 1, fr, m => fr ++ newN (fr.flatMap fun a => (match g a with
    | some o => He.refsD o
    | none => [])) m [] fun nf m' => reachN g n nf m'
def asY (g : Addr → Option Obj) (n : Nat) : List Addr := reachN g n [mainGlobals] (Nat.shiftLeft 1 mainGlobals)
def obsY (n : Nat) (fa : List He.Fa) (fn : List He.DefD) (ex : PySem.W.Frag → Bool) (g : Addr → Option Obj) : He.AlX := (He.obsT fa fn [] (He.frT g (asY g n)), ex (He.frT g (asY g n)))
theorem saysY {n : Nat} {fa : List He.Fa} {fn : List He.DefD} {ex : PySem.W.Frag → Bool} {w : World} {h : Heap} (e : obsY n fa fn ex h.get? = He.valX fn [] w) : He.SaysX fa fn [] [] ex w h (He.frT h.get? (asY h.get? n)) :=
  ⟨congrArg Prod.fst e, congrArg Prod.snd e, (fun _ z => nomatch z), (fun _ z => nomatch z), (fun _ z => nomatch z)⟩
def hookY (n : Nat) (fa : List He.Fa) (fn : List He.DefD) (ex : PySem.W.Frag → Bool) : PySem.W.Hook where
  α := He.AlX
  obs s := obsY n fa fn ex s.heap.get?
  val w := He.valX fn [] w
  says w h := ∃ L : PySem.W.Frag, L.In h ∧ He.SaysX fa fn [] [] ex w h L
  of _ _ e := ⟨_, He.frT_in, saysY e⟩
  keeps _ _ _ z k := by
    obtain ⟨L, i, c⟩ := z
    exact ⟨L, PySem.W.Frag.In.keeps i k, c.t, c.more, c.hd, c.out, fun _ y => nomatch y⟩
theorem obsY_eq {n : Nat} {fa : List He.Fa} {fn : List He.DefD} {ex : PySem.W.Frag → Bool} {g : Addr → Option Obj} {s : PySem.Shared} (h : ∀ a, g a = s.heap.get? a) : obsY n fa fn ex g = (hookY n fa fn ex).obs s := by
  rw [show g = s.heap.get? from funext h]
  rfl
end TX
end
section
set_option maxRecDepth 100000
set_option maxHeartbeats 0
/-! the head, with the defs in a staticmethod -/
namespace TX
open PySem PySem.Spec PyProof.Rows L2
def asP (g : Addr → Option Obj) (n : Nat) : List Addr := cStatics :: asY g n
def obsP0 (n : Nat) (fa : List He.Fa) (fn : List He.DefD) (ex : PySem.W.Frag → Bool) (g : Addr → Option Obj) : He.AlX := (He.obsT fa fn [] (He.frT g (asP g n)), ex (He.frT g (asP g n)))
theorem saysP {n : Nat} {fa : List He.Fa} {fn : List He.DefD} {ex : PySem.W.Frag → Bool} {w : World} {h : Heap} (e : obsP0 n fa fn ex h.get? = He.valX fn [] w) : He.SaysX fa fn [] [] ex w h (He.frT h.get? (asP h.get? n)) :=
  ⟨congrArg Prod.fst e, congrArg Prod.snd e, (fun _ z => nomatch z), (fun _ z => nomatch z), (fun _ z => nomatch z)⟩
def obsP (n : Nat) (fa : List He.Fa) (fn : List He.DefD) (ex : PySem.W.Frag → Bool) (g : Addr → Option Obj) : He.AlX × He.FnW := (obsP0 n fa fn ex g, fnAt (He.frT g (asP g n)) (stG (He.frT g (asP g n))))
def hookP (n : Nat) (fa : List He.Fa) (fn : List He.DefD) (ex : PySem.W.Frag → Bool) : PySem.W.Hook where
  α := He.AlX × He.FnW
  obs s := obsP n fa fn ex s.heap.get?
  val w := (He.valX fn [] w, He.DefD.val dBes)
  says w h := ∃ L : PySem.W.Frag, L.In h ∧ He.SaysX fa fn [] [] ex w h L ∧ fnAt L (stG L) = He.DefD.val dBes
  of _ _ e := ⟨_, He.frT_in, saysP (congrArg Prod.fst e), congrArg Prod.snd e⟩
  keeps _ _ _ z k := by
    obtain ⟨L, i, c, r⟩ := z
    exact ⟨L, PySem.W.Frag.In.keeps i k, ⟨c.t, c.more, c.hd, c.out, fun _ y => nomatch y⟩, r⟩
theorem obsP_eq {n : Nat} {fa : List He.Fa} {fn : List He.DefD} {ex : PySem.W.Frag → Bool} {g : Addr → Option Obj} {s : PySem.Shared} (h : ∀ a, g a = s.heap.get? a) : obsP n fa fn ex g = (hookP n fa fn ex).obs s := by
  rw [show g = s.heap.get? from funext h]
  rfl
end TX
end
section
set_option maxRecDepth 100000
set_option maxHeartbeats 0
/-! the head -/
namespace TX
open PySem PySem.Spec PyProof.Rows L2 SX CW
def fn1 : List He.DefD := [mkD "behind" s_behind, mkD "followed" s_followed, mkD "leads_nearer" s_leads_nearer, mkD "way_between" s_way_between, mkD "starts_with" s_starts_with, mkD "those_across" s_those_across, mkD "parted" s_parted, mkD "to_door" s_to_door, mkD "is_in" s_is_in, mkD "check_kind" s_check_kind]
def fn2 : List He.DefD := [mkD "check_way" s_check_way, mkD "check_length" s_check_length, mkD "check_same_plan" s_check_same_plan, mkD "are_letters" s_are_letters, mkD "is_pair" s_is_pair, mkD "upright" s_upright, mkD "kinds_across" s_kinds_across, mkD "kinds_before" s_kinds_before, mkD "check_no_common_kind" s_check_no_common_kind, mkD "group_of" s_group_of]
def fn3 : List He.DefD := [mkD "is_beside" s_is_beside, mkD "room_named" s_room_named, mkD "_law_begin" s_law_begin, mkD "_law_draw" s_law_draw, mkD "_law_pick" s_law_pick, mkD "_law_shuffled" s_law_shuffled, mkD "_law_is_crossing" s_law_is_crossing, mkD "_law_drawn_floor" s_law_drawn_floor, mkD "_law_as_plan" s_law_as_plan, mkD "_law_drawn_way" s_law_drawn_way]
def fn4 : List He.DefD := [mkD "_law_turned" s_law_turned, mkD "_law_root_of" s_law_root_of, mkD "_law_is_beyond" s_law_is_beyond, mkD "_law_half_of" s_law_half_of, mkD "_law_has" s_law_has, mkD "_law_no_kind" s_law_no_kind, mkD "_law_has_its_side" s_law_has_its_side, mkD "_law_is_alone" s_law_is_alone, mkD "_law_bare" s_law_bare, mkD "law" s_law]
def fn5 : List He.DefD := [dRoom, dPlan, dWall, dHalf, mkM "Plan" "__eq__" "Plan.__eq__" s_Plan_eq, mkM "Room" "__eq__" "Room.__eq__" s_Room_eq, mkM "Room" "__getitem__" "Room.__getitem__" s_Room_getitem, mkM "Wall" "__eq__" "Wall.__eq__" s_Wall_eq, mkM "Wall" "beyond" "Wall.beyond" s_Wall_beyond, mkM "Half" "__contains__" "Half.__contains__" s_Half_contains]
def fn6 : List He.DefD := [mkM "Half" "__invert__" "Half.__invert__" s_Half_invert, mkM "Half" "__eq__" "Half.__eq__" s_Half_eq, mkM "InvalidKind" "__init__" "InvalidKind.__init__" s_InvalidKind_init]
def fn : List He.DefD := fn1 ++ (fn2 ++ (fn3 ++ (fn4 ++ (fn5 ++ (fn6)))))
def fa1 : List He.Fa := [.glo "behind", .glo "followed", .glo "leads_nearer", .glo "way_between", .glo "starts_with", .glo "those_across", .glo "parted", .glo "to_door", .glo "is_in", .glo "check_kind"]
def fa2 : List He.Fa := [.glo "check_way", .glo "check_length", .glo "check_same_plan", .glo "are_letters", .glo "is_pair", .glo "upright", .glo "kinds_across", .glo "kinds_before", .glo "check_no_common_kind", .glo "group_of"]
def fa3 : List He.Fa := [.glo "is_beside", .glo "room_named", .glo "_law_begin", .glo "_law_draw", .glo "_law_pick", .glo "_law_shuffled", .glo "_law_is_crossing", .glo "_law_drawn_floor", .glo "_law_as_plan", .glo "_law_drawn_way"]
def fa4 : List He.Fa := [.glo "_law_turned", .glo "_law_root_of", .glo "_law_is_beyond", .glo "_law_half_of", .glo "_law_has", .glo "_law_no_kind", .glo "_law_has_its_side", .glo "_law_is_alone", .glo "_law_bare", .glo "law"]
def fa5 : List He.Fa := [.glo "Plan", .glo "Room", .glo "Wall", .glo "Half", .glo "InvalidKind", .glo "FloorError", .free "len", .free "set", .free "sorted", .free "tuple"]
def fa6 : List He.Fa := [.free "isinstance", .free "str", .free "all", .free "int", .free "range", .free "list", .free "dict", .free "min", .free "max", .free "zip"]
def fa7 : List He.Fa := [.free "ValueError", .int "MOST_LETTERS" 2000, .int "MOST_KINDS" 8, .cls "Plan", .cls "Room", .cls "Wall", .cls "Half", .noat "Plan" "kinds", .noat "Plan" "pairs", .noat "Plan" "across"]
def fa8 : List He.Fa := [.noat "Plan" "lesser", .noat "Room" "plan", .noat "Room" "name", .noat "Wall" "plan", .noat "Wall" "room", .noat "Wall" "kind", .noat "Half" "wall", .noat "Half" "far", .noat "Half" "plan", .mkr "Plan"]
def fa9 : List He.Fa := [.mkr "Room", .mkr "Wall", .mkr "Half", .meth "Plan" "__eq__", .meth "Room" "__eq__", .meth "Room" "__getitem__", .meth "Wall" "__eq__", .meth "Wall" "beyond", .meth "Half" "__contains__", .meth "Half" "__invert__"]
def fa10 : List He.Fa := [.meth "Half" "__eq__", .meth "InvalidKind" "__init__"]
def fa : List He.Fa := fa1 ++ (fa2 ++ (fa3 ++ (fa4 ++ (fa5 ++ (fa6 ++ (fa7 ++ (fa8 ++ (fa9 ++ (fa10)))))))))
def ex (K : PySem.W.Frag) : Bool := insB K (He.ga K "Plan") && (insB K (He.ga K "Room") && (tupAt K (He.dflAt ("Plan", some "__init__") 0 K) && (insB K (He.ga K "Wall") && (insB K (He.ga K "Half") && (neB K (He.ga K "Plan") (He.ma K (He.ga K "Plan") "__eq__") && (neB K (He.ga K "Half") (He.ma K (He.ga K "Half") "__eq__") && (rwB K (He.ga K "Room") (He.ga K "Wall") && (PySem.W.fnIn K (He.ma K (He.ga K "Room") "__getitem__") && (xfB K (He.ga K "InvalidKind") (He.ga K "FloorError") "value" && (ex27B K (He.ga K "InvalidKind") && (ap27B K (He.ga K "Plan") (He.ga K "Room") (He.ga K "Wall") (He.ga K "Half") && (cstB K))))))))))))
abbrev R : PySem.W.OpenRow := PySem.W.OpenLaw.row PySem.Challenge.rw_crosswalls_k27_halves_have_sides
abbrev hk : PySem.W.Hook := hookP 6 fa fn ex
def ob (s : PySem.W.SharedT) : He.AlX × He.FnW := obsP 6 fa fn ex (HandSHeadRun.getT s)
theorem ob_eq (s : PySem.W.SharedT) : ob s = hk.obs s.abs := obsP_eq (HandSHeadRun.getT_eq s)
def names1 : List PySem.Str := ["_wall", "__name__", "behind", "followed", "leads_nearer", "way_between", "starts_with", "those_across", "parted", "to_door"]
def names2 : List PySem.Str := ["is_in", "FloorError", "InvalidPlan", "InvalidKind", "InvalidWay", "SameKind", "OtherPlan", "TooLong", "TooMany", "MOST_LETTERS"]
def names3 : List PySem.Str := ["check_kind", "check_way", "check_length", "check_same_plan", "MOST_KINDS", "Plan", "are_letters", "is_pair", "upright", "kinds_across"]
def names4 : List PySem.Str := ["kinds_before", "check_no_common_kind", "group_of", "is_beside", "Room", "room_named", "Wall", "Half", "_law_begin", "_law_draw"]
def names5 : List PySem.Str := ["_law_pick", "_law_shuffled", "_law_is_crossing", "_law_drawn_floor", "_law_as_plan", "_law_drawn_way", "_law_turned", "_law_root_of", "_law_is_beyond", "_law_half_of"]
def names6 : List PySem.Str := ["_law_has", "_law_no_kind", "_law_has_its_side", "_law_is_alone", "_law_bare"]
def names : List PySem.Str := names1 ++ (names2 ++ (names3 ++ (names4 ++ (names5 ++ (names6)))))
theorem run (w : World) : HandSHeadRun.RunEq R (PySem.W.view R.prog [64]) hk ob 20000 names w := by
  intro os
  kernel_rfl
end TX
end
section
set_option maxRecDepth 100000
set_option maxHeartbeats 4000000
namespace TX
open PySem PySem.Spec PyProof.Rows L2 SX CW
section
variable {P : Program} {w : World} {K : PySem.W.Frag} {mg : Str → Option Value} {base : Heap} {C CR : Addr}
theorem sc_add : FnScope ["self", "other"] ["self", "other"] (defScope s_Room_add) := ⟨rfl, rfl, rfl, by decide +kernel, rfl, by decide +kernel, by decide +kernel⟩
theorem ok_roomadd {f : Addr} {fd : FuncData} (F : FunD K "__add__" "Room.__add__" (defArgs s_Room_add) (defBody s_Room_add) (defScope s_Room_add) [] [] f fd) (TR : RoomT K CR)
    (cW : C8.Cal P w K mg base 2 "check_way" (spChkWay C) []) (cF : C8.Cal P w K mg base 2 "followed" (spFollowed C) []) (cN : C8.Cal P w K mg base 5 "room_named" (spRoomNamed C CR) []) : FnOk P w K mg base C8.CX0 6 f fd ["self", "other"] (spRoomAdd C CR) := by
  refine F.ok sc_add (fun vs H Q E h => ?_) (fun cdv A outer s H vs Q E hr h => ?_)
  · obtain ⟨a, p, ks, X, n, way, rfl, _⟩ := h
    rfl
  · obtain ⟨a, p, ks, X, n, way, rfl, ha, hw, lw, ln, lf, k⟩ := h
    refine ⟨_, PSs.nox (pss_cons (ps_expr (C8.pe_c cW hr (by decide) (by rfl) (pa_cons (pe_fld (pv 0) rfl) (pa_cons (pv 1) pa_nil))))
      (pss_one (ps_ret (C8.pe_c cN hr (by decide) (by rfl) (pa_cons (pe_fld (pv 0) rfl) (pa_cons (C8.pe_c cF hr (by decide) (by rfl) (pa_cons (pe_fld (pv 0) rfl) (pa_cons (pe_fld (pv 0) rfl) (pa_cons (pv 1) pa_nil)))) pa_nil)))))), ?_⟩
    obtain ⟨dx, h1⟩ := ha.ex
    refine ⟨_, rfl, a, CR, dx, _, _, rfl, h1, TR.cl, TR.np, rf_plan _ _, _, rfl, p, ks, X, way, rfl, ha.pl, hw, lw, ?_⟩
    refine ⟨_, rfl, a, CR, dx, _, _, rfl, h1, TR.cl, TR.np, rf_plan _ _, _, rfl, a, CR, dx, _, _, rfl, h1, TR.cl, TR.np, rf_plan _ _, _, rfl, a, CR, dx, _, _, rfl, h1, TR.cl, TR.nn, rf_nameV _ _, _, rfl, p, ks, X, n, way, rfl, ha.pl, hw, by omega, ?_⟩
    exact ⟨p, ks, X, _, rfl, ha.pl, lf, fun r H' hr' sm => k r H' hr' sm⟩
end
end TX
end
section
set_option maxRecDepth 100000
set_option maxHeartbeats 4000000
/-! a[k] by an own method; a method called by keywords alone -/
namespace TX
open PySem PySem.Spec PyProof.Rows L2
section
variable {X : Cx} {k : Nat} {C f : Addr} {fd : FuncData} {ps : List Str} {sp : Sp}
def tIxOwn (C : Addr) (sp : Sp) (ta tb : TE) : TE := fun σ H Q => ta σ H fun x H1 => tb σ H1 fun y H2 => ∃ p dx fs, x = .ref p ∧ H2 p = some (.ins C dx fs) ∧ sp [x, y] H2 Q C8.E0
theorem pe_ixOwn {a b : Expr} {pos : Pos} {ta tb : TE} (F : FnOk X.prog X.w X.K X.mg X.base C8.CX0 k f fd ps sp) (M : Meth X.K C "__getitem__" f) (hn : PySem.W.fnIn X.K f = true) (bi : L2.Binds X.K fd ps []) (hr : Room (k + 1) X.A) (ha : PE X a ta) (hb : PE X b tb)
    (hsl : ∀ o i, subscripted b true o i = runValue (.builtin "lifetime.subscript" ⟨[o, i], []⟩) := by intro _ _; rfl) : PE X (.Subscript a b pos) (tIxOwn C sp ta tb) := by
  refine ⟨fun pins s σ H Q I h => ?_⟩
  refine Subscript_ (binT (R := fun x y H2 => ∃ p dx fs, x = .ref p ∧ H2 p = some (.ins C dx fs) ∧ sp [x, y] H2 Q C8.E0) ha hb I h fun v u s2 x y H2 I2 rx ry q => ?_)
  obtain ⟨p, dx, fs, rfl, hp, q⟩ := q
  have ev : v = .ref p := rx
  subst ev
  obtain ⟨oa, ia⟩ := inst_of I2 hp
  obtain ⟨m, fr⟩ := I2.fr
  exact PySem.W.sub_K fr I2.ok.mod.kin ia M.at_ hn M.fn (run_sub (L2.Sub.in1 (sub_self hr)) F bi I2 (.cons rx (.cons ry .nil)) q) (hsl _ _)
def tMethK (C : Addr) (m : Str) (sp : Sp) (gV : List V → List V → List V) (E : XK) (ta : TE) (tk : TA) : TE := fun σ H Q => ta σ H fun x H1 => ∃ a dx fs, x = .ref a ∧ H1 a = some (.ins C dx fs) ∧ fs.lookup m = none ∧
  tk σ H1 fun zs H2 => sp (gV [x] zs) H2 Q E
/-- o.m(k = e, ..) -/
theorem pe_methK0 {CX : CXT} {o : Expr} {m : Str} {apos pos : Pos} {kws : List Keyword} {ks : List Str} {ta : TE} {tk : TA} {E : XK} {g : List Value → List Value → List Value} {gV : List V → List V → List V} {pl : Sem Bool}
    (he : PE X o ta) (c : Cls X.K C) (hm : Meth X.K C m f) (F : FnOk X.prog X.w X.K X.mg X.base CX k f fd ps sp) (hr : Room k X.A) (hb : KBinds X.K fd ps ks g gV) (hx : Passes CX X E) (hkw : PK X kws tk)
    (h1 : ((backToKw pos (keywordEach kws X.env)).all fun x => x.1.isSome) = true := by rfl) (h2 : (backToKw pos (keywordEach kws X.env)).filterMap (fun x => x.1) = ks := by rfl)
    (h4 : (((backTo pos (starEach [] X.env)).any fun x => x.1) || (backToKw pos (keywordEach kws X.env)).any fun x => x.1.isNone) = false := by rfl)
    (ht : eval (.Call (.Attribute o m apos) [] kws pos) X.env = (do
      let ov ← eval o X.env
      standAt apos.atName
      let (f, first) ← holding [ov] (getMethod ov m pl)
      callWith pos f first (backTo pos (starEach [] X.env)) (backToKw pos (keywordEach kws X.env))) := by rfl) :
    PE X (.Call (.Attribute o m apos) [] kws pos) (tMethK C m sp gV E ta tk) := by
  refine ⟨fun pins s σ H Q I h => ?_⟩
  refine PySem.W.methodCall_KW (pl := pl) (thn (he.run pins s σ H _ I h) fun u s1 ⟨x, H1, I1, rx, a, dx, fs, ex, ea, l, q⟩ => ?_) ht
  subst ex
  obtain rfl : u = Value.ref a := rx
  refine getmeth_ok I1 ea c hm l ?_
  refine PySem.W.callWith_KW0 (first := [.ref a]) I1.kIn hm.kp h1 ?_ h4
  refine thn (hkw.run pos pins s1 σ H1 _ I1 q) fun ws s2 ⟨vs, H2, I2, r2, q2⟩ => ?_
  refine ⟨I2.kIn, ?_⟩
  rw [h2]
  exact run_fnk (us := [.ref a]) (vs := [.ref a]) F hr hb hx I2 (.cons rfl .nil) r2 q2
end
end TX
end
section
/-! The vectors of the doors: a way's vectors tell its name. -/
namespace CW
abbrev Vec := Nat → Int
def unitV : Nat → Vec := fun k j => if k = j then 1 else 0
/-- the vectors behind the door d -/
def thr (X : Nat → Nat → Bool) (m : Nat → Vec) (d : Nat) : Nat → Vec := fun k j => if k = d then -(m d j) else if X d k = true then m k j else m k j + 2 * m d j
/-- the vectors of a way told backwards -/
def mr (X : Nat → Nat → Bool) : List Nat → Nat → Vec
  | [] => unitV
  | d :: r => thr X (mr X r) d
/-- can the letter k come to the front? -/
def rd (X : Nat → Nat → Bool) : List Nat → Nat → Bool
  | [], _ => false
  | o :: r, k => (o == k) || (X o k && rd X r k)
def red (X : Nat → Nat → Bool) : List Nat → Bool
  | [] => true
  | k :: r => !rd X r k && red X r
theorem thr_thr {X : Nat → Nat → Bool} (m : Nat → Vec) (d : Nat) : thr X (thr X m d) d = m := by
  funext k j
  unfold thr
  by_cases h : k = d
  · subst h
    simp
  · simp only [if_neg h, if_true]
    by_cases x : X d k = true
    · simp only [if_pos x]
    · simp only [if_neg x]
      omega
theorem thr_comm {X : Nat → Nat → Bool} (cr : Crossing X) (m : Nat → Vec) {a b : Nat} (h : X a b = true) : thr X (thr X m a) b = thr X (thr X m b) a := by
  have n := cr.ne h
  have h2 : X b a = true := by rw [cr.sym]; exact h
  funext k j
  unfold thr
  by_cases ka : k = a
  · subst ka
    simp only [if_neg n, if_pos h2, if_pos h, if_true, if_neg n.symm]
  · by_cases kb : k = b
    · subst kb
      simp only [if_neg n, if_pos h2, if_pos h, if_true, if_neg n.symm]
    · simp only [if_neg ka, if_neg kb, if_pos h, if_pos h2, if_neg n, if_neg n.symm]
      by_cases xa : X a k = true <;> by_cases xb : X b k = true <;> simp only [xa, xb, if_true, if_false] <;> first | rfl | (simp; omega)
theorem mr_pos {X : Nat → Nat → Bool} (cr : Crossing X) : ∀ r : List Nat, red X r = true →
    (∀ k, rd X r k = false → ∀ j, 0 ≤ mr X r k j) ∧ (∀ a b, a ≠ b → X a b = false → ∀ j, 0 ≤ mr X r a j + mr X r b j)
  | [], _ => by
    constructor
    · intro k _ j
      show 0 ≤ (if k = j then (1 : Int) else 0)
      split <;> omega
    · intro a b _ _ j
      show 0 ≤ (if a = j then (1 : Int) else 0) + (if b = j then 1 else 0)
      split <;> split <;> omega
  | d :: r, h => by
    have h' : rd X r d = false ∧ red X r = true := by
      unfold red at h
      simpa using h
    obtain ⟨p, q⟩ := mr_pos cr r h'.2
    have pd := p d h'.1
    constructor
    · intro k hk j
      have hk' : d ≠ k ∧ (X d k = true → rd X r k = false) := by
        unfold rd at hk
        rw [Bool.or_eq_false_iff] at hk
        refine ⟨by simpa using hk.1, fun x => ?_⟩
        have := hk.2
        rw [x, Bool.true_and] at this
        exact this
      show 0 ≤ (if k = d then -(mr X r d j) else if X d k = true then mr X r k j else mr X r k j + 2 * mr X r d j)
      rw [if_neg hk'.1.symm]
      by_cases x : X d k = true
      · rw [if_pos x]
        exact p k (hk'.2 x) j
      · rw [if_neg x]
        have x2 : X k d = false := by rw [cr.sym]; simpa using x
        have := q k d hk'.1.symm x2 j
        have := pd j
        omega
    · intro a b nab xab j
      have xba : X b a = false := by rw [cr.sym]; exact xab
      have s := q a b nab xab j
      have dj := pd j
      show 0 ≤ (if a = d then -(mr X r d j) else if X d a = true then mr X r a j else mr X r a j + 2 * mr X r d j) + (if b = d then -(mr X r d j) else if X d b = true then mr X r b j else mr X r b j + 2 * mr X r d j)
      by_cases ad : a = d
      · subst ad
        rw [if_pos rfl, if_neg nab.symm, if_neg (by rw [xab]; simp)]
        omega
      · by_cases bd : b = d
        · subst bd
          rw [if_pos rfl, if_neg nab, if_neg (by rw [xba]; simp)]
          omega
        · rw [if_neg ad, if_neg bd]
          split <;> split <;> omega
theorem mr_neg {X : Nat → Nat → Bool} (cr : Crossing X) : ∀ (r : List Nat) (k : Nat), red X r = true → rd X r k = true → ∀ j, mr X r k j ≤ 0
  | [], k, _, h, _ => by cases h
  | o :: r, k, h, hk, j => by
    have h' : rd X r o = false ∧ red X r = true := by
      unfold red at h
      simpa using h
    show (if k = o then -(mr X r o j) else if X o k = true then mr X r k j else mr X r k j + 2 * mr X r o j) ≤ 0
    by_cases e : k = o
    · rw [if_pos e]
      have := (mr_pos cr r h'.2).1 o h'.1 j
      omega
    · rw [if_neg e]
      unfold rd at hk
      rw [Bool.or_eq_true, Bool.and_eq_true] at hk
      rcases hk with z | ⟨x, z⟩
      · exact absurd (beq_iff_eq.mp z).symm e
      · rw [if_pos x]
        exact mr_neg cr r k h'.2 z j
theorem mr_odd {X : Nat → Nat → Bool} : ∀ (r : List Nat) (k j : Nat), (mr X r k j - unitV k j) % 2 = 0
  | [], k, j => by
    show (unitV k j - unitV k j) % 2 = 0
    omega
  | d :: r, k, j => by
    have h1 := mr_odd (X := X) r k j
    have h2 := mr_odd (X := X) r d j
    show ((if k = d then -(mr X r d j) else if X d k = true then mr X r k j else mr X r k j + 2 * mr X r d j) - unitV k j) % 2 = 0
    by_cases e : k = d
    · subst e
      rw [if_pos rfl]
      omega
    · rw [if_neg e]
      split <;> omega
/-- the doors that lead nearer: those with a number below nought -/
theorem back_iff {X : Nat → Nat → Bool} (cr : Crossing X) {r ks : List Nat} {k : Nat} (h : red X r = true) (hk : k ∈ ks) : (∃ j ∈ ks, mr X r k j < 0) ↔ rd X r k = true := by
  constructor
  · rintro ⟨j, _, lt⟩
    cases e : rd X r k with
    | true => rfl
    | false =>
      have := (mr_pos cr r h).1 k e j
      omega
  · intro e
    refine ⟨k, hk, ?_⟩
    have a := mr_neg cr r k h e k
    have b := mr_odd (X := X) r k k
    have u : unitV k k = 1 := if_pos rfl
    rw [u] at b
    omega
theorem mr_app {X : Nat → Nat → Bool} {t t' : List Nat} (h : mr X t = mr X t') : ∀ l : List Nat, mr X (l ++ t) = mr X (l ++ t')
  | [] => h
  | a :: l => by
    show thr X (mr X (l ++ t)) a = thr X (mr X (l ++ t')) a
    rw [mr_app h l]
/-- a letter goes through letters that all cross it -/
theorem mr_pass {X : Nat → Nat → Bool} (cr : Crossing X) {k : Nat} (t : List Nat) : ∀ l : List Nat, (∀ c ∈ l, X k c = true) → mr X (l ++ k :: t) = mr X (k :: (l ++ t))
  | [], _ => rfl
  | a :: l, h => by
    have ih := mr_pass cr t l fun c hc => h c (List.mem_cons_of_mem _ hc)
    show thr X (mr X (l ++ k :: t)) a = thr X (thr X (mr X (l ++ t)) a) k
    rw [ih]
    exact thr_comm cr _ (h a List.mem_cons_self)
theorem mr_beh {ks : List Nat} {X : Nat → Nat → Bool} (cr : Crossing X) (name : List Nat) (k : Nat) (t : List Nat) : mr X (beh ks X name k ++ t) = mr X (name ++ k :: t) := by
  obtain ⟨tl, rest, e0, h1, _, h⟩ := beh_cases ks X name k
  have en : name = rest.reverse ++ tl.reverse := by
    have q := congrArg List.reverse e0
    rw [List.reverse_reverse, List.reverse_append] at q
    exact q
  have ht : ∀ c ∈ tl.reverse, X k c = true := fun c hc => (h1 c (List.mem_reverse.mp hc)).2
  rcases h with ⟨r, er, eb⟩ | ⟨_, er, lr, et, _, _, eb⟩
  · rw [eb, en, er, List.reverse_append, List.reverse_cons, List.append_assoc, List.append_assoc, List.append_assoc]
    refine mr_app ?_ r.reverse
    show mr X (tl.reverse ++ t) = thr X (mr X (tl.reverse ++ k :: t)) k
    rw [mr_pass cr t tl.reverse ht]
    show _ = thr X (thr X (mr X (tl.reverse ++ t)) k) k
    rw [thr_thr]
  · have hl : ∀ c ∈ lr.reverse, X k c = true := fun c hc => ht c (by rw [et, List.reverse_append]; exact List.mem_append_right _ hc)
    rw [eb, en, et, List.reverse_append, List.reverse_append, List.reverse_cons, List.reverse_append]
    have e1 : rest.reverse ++ er.reverse ++ [k] ++ lr.reverse ++ t = (rest.reverse ++ er.reverse) ++ (k :: (lr.reverse ++ t)) := by simp
    have e2 : rest.reverse ++ (er.reverse ++ lr.reverse) ++ k :: t = (rest.reverse ++ er.reverse) ++ (lr.reverse ++ k :: t) := by simp
    rw [e1, e2]
    exact mr_app (mr_pass cr t lr.reverse hl).symm _
/-- a way and the name to which it leads have the same vectors -/
theorem mr_fol {ks : List Nat} {X : Nat → Nat → Bool} (cr : Crossing X) : ∀ (way name t : List Nat), mr X (fol ks X name way ++ t) = mr X (name ++ (way ++ t))
  | [], _, _ => rfl
  | k :: way, name, t => by
    show mr X (fol ks X (beh ks X name k) way ++ t) = _
    rw [mr_fol cr way (beh ks X name k) t, mr_beh cr name k (way ++ t)]
    rfl
/-- the letters that can come to the front -/
theorem rd_split {X : Nat → Nat → Bool} {k : Nat} : ∀ {r : List Nat}, rd X r k = true → ∃ u v, r = u ++ k :: v ∧ ∀ c ∈ u, X c k = true
  | [], h => by cases h
  | o :: r, h => by
    unfold rd at h
    rw [Bool.or_eq_true, Bool.and_eq_true] at h
    rcases h with z | ⟨x, z⟩
    · exact ⟨[], r, by rw [beq_iff_eq.mp z]; rfl, fun c hc => by cases hc⟩
    · obtain ⟨u, v, e, hu⟩ := rd_split z
      refine ⟨o :: u, v, by rw [e]; rfl, fun c hc => ?_⟩
      rcases List.mem_cons.mp hc with q | q
      · rw [q]; exact x
      · exact hu c q
theorem bar_hitV {X : Nat → Nat → Bool} {k : Nat} {r : List Nat} : ∀ u : List Nat, (∀ c ∈ u, X c k = true) → bar X (u ++ k :: r) k = true
  | [], _ => by
    show ((k == k) || _) = true
    simp
  | o :: u, h => by
    show ((k == o) || (X o k && (decide (k < o) || bar X (u ++ k :: r) k))) = true
    rw [bar_hitV u fun c hc => h c (List.mem_cons_of_mem _ hc), h o List.mem_cons_self]
    simp
theorem bar_moreV {X : Nat → Nat → Bool} {k : Nat} {r : List Nat} : ∀ {u : List Nat}, bar X (u ++ r) k = false → bar X u k = false
  | [], _ => rfl
  | o :: u, h => by
    obtain ⟨h1, h2⟩ := bar_cons_false.mp h
    exact bar_cons_false.mpr ⟨h1, fun x => ⟨(h2 x).1, bar_moreV (h2 x).2⟩⟩
theorem nf_headV {X : Nat → Nat → Bool} {r : List Nat} : ∀ {u : List Nat}, nf X (u ++ r) = true → nf X u = true
  | [], _ => rfl
  | o :: u, h => by
    obtain ⟨h1, h2⟩ := nf_cons.mp h
    exact nf_cons.mpr ⟨bar_moreV h1, nf_headV h2⟩
/-- each part of a name is a name -/
theorem isName_tail {X : Nat → Nat → Bool} {a : Nat} {l : List Nat} (h : isName X (a :: l) = true) : isName X l = true := by
  unfold isName at h ⊢
  rw [List.reverse_cons] at h
  exact nf_headV h
theorem isName_rd {X : Nat → Nat → Bool} {k : Nat} {r : List Nat} (h : isName X (k :: r) = true) : rd X r k = false := by
  cases e : rd X r k with
  | false => rfl
  | true =>
    obtain ⟨u, v, e2, hu⟩ := rd_split e
    unfold isName at h
    have e3 : (k :: r).reverse = v.reverse ++ (k :: (u.reverse ++ k :: [])) := by
      rw [e2]
      simp
    rw [e3] at h
    have h2 := (nf_cons.mp (nf_tail h)).1
    rw [bar_hitV u.reverse fun c hc => hu c (List.mem_reverse.mp hc)] at h2
    cases h2
theorem isName_red {X : Nat → Nat → Bool} : ∀ {l : List Nat}, isName X l = true → red X l = true
  | [], _ => rfl
  | k :: l, h => by
    show (!rd X l k && red X l) = true
    rw [isName_rd h, isName_red (isName_tail h)]
    rfl
theorem bar_least {X : Nat → Nat → Bool} {k : Nat} : ∀ {u : List Nat}, (∀ c ∈ u, X c k = true) → bar X u k = false → ∀ c ∈ u, ¬ k < c
  | [], _, _, c, hc => by cases hc
  | o :: u, h, b, c, hc => by
    obtain ⟨h1, h2⟩ := bar_cons_false.mp b
    have h3 := h2 (h o List.mem_cons_self)
    rcases List.mem_cons.mp hc with q | q
    · rw [q]; exact h3.1
    · exact bar_least (fun c hc => h c (List.mem_cons_of_mem _ hc)) h3.2 c q
/-- the first letter of a name is the least that can come to the front -/
theorem first_least {X : Nat → Nat → Bool} {b k : Nat} {l : List Nat} (h : isName X (b :: l) = true) (hk : rd X (b :: l) k = true) : b ≤ k := by
  obtain ⟨u, v, e, hu⟩ := rd_split hk
  cases u with
  | nil =>
    have := (List.cons.inj e).1
    omega
  | cons o u =>
    have eo := (List.cons.inj e).1
    unfold isName at h
    rw [e] at h
    have e3 : ((o :: u) ++ k :: v).reverse = v.reverse ++ (k :: (o :: u).reverse) := by simp
    rw [e3] at h
    have h2 := (nf_cons.mp (nf_tail h)).1
    have h3 := bar_least (fun c hc => hu c (List.mem_reverse.mp hc)) h2 o (List.mem_reverse.mpr List.mem_cons_self)
    omega
theorem first_rd {X : Nat → Nat → Bool} {b : Nat} {l : List Nat} : rd X (b :: l) b = true := by
  show ((b == b) || _) = true
  simp
/-- the vectors behind the first door are those of the rest -/
theorem mr_first {X : Nat → Nat → Bool} (b : Nat) (l : List Nat) : thr X (mr X (b :: l)) b = mr X l := by
  show thr X (thr X (mr X l) b) b = _
  exact thr_thr _ _
end CW
end
section
namespace CW
theorem rd_of_mr {X : Nat → Nat → Bool} (cr : Crossing X) {a b : List Nat} (ha : isName X a = true) (hb : isName X b = true) (h : mr X a = mr X b) (k : Nat) (e : rd X a k = true) : rd X b k = true := by
  have z := (back_iff cr (r := a) (ks := [k]) (k := k) (isName_red ha) List.mem_cons_self).mpr e
  rw [h] at z
  obtain ⟨j, hj, lt⟩ := z
  exact (back_iff cr (r := b) (ks := [k]) (k := k) (isName_red hb) List.mem_cons_self).mp ⟨j, hj, lt⟩
/-- two names with the same vectors are one -/
theorem mr_inj {X : Nat → Nat → Bool} (cr : Crossing X) : ∀ {a b : List Nat}, isName X a = true → isName X b = true → mr X a = mr X b → a = b
  | [], [], _, _, _ => rfl
  | [], y :: b, ha, hb, h => by
    have := rd_of_mr cr hb ha h.symm y first_rd
    cases this
  | x :: a, [], ha, hb, h => by
    have := rd_of_mr cr ha hb h x first_rd
    cases this
  | x :: a, y :: b, ha, hb, h => by
    have h1 := first_least hb (rd_of_mr cr ha hb h x first_rd)
    have h2 := first_least ha (rd_of_mr cr hb ha h.symm y first_rd)
    have e : x = y := by omega
    subst e
    have h3 : mr X a = mr X b := by
      rw [← mr_first x a, ← mr_first x b, h]
    rw [mr_inj cr (isName_tail ha) (isName_tail hb) h3]
theorem mr_back {X : Nat → Nat → Bool} (t : List Nat) : ∀ w : List Nat, mr X (w ++ (w.reverse ++ t)) = mr X t
  | [] => rfl
  | a :: w => by
    rw [List.reverse_cons, List.append_assoc]
    show thr X (mr X (w ++ (w.reverse ++ ([a] ++ t)))) a = mr X t
    rw [mr_back ([a] ++ t) w]
    exact mr_first a t
theorem mr_fol0 {ks : List Nat} {X : Nat → Nat → Bool} (cr : Crossing X) (way name : List Nat) : mr X (fol ks X name way) = mr X (name ++ way) := by
  have z := mr_fol (ks := ks) cr way name []
  rw [List.append_nil, List.append_nil] at z
  exact z
/-- a name leads to itself -/
theorem fol_self {ks : List Nat} {X : Nat → Nat → Bool} (cr : Crossing X) {n : List Nat} (hn : isName X n = true) (hk : ∀ c ∈ n, c ∈ ks) : fol ks X [] n = n :=
  mr_inj cr (fol_name cr n [] (fun c h => by cases h) hk rfl).1 hn (mr_fol0 cr n [])
/-- a way and its turning back lead home -/
theorem fol_back {ks : List Nat} {X : Nat → Nat → Bool} (cr : Crossing X) {w : List Nat} (hk : ∀ c ∈ w, c ∈ ks) : fol ks X (fol ks X [] w) w.reverse = [] := by
  have h1 := fol_name cr w [] (fun c h => by cases h) hk rfl
  have h2 := fol_name cr w.reverse (fol ks X [] w) h1.2 (fun c h => hk c (List.mem_reverse.mp h)) h1.1
  refine mr_inj cr h2.1 rfl ?_
  rw [mr_fol0 cr]
  have z := mr_fol (ks := ks) cr w [] w.reverse
  rw [z]
  have y := mr_back (X := X) [] w
  rw [List.append_nil] at y
  exact y
theorem fol_back2 {ks : List Nat} {X : Nat → Nat → Bool} (cr : Crossing X) {n : List Nat} (hn : isName X n = true) (hk : ∀ c ∈ n, c ∈ ks) : fol ks X n n.reverse = [] := by
  have z := fol_back cr hk
  rw [fol_self cr hn hk] at z
  exact z
/-- the way between two rooms leads there -/
theorem fol_between {ks : List Nat} {X : Nat → Nat → Bool} (cr : Crossing X) {n m : List Nat} (hn : isName X n = true) (hm : isName X m = true) (kn : ∀ c ∈ n, c ∈ ks) (km : ∀ c ∈ m, c ∈ ks) : fol ks X n (fol ks X [] (n.reverse ++ m)) = m := by
  have kw : ∀ c ∈ n.reverse ++ m, c ∈ ks := fun c h => (List.mem_append.mp h).elim (fun z => kn c (List.mem_reverse.mp z)) (km c)
  have h1 := fol_name cr (n.reverse ++ m) [] (fun c h => by cases h) kw rfl
  have h2 := fol_name cr (fol ks X [] (n.reverse ++ m)) n kn h1.2 hn
  refine mr_inj cr h2.1 hm ?_
  rw [mr_fol0 cr, mr_app (mr_fol0 (ks := ks) cr (n.reverse ++ m) []) n]
  exact mr_back m n
/-- there is no way just between a room and itself -/
theorem between_nil {ks : List Nat} {X : Nat → Nat → Bool} (cr : Crossing X) {n m : List Nat} (hn : isName X n = true) (hm : isName X m = true) (kn : ∀ c ∈ n, c ∈ ks) (km : ∀ c ∈ m, c ∈ ks) : fol ks X [] (n.reverse ++ m) = [] ↔ n = m := by
  constructor
  · intro e
    have z := fol_between cr hn hm kn km
    rw [e] at z
    exact z
  · intro e
    subst e
    have kw : ∀ c ∈ n.reverse ++ n, c ∈ ks := fun c h => (List.mem_append.mp h).elim (fun z => kn c (List.mem_reverse.mp z)) (kn c)
    refine mr_inj cr (fol_name cr (n.reverse ++ n) [] (fun c h => by cases h) kw rfl).1 rfl ?_
    rw [mr_fol0 cr]
    have z := mr_back (X := X) [] n.reverse
    rw [List.reverse_reverse, List.append_nil] at z
    exact z
end CW
end
section
/-! Ways between rooms: turned about, over a third room, their lengths; the doors that lead nearer. -/
namespace CW
variable {X : Nat → Nat → Bool} {ks : List Nat}
theorem in_app {a b : List Nat} (h1 : ∀ c ∈ a, c ∈ ks) (h2 : ∀ c ∈ b, c ∈ ks) : ∀ c ∈ a ++ b, c ∈ ks := fun c h => (List.mem_append.mp h).elim (h1 c) (h2 c)
theorem in_rev {a : List Nat} (h1 : ∀ c ∈ a, c ∈ ks) : ∀ c ∈ a.reverse, c ∈ ks := fun c h => h1 c (List.mem_reverse.mp h)
theorem fol_in (cr : Crossing X) {w : List Nat} (hw : ∀ c ∈ w, c ∈ ks) : ∀ c ∈ fol ks X [] w, c ∈ ks := (fol_name cr w [] (fun c h => by cases h) hw rfl).2
theorem fol_isName (cr : Crossing X) {w : List Nat} (hw : ∀ c ∈ w, c ∈ ks) : isName X (fol ks X [] w) = true := (fol_name cr w [] (fun c h => by cases h) hw rfl).1
/-- ways with the same vectors lead to the same room -/
theorem fol_eq (cr : Crossing X) {a b : List Nat} (ha : ∀ c ∈ a, c ∈ ks) (hb : ∀ c ∈ b, c ∈ ks) (h : mr X a = mr X b) : fol ks X [] a = fol ks X [] b := by
  refine mr_inj cr (fol_isName cr ha) (fol_isName cr hb) ?_
  rw [mr_fol0 cr, mr_fol0 cr]
  exact h
theorem mr_inv {n w : List Nat} (h : ∀ t, mr X (n ++ t) = mr X (w ++ t)) (t : List Nat) : mr X (n.reverse ++ t) = mr X (w.reverse ++ t) := by
  rw [← mr_app (mr_back (X := X) t w) n.reverse, ← mr_app (h (w.reverse ++ t)) n.reverse]
  have z := mr_back (X := X) (w.reverse ++ t) n.reverse
  rw [List.reverse_reverse] at z
  exact z
theorem mr_folT (cr : Crossing X) (w t : List Nat) : mr X (fol ks X [] w ++ t) = mr X (w ++ t) := mr_fol (ks := ks) cr w [] t
/-- the way between the ends of two ways -/
theorem fol_ends (cr : Crossing X) {u v : List Nat} (hu : ∀ c ∈ u, c ∈ ks) (hv : ∀ c ∈ v, c ∈ ks) : fol ks X [] ((fol ks X [] u).reverse ++ fol ks X [] v) = fol ks X [] (u.reverse ++ v) := by
  refine fol_eq cr (in_app (in_rev (fol_in cr hu)) (fol_in cr hv)) (in_app (in_rev hu) hv) ?_
  rw [mr_inv (mr_folT (ks := ks) cr u)]
  refine mr_app ?_ u.reverse
  have z := mr_folT (ks := ks) cr v []
  rw [List.append_nil, List.append_nil] at z
  exact z
theorem fol_rev (cr : Crossing X) {w : List Nat} (hw : ∀ c ∈ w, c ∈ ks) : fol ks X [] (fol ks X [] w).reverse = fol ks X [] w.reverse := by
  refine fol_eq cr (in_rev (fol_in cr hw)) (in_rev hw) ?_
  have z := mr_inv (mr_folT (ks := ks) cr w) []
  rw [List.append_nil, List.append_nil] at z
  exact z
theorem fol_len0 (w : List Nat) : (fol ks X [] w).length ≤ w.length := by
  have z := fol_length ks X w []
  rw [List.length_nil, Nat.zero_add] at z
  exact z
theorem fol_rev_len (cr : Crossing X) {w : List Nat} (hw : ∀ c ∈ w, c ∈ ks) : (fol ks X [] w.reverse).length = (fol ks X [] w).length := by
  have gen : ∀ {w : List Nat}, (∀ c ∈ w, c ∈ ks) → (fol ks X [] w.reverse).length ≤ (fol ks X [] w).length := by
    intro w hw
    rw [← fol_rev cr hw]
    have z := fol_len0 (X := X) (ks := ks) (fol ks X [] w).reverse
    rw [List.length_reverse] at z
    exact z
  have a := gen hw
  have b := gen (in_rev hw)
  rw [List.reverse_reverse] at b
  omega
theorem back_way (a b : List Nat) : (a.reverse ++ b).reverse = b.reverse ++ a := by rw [List.reverse_append, List.reverse_reverse]
/-- as far there as back -/
theorem dist_sym (cr : Crossing X) {n m : List Nat} (hn : ∀ c ∈ n, c ∈ ks) (hm : ∀ c ∈ m, c ∈ ks) : (fol ks X [] (m.reverse ++ n)).length = (fol ks X [] (n.reverse ++ m)).length := by
  have z := fol_rev_len cr (in_app (in_rev hn) hm)
  rw [back_way] at z
  exact z
/-- the way back -/
theorem way_back (cr : Crossing X) {n m : List Nat} (hn : ∀ c ∈ n, c ∈ ks) (hm : ∀ c ∈ m, c ∈ ks) : fol ks X [] (fol ks X [] (n.reverse ++ m)).reverse = fol ks X [] (m.reverse ++ n) := by
  rw [fol_rev cr (in_app (in_rev hn) hm), back_way]
/-- no way is longer than one over a third room -/
theorem dist_over (cr : Crossing X) {n m p : List Nat} (hn : ∀ c ∈ n, c ∈ ks) (hm : ∀ c ∈ m, c ∈ ks) (hp : ∀ c ∈ p, c ∈ ks) :
    (fol ks X [] (n.reverse ++ m)).length ≤ (fol ks X [] (n.reverse ++ p)).length + (fol ks X [] (p.reverse ++ m)).length := by
  have h1 := in_app (in_rev hn) hp
  have h2 := in_app (in_rev hp) hm
  have e : fol ks X [] (fol ks X [] (n.reverse ++ p) ++ fol ks X [] (p.reverse ++ m)) = fol ks X [] (n.reverse ++ m) := by
    refine fol_eq cr (in_app (fol_in cr h1) (fol_in cr h2)) (in_app (in_rev hn) hm) ?_
    rw [mr_folT cr]
    have z := mr_folT (ks := ks) cr (p.reverse ++ m) []
    rw [List.append_nil, List.append_nil] at z
    rw [mr_app z, List.append_assoc]
    exact mr_app (mr_back m p) n.reverse
  rw [← e]
  have z := fol_len0 (X := X) (ks := ks) (fol ks X [] (n.reverse ++ p) ++ fol ks X [] (p.reverse ++ m))
  rw [List.length_append] at z
  exact z
/-- does the door k lead nearer? -/
theorem rd_over {k : Nat} {rest : List Nat} (cr : Crossing X) : ∀ {tl : List Nat}, (∀ c ∈ tl, X k c = true) → rd X (tl ++ rest) k = rd X rest k
  | [], _ => rfl
  | c :: tl, h => by
    have hc := h c List.mem_cons_self
    show ((c == k) || (X c k && rd X (tl ++ rest) k)) = _
    rw [cr.sym c k, hc, rd_over cr fun d hd => h d (List.mem_cons_of_mem _ hd)]
    have ne : (c == k) = false := by
      rw [beq_eq_false_iff_ne]
      exact (cr.ne hc).symm
    rw [ne]
    simp
theorem beh_len (cr : Crossing X) {name : List Nat} {k : Nat} (hk : ∀ c ∈ name, c ∈ ks) : (beh ks X name k).length + (if rd X name.reverse k = true then 1 else 0) = name.length + (if rd X name.reverse k = true then 0 else 1) := by
  obtain ⟨tl, rest, e, h1, h2, h3⟩ := beh_cases ks X name k
  have el := congrArg List.length e
  rw [List.length_reverse, List.length_append] at el
  have er := rd_over (rest := rest) cr fun c hc => (h1 c hc).2
  rw [e, er]
  rcases h3 with ⟨r, er2, q⟩ | ⟨h4, er2, lr, et, h5, h6, q⟩
  · have z : rd X rest k = true := by
      rw [er2]
      exact first_rd
    rw [z, if_pos rfl, if_pos rfl, q, List.length_reverse, List.length_append]
    rw [er2, List.length_cons] at el
    omega
  · have z : rd X rest k = false := by
      cases hr : rest with
      | nil => rfl
      | cons c r =>
        have n1 := h2 c r hr
        have n2 : c ≠ k := fun w => h4 r (by rw [hr, w])
        have hc : c ∈ ks := hk c (List.mem_reverse.mp (by rw [e, hr]; simp))
        have n3 : X k c = false := by
          cases w : X k c with
          | false => rfl
          | true => exact absurd ⟨hc, w⟩ n1
        show ((c == k) || (X c k && rd X r k)) = false
        rw [cr.sym c k, n3]
        simpa using n2
    rw [z, q, List.length_reverse]
    rw [et] at el
    simp only [List.length_append, List.length_cons] at el ⊢
    simp
    omega
theorem fol_parity (cr : Crossing X) : ∀ (way name : List Nat), (∀ c ∈ name, c ∈ ks) → (∀ c ∈ way, c ∈ ks) → (fol ks X name way).length % 2 = (name.length + way.length) % 2
  | [], name, _, _ => rfl
  | k :: way, name, hn, hw => by
    have h1 := beh_len (k := k) cr hn
    have h2 := fol_parity cr way (beh ks X name k) (beh_letters hn (hw k List.mem_cons_self)) fun c hc => hw c (List.mem_cons_of_mem _ hc)
    show (fol ks X (beh ks X name k) way).length % 2 = _
    rw [h2, List.length_cons]
    revert h1
    split <;> omega
/-- the three lengths together are even -/
theorem len_even (cr : Crossing X) {n m : List Nat} (hn : ∀ c ∈ n, c ∈ ks) (hm : ∀ c ∈ m, c ∈ ks) : (n.length + m.length + (fol ks X [] (n.reverse ++ m)).length) % 2 = 0 := by
  have z := fol_parity cr (n.reverse ++ m) [] (fun c h => by cases h) (in_app (in_rev hn) hm)
  rw [List.length_append, List.length_reverse, List.length_nil] at z
  omega
theorem nf_red : ∀ {r : List Nat}, nf X r = true → red X r = true
  | [], _ => rfl
  | k :: r, h => by
    obtain ⟨h1, h2⟩ := nf_cons.mp h
    show (!rd X r k && red X r) = true
    rw [nf_red h2]
    cases e : rd X r k with
    | false => rfl
    | true =>
      obtain ⟨u, v, e2, hu⟩ := rd_split e
      rw [e2, bar_hitV u hu] at h1
      cases h1
/-- what is left behind the letters that cross k begins with k just if k can come to the front -/
theorem drop_rd (cr : Crossing X) {k : Nat} : ∀ {r : List Nat}, (∀ c ∈ r, c ∈ ks) → ((r.dropWhile fun c => (acr ks X k).contains c).head? == some k) = rd X r k
  | [], _ => rfl
  | o :: r, h => by
    rw [List.dropWhile_cons]
    have ho := h o List.mem_cons_self
    show _ = ((o == k) || (X o k && rd X r k))
    cases x : X k o with
    | true =>
      rw [if_pos (mem_acr.mpr ⟨ho, x⟩), drop_rd cr fun c hc => h c (List.mem_cons_of_mem _ hc), cr.sym o k, x]
      have ne : (o == k) = false := by
        rw [beq_eq_false_iff_ne]
        exact (cr.ne x).symm
      rw [ne]
      simp
    | false =>
      have n : ¬ (acr ks X k).contains o = true := fun z => by
        have := (mem_acr.mp z).2
        rw [x] at this
        cases this
      rw [if_neg n, cr.sym o k, x]
      simp
/-- two letters that can both come to the front cross -/
theorem rd_cross (cr : Crossing X) {a b : Nat} (ne : a ≠ b) : ∀ {r : List Nat}, rd X r a = true → rd X r b = true → X a b = true
  | [], h, _ => by cases h
  | o :: r, h1, h2 => by
    have q1 : ((o == a) || (X o a && rd X r a)) = true := h1
    have q2 : ((o == b) || (X o b && rd X r b)) = true := h2
    rw [Bool.or_eq_true, Bool.and_eq_true, beq_iff_eq] at q1 q2
    rcases q1 with e1 | ⟨x1, r1⟩
    · rcases q2 with e2 | ⟨x2, r2⟩
      · exact absurd (e1.symm.trans e2) ne
      · rw [← e1]; exact x2
    · rcases q2 with e2 | ⟨x2, r2⟩
      · rw [← e2, cr.sym]; exact x1
      · exact rd_cross cr ne r1 r2
/-- the vectors of a way told backwards, and of its name -/
theorem mr_revs (cr : Crossing X) (w : List Nat) : mr X w.reverse = mr X (fol ks X [] w).reverse := by
  have z := mr_inv (mr_folT (ks := ks) cr w) []
  rw [List.append_nil, List.append_nil] at z
  exact z.symm
end CW
end
section
set_option maxRecDepth 100000
set_option maxHeartbeats 4000000
/-! a room's length, its door's room -/
namespace TX
open PySem PySem.Spec PyProof.Rows L2 SX CW
def spChkKind (C : Addr) : Sp := fun vs H Q _ => ∃ (p : Addr) (ks : List Nat) (X : Nat → Nat → Bool) (k : Nat), vs = [.ref p, .str (S [k])] ∧ PlanAt C H p ks X ∧ k ∈ ks ∧ Q .non H
def spLen (C CR : Addr) : Sp := fun vs H Q _ => ∃ (a p : Addr) (ks : List Nat) (X : Nat → Nat → Bool) (n : List Nat), vs = [.ref a] ∧ RoomAt C CR H a p ks X n ∧ n.length ≤ 2000 ∧ Q (.int (n.length : Int)) H
def spGet (C CR : Addr) : Sp := fun vs H Q _ => ∃ (a p : Addr) (ks : List Nat) (X : Nat → Nat → Bool) (n : List Nat) (k : Nat), vs = [.ref a, .str (S [k])] ∧ RoomAt C CR H a p ks X n ∧ k ∈ ks ∧ n.length ≤ 1999 ∧
  ∀ (r : Addr) (H' : Hp), RoomAt C CR H' r p ks X (beh ks X n k) → L2.Same H H' → Q (.ref r) H'
section
variable {P : Program} {w : World} {K : PySem.W.Frag} {mg : Str → Option Value} {base : Heap} {C CR : Addr}
theorem sc_chkkind : FnScope ["plan", "value"] ["plan", "value"] (defScope s_check_kind) := ⟨rfl, rfl, rfl, by decide +kernel, rfl, by decide +kernel, by decide +kernel⟩
theorem ok_chkkind (F : D K mg "check_kind" s_check_kind []) (T : PlanT K C) (zi : mg "isinstance" = none) (zs : mg "str" = none) (zl : mg "len" = none) : C8.Cal P w K mg base 1 "check_kind" (spChkKind C) [] := by
  refine F.cal (ps := ["plan", "value"]) sc_chkkind (fun f fd F => F.bindsN fun _ _ _ _ _ _ us hl => match us, hl with | [_, _], _ => rfl) (fun vs H Q E h => ?_) (fun f cdv A outer s H vs Q E hr h => ?_)
  · obtain ⟨p, ks, X, k, rfl, _⟩ := h
    rfl
  · obtain ⟨p, ks, X, k, rfl, hp, hk, q⟩ := h
    obtain ⟨dx, tp, da, dl, h1, h2, h3, h4⟩ := hp.ex
    refine ⟨_, pss_one (ps_if (PW.pt (pw_or (pt_not (pt_val (pe_callB call_isi (by rfl) zi PyProof.Rows.boot_isinstance (pa_cons (pv 1) (pa_cons (pe_bltn (v := .ty "str") (by rfl) zs (by decide +kernel) rfl) pa_nil)))))
      (pw_or (pt_cmpR op_ne (pe_callB call_len_str (by rfl) zl PySem.boot_len (pa_cons (pv 1) pa_nil)) pe_int (nomark _)) (pw_or1 (pt_cmpR op_notIn_sign (pv 1) (pe_fld (pv 0) rfl) (by rfl)))))) (pss_one ps_never) pss_nil), ?_⟩
    refine ⟨_, rfl, _, _, .type "str", .type "str", true, rfl, .ty _, .base (.str _), kit_ty (by decide +kernel), _, rfl, iteF ?_⟩
    refine ⟨_, rfl, _, rfl, by rw [S_len]; exact len_line (by simp), rfl, _, rfl, ?_⟩
    rw [S_len]
    refine iteF ?_
    refine ⟨_, rfl, _, rfl, p, C, dx, _, _, rfl, h1, T.cl, T.nk, pf_kinds _ _ _ _, ?_⟩
    refine ⟨k, S ks, rfl, rfl, ?_⟩
    rw [mem_S, List.contains_iff_mem.mpr hk]
    exact ⟨_, rfl, iteF q⟩
theorem sc_len : FnScope ["self"] ["self"] (defScope s_Room_len) := ⟨rfl, rfl, rfl, by decide +kernel, rfl, by decide +kernel, by decide +kernel⟩
theorem ok_roomlen {f : Addr} {fd : FuncData} (F : FunD K "__len__" "Room.__len__" (defArgs s_Room_len) (defBody s_Room_len) (defScope s_Room_len) [] [] f fd) (TR : RoomT K CR) (zl : mg "len" = none) : FnOk P w K mg base C8.CX0 1 f fd ["self"] (spLen C CR) := by
  refine F.ok sc_len (fun vs H Q E h => ?_) (fun cdv A outer s H vs Q E hr h => ?_)
  · obtain ⟨a, p, ks, X, n, rfl, _⟩ := h
    rfl
  · obtain ⟨a, p, ks, X, n, rfl, ha, ln, k⟩ := h
    refine ⟨_, PSs.nox (pss_one (ps_ret (pe_callB call_len_str (by rfl) zl PySem.boot_len (pa_cons (pe_fld (pv 0) rfl) pa_nil)))), ?_⟩
    obtain ⟨dx, h1⟩ := ha.ex
    refine ⟨_, rfl, a, CR, dx, _, _, rfl, h1, TR.cl, TR.nn, rf_nameV _ _, _, rfl, by rw [S_len]; exact len_line (by omega), ?_⟩
    rw [S_len]
    exact k
theorem sc_get : FnScope ["self", "at"] ["self", "at"] (defScope s_Room_getitem) := ⟨rfl, rfl, rfl, by decide +kernel, rfl, by decide +kernel, by decide +kernel⟩
theorem ok_roomget {f : Addr} {fd : FuncData} (F : FunD K "__getitem__" "Room.__getitem__" (defArgs s_Room_getitem) (defBody s_Room_getitem) (defScope s_Room_getitem) [] [] f fd) (TR : RoomT K CR)
    (cK : C8.Cal P w K mg base 1 "check_kind" (spChkKind C) []) (cB : C8.Cal P w K mg base 1 "behind" (spBehind C) []) (cN : C8.Cal P w K mg base 5 "room_named" (spRoomNamed C CR) []) : FnOk P w K mg base C8.CX0 6 f fd ["self", "at"] (spGet C CR) := by
  refine F.ok sc_get (fun vs H Q E h => ?_) (fun cdv A outer s H vs Q E hr h => ?_)
  · obtain ⟨a, p, ks, X, n, k, rfl, _⟩ := h
    rfl
  · obtain ⟨a, p, ks, X, n, k, rfl, ha, hk, ln, q⟩ := h
    refine ⟨_, PSs.nox (pss_cons (ps_expr (C8.pe_c cK hr (by decide) (by rfl) (pa_cons (pe_fld (pv 0) rfl) (pa_cons (pv 1) pa_nil))))
      (pss_one (ps_ret (C8.pe_c cN hr (by decide) (by rfl) (pa_cons (pe_fld (pv 0) rfl) (pa_cons (C8.pe_c cB hr (by decide) (by rfl) (pa_cons (pe_fld (pv 0) rfl) (pa_cons (pe_fld (pv 0) rfl) (pa_cons (pv 1) pa_nil)))) pa_nil)))))), ?_⟩
    obtain ⟨dx, h1⟩ := ha.ex
    refine ⟨_, rfl, a, CR, dx, _, _, rfl, h1, TR.cl, TR.np, rf_plan _ _, _, rfl, p, ks, X, k, rfl, ha.pl, hk, ?_⟩
    refine ⟨_, rfl, a, CR, dx, _, _, rfl, h1, TR.cl, TR.np, rf_plan _ _, _, rfl, a, CR, dx, _, _, rfl, h1, TR.cl, TR.np, rf_plan _ _, _, rfl, a, CR, dx, _, _, rfl, h1, TR.cl, TR.nn, rf_nameV _ _, _, rfl, p, ks, X, n, k, rfl, ha.pl, hk, by omega, ?_⟩
    have lb := beh_length ks X n k
    exact ⟨p, ks, X, _, rfl, ha.pl, by omega, fun r H' hr' sm => q r H' hr' sm⟩
end
end TX
end
section
set_option maxRecDepth 100000
set_option maxHeartbeats 8000000
namespace TX
open PySem PySem.Spec PyProof.Rows L2 SX CW
theorem TabAt.same {H H' : Hp} {t : Addr} {ks : List Nat} {X : Nat → Nat → Bool} (h : TabAt H t ks X) (s : L2.Same H H') : TabAt H' t ks X := ⟨h.l0, h.l8, h.up, h.abc, h.cr, s _ _ h.at_⟩
theorem TabAt.pen {H H' : Hp} {t p c : Addr} {m : Nat} {ks : List Nat} {X : Nat → Nat → Bool} (h : TabAt H t ks X) (hp : PenAt H p c m) (b : But p H H') : TabAt H' t ks X := ⟨h.l0, h.l8, h.up, h.abc, h.cr, b _ _ (h.ne hp).1 h.at_⟩
theorem pen_ne {H : Hp} {a p c : Addr} {m : Nat} {o : HO} (hp : PenAt H p c m) (ha : H a = some o) (h : ∀ c pl r, o ≠ .dK (pkv c pl r)) : a ≠ p := by
  obtain ⟨pl, r, cs, h1, _⟩ := hp.ex
  exact ne_of ha h1 (h _ _ _)
theorem kv_ne {ks : List Nat} {f : Nat → List Nat} (l0 : 0 < ks.length) (c : Addr) (pl r : Int) : (.dK (kvK ks f) : HO) ≠ .dK (pkv c pl r) := fun e => by
  have e2 := HO.dK.inj e
  cases ks with
  | nil => exact absurd l0 (by simp)
  | cons k ks =>
    have e3 := (List.cons.inj e2).1
    have e4 : (Sum.inr (S [k]) : Key) = Sum.inr ("cells" : Str) := congrArg Prod.fst e3
    have e5 := congrArg Str.length (Sum.inr.inj e4)
    rw [S_len] at e5
    have e6 : ("cells" : Str).length = 5 := by decide +kernel
    rw [e6] at e5
    simp at e5
theorem PlanAt.pen {C : Addr} {H H' : Hp} {r p c : Addr} {m : Nat} {ks : List Nat} {X : Nat → Nat → Bool} (h : PlanAt C H r ks X) (l0 : 0 < ks.length) (hp : PenAt H p c m) (b : But p H H') : PlanAt C H' r ks X := by
  obtain ⟨dx, tp, da, dl, h1, h2, h3, h4⟩ := h.ex
  exact ⟨h.few, h.up, h.cr, h.abc, dx, tp, da, dl, b _ _ (pen_ne hp h1 fun _ _ _ z => by cases z) h1, b _ _ (pen_ne hp h2 fun _ _ _ z => by cases z) h2, h3.elim (fun e => .inl (b _ _ (pen_ne hp e (kv_ne l0)) e)) (fun ⟨od, e⟩ => .inr ⟨od, b _ _ (pen_ne hp e fun _ _ _ z => by cases z) e⟩), h4.elim (fun e => .inl (b _ _ (pen_ne hp e (kv_ne l0)) e)) (fun ⟨od, e⟩ => .inr ⟨od, b _ _ (pen_ne hp e fun _ _ _ z => by cases z) e⟩)⟩
end TX
end
section
set_option maxRecDepth 100000
set_option maxHeartbeats 4000000
/-! rooms in the readings: made, led on, compared, measured -/
namespace TX
open PySem PySem.Spec PyProof.Rows L2 SX CW
theorem RoomAt.same {C CR : Addr} {H H' : Hp} {a p : Addr} {ks : List Nat} {X : Nat → Nat → Bool} {n : List Nat} (h : RoomAt C CR H a p ks X n) (s : L2.Same H H') : RoomAt C CR H' a p ks X n := by
  obtain ⟨dx, e⟩ := h.ex
  exact ⟨h.pl.same s, dx, s _ _ e⟩
theorem RoomAt.swap {C CR : Addr} {H H' : Hp} {a p t : Addr} {ks : List Nat} {X : Nat → Nat → Bool} {n : List Nat} {kvs : List (Key × V)} (h : RoomAt C CR H a p ks X n) (ht : DkAt H t kvs) (ht' : DkAt H' t kvs) (k : ∀ b o, b ≠ t → H b = some o → H' b = some o) : RoomAt C CR H' a p ks X n := by
  obtain ⟨dx, e⟩ := h.ex
  exact ⟨h.pl.swap ht ht' k, dx, k _ _ (ht.ne e (fun _ z => by cases z) (fun _ _ z => by cases z)).symm e⟩
theorem RoomAt.pen {C CR : Addr} {H H' : Hp} {a r p c : Addr} {m : Nat} {ks : List Nat} {X : Nat → Nat → Bool} {n : List Nat} (h : RoomAt C CR H a r ks X n) (l0 : 0 < ks.length) (hp : PenAt H p c m) (b : But p H H') : RoomAt C CR H' a r ks X n := by
  obtain ⟨dx, e⟩ := h.ex
  exact ⟨h.pl.pen l0 hp b, dx, b _ _ (pen_ne hp e fun _ _ _ z => by cases z) e⟩
section
variable {K : PySem.W.Frag} {C CR : Addr} {G : Hp} {Q : VK} {ks : List Nat} {X : Nat → Nat → Bool} {a b r r' : Addr} {n m l : List Nat}
theorem mk_room {x dx : Addr} {Q' : VK} (hx : G x = none) (hdx : G dx = none) (pl : PlanAt C G r ks X) (hl : ∀ c ∈ l, c ∈ ks) (ll : l.length ≤ 2000) (q : ∀ G', RoomAt C CR G' x r ks X (fol ks X [] l) → L2.Same G G' → Q' .non G') :
    spRoomInit C CR [.ref x, .ref r, .str (S l)] (upd (upd G dx (.own x)) x (.ins CR dx [])) Q' C8.E0 := by
  refine ⟨x, dx, r, ks, X, l, rfl, upd_same, pl.same (same_born hx hdx), hl, ll, ?_⟩
  have s := born_same (u := .own x) (o := .ins CR dx []) hx hdx (But.at (o := .ins CR dx (rflds r (fol ks X [] l))))
  exact q _ ⟨pl.same s, dx, upd_same⟩ s
theorem mk_room0 {x dx : Addr} {Q' : VK} (hx : G x = none) (hdx : G dx = none) (pl : PlanAt C G r ks X) (q : ∀ G', RoomAt C CR G' x r ks X [] → L2.Same G G' → Q' .non G') :
    spRoomInit C CR [.ref x, .ref r, .str ""] (upd (upd G dx (.own x)) x (.ins CR dx [])) Q' C8.E0 := by
  rw [empty_S]
  exact mk_room (l := []) hx hdx pl (fun c h => by cases h) (by simp) q
theorem add_room (ra : RoomAt C CR G a r ks X n) (hl : ∀ c ∈ l, c ∈ ks) (ll : l.length ≤ 1000) (ln : n.length ≤ 1000) (q : ∀ y G', RoomAt C CR G' y r ks X (fol ks X n l) → L2.Same G G' → Q (.ref y) G') :
    ∃ a' dx fs, (V.ref a) = .ref a' ∧ G a' = some (.ins CR dx fs) ∧ (∀ u, L2.RelV (V.str (S l)) u → typeOf u = pure (.type "str")) ∧ spRoomAdd C CR [.ref a, .str (S l)] G Q C8.E0 := by
  obtain ⟨dx, e⟩ := ra.ex
  have z := fol_length ks X l n
  exact ⟨a, dx, _, rfl, e, tyS, a, r, ks, X, n, l, rfl, ra, hl, by omega, by omega, by omega, q⟩
theorem eq_room (ra : RoomAt C CR G a r ks X n) (rb : RoomAt C CR G b r' ks X m) (q : Q (.bl (decide (n = m))) G) :
    ∃ a' dx fs b' dy gs, (V.ref a) = .ref a' ∧ (V.ref b) = .ref b' ∧ G a' = some (.ins CR dx fs) ∧ G b' = some (.ins CR dy gs) ∧ spRoomEq C CR [.ref a, .ref b] G Q C8.E0 := by
  obtain ⟨dx, e⟩ := ra.ex
  obtain ⟨dy, g⟩ := rb.ex
  exact ⟨a, dx, _, b, dy, _, rfl, rfl, e, g, a, b, r, r', ks, X, n, m, rfl, ra, rb, q⟩
theorem eq_plan (pa : PlanAt C G a ks X) (pb : PlanAt C G b ks X) (q : Q (.bl true) G) :
    ∃ a' dx fs b' dy gs, (V.ref a) = .ref a' ∧ (V.ref b) = .ref b' ∧ G a' = some (.ins C dx fs) ∧ G b' = some (.ins C dy gs) ∧ spPlanEq C [.ref a, .ref b] G Q C8.E0 := by
  obtain ⟨dx, _, _, _, e, _⟩ := pa.ex
  obtain ⟨dy, _, _, _, g, _⟩ := pb.ex
  exact ⟨a, dx, _, b, dy, _, rfl, rfl, e, g, a, b, ks, X, rfl, pa, pb, q⟩
theorem fld_name (TR : RoomT K CR) (ra : RoomAt C CR G a r ks X n) (q : Q (.str (S n)) G) : ∃ a' C' dx fs v, (V.ref a) = .ref a' ∧ G a' = some (.ins C' dx fs) ∧ Cls K C' ∧ NoAttr K C' "name" ∧ fs.lookup ("name" : Str) = some v ∧ Q v G := by
  obtain ⟨dx, e⟩ := ra.ex
  exact ⟨a, CR, dx, _, _, rfl, e, TR.cl, TR.nn, rf_nameV _ _, q⟩
theorem fld_plan (TR : RoomT K CR) (ra : RoomAt C CR G a r ks X n) (q : Q (.ref r) G) : ∃ a' C' dx fs v, (V.ref a) = .ref a' ∧ G a' = some (.ins C' dx fs) ∧ Cls K C' ∧ NoAttr K C' "plan" ∧ fs.lookup ("plan" : Str) = some v ∧ Q v G := by
  obtain ⟨dx, e⟩ := ra.ex
  exact ⟨a, CR, dx, _, _, rfl, e, TR.cl, TR.np, rf_plan _ _, q⟩
theorem len_room (ra : RoomAt C CR G a r ks X n) (ln : n.length ≤ 2000) (q : Q (.int (n.length : Int)) G) :
    ∃ a' dx fs, [V.ref a] = [.ref a'] ∧ G a' = some (.ins CR dx fs) ∧ spLen C CR [.ref a'] G (fun v H' => ∃ i : Int, v = .int i ∧ 0 ≤ i ∧ i < 2 ^ 63 ∧ Q v H') C8.E0 := by
  obtain ⟨dx, e⟩ := ra.ex
  exact ⟨a, dx, _, rfl, e, a, r, ks, X, n, rfl, ra, ln, _, rfl, by omega, by omega, q⟩
theorem get_room {k : Nat} (ra : RoomAt C CR G a r ks X n) (hk : k ∈ ks) (ln : n.length ≤ 1999) (q : ∀ y G', RoomAt C CR G' y r ks X (beh ks X n k) → L2.Same G G' → Q (.ref y) G') :
    ∃ p dx fs, (V.ref a) = .ref p ∧ G p = some (.ins CR dx fs) ∧ spGet C CR [.ref a, .str (S [k])] G Q C8.E0 := by
  obtain ⟨dx, e⟩ := ra.ex
  exact ⟨a, dx, _, rfl, e, a, r, ks, X, n, k, rfl, ra, hk, ln, q⟩
end
theorem fol_app {ks : List Nat} {X : Nat → Nat → Bool} (n a b : List Nat) : fol ks X (fol ks X n a) b = fol ks X n (a ++ b) := by
  unfold fol
  rw [List.foldl_append]
theorem beh_twice {ks : List Nat} {X : Nat → Nat → Bool} (cr : Crossing X) {n : List Nat} {k : Nat} (hn : isName X n = true) (hk : ∀ c ∈ n, c ∈ ks) (kk : k ∈ ks) : beh ks X (beh ks X n k) k = n := by
  have h1 := beh_name cr (k := k) hk hn
  have k1 := beh_letters (ks := ks) (X := X) hk kk
  refine mr_inj cr (beh_name cr (k := k) k1 h1) hn ?_
  have z := mr_beh (ks := ks) cr (beh ks X n k) k []
  rw [List.append_nil] at z
  rw [z, mr_beh (ks := ks) cr n k [k]]
  have e0 : mr X [k, k] = mr X [] := thr_thr _ _
  have e : mr X (n ++ [k, k]) = mr X (n ++ []) := mr_app e0 n
  rw [List.append_nil] at e
  exact e
theorem str_ne (a b : List Nat) : decide (V.str (S a) = V.str (S b)) = decide (a = b) := by
  rw [decide_eq_decide]
  exact ⟨fun z => S_inj (V.str.inj z), fun z => by rw [z]⟩
end TX
namespace TX
open PySem PySem.Spec PyProof.Rows L2 SX CW
/-- something is put into a list -/
theorem PlanAt.lst {C : Addr} {H : Hp} {p D : Addr} {ks : List Nat} {X : Nat → Nat → Bool} {ys : List V} {o : HO} (h : PlanAt C H p ks X) (hD : H D = some (.lst ys)) : PlanAt C (upd H D o) p ks X := by
  obtain ⟨dx, tp, da, dl, h1, h2, h3, h4⟩ := h.ex
  have k : ∀ b u, b ≠ D → H b = some u → (upd H D o) b = some u := fun b u n e => by rw [upd_ne n]; exact e
  exact ⟨h.few, h.up, h.cr, h.abc, dx, tp, da, dl, k _ _ (fun z => by rw [z, hD] at h1; cases h1) h1, k _ _ (fun z => by rw [z, hD] at h2; cases h2) h2,
    h3.keep (k _ · (h3.ne hD (fun _ e => by cases e) (fun _ _ e => by cases e))), h4.keep (k _ · (h4.ne hD (fun _ e => by cases e) (fun _ _ e => by cases e)))⟩
theorem RoomAt.lst {C CR : Addr} {H : Hp} {a p D : Addr} {ks : List Nat} {X : Nat → Nat → Bool} {n : List Nat} {ys : List V} {o : HO} (h : RoomAt C CR H a p ks X n) (hD : H D = some (.lst ys)) : RoomAt C CR (upd H D o) a p ks X n := by
  obtain ⟨dx, e⟩ := h.ex
  exact ⟨h.pl.lst hD, dx, by rw [upd_ne (fun z => by rw [z, hD] at e; cases e)]; exact e⟩
end TX
end
section
/-! Ways that become one another by exchanges. -/
namespace CW
variable {X : Nat → Nat → Bool} {ks : List Nat}
/-- by exchanges of neighbours that cross -/
inductive Rch (X : Nat → Nat → Bool) : List Nat → List Nat → Prop where
  | refl (a : List Nat) : Rch X a a
  | step {a : List Nat} (u : List Nat) (x y : Nat) (s : List Nat) : Rch X a (u ++ x :: y :: s) → X x y = true → Rch X a (u ++ y :: x :: s)
theorem Rch.trans {a b c : List Nat} (h : Rch X a b) (g : Rch X b c) : Rch X a c := by
  induction g with
  | refl => exact h
  | step u x y s _ hx ih => exact .step u x y s ih hx
theorem Rch.one {u s : List Nat} {x y : Nat} (h : X x y = true) : Rch X (u ++ x :: y :: s) (u ++ y :: x :: s) := .step u x y s (.refl _) h
theorem Rch.app {a b : List Nat} (h : Rch X a b) (p q : List Nat) : Rch X (p ++ a ++ q) (p ++ b ++ q) := by
  induction h with
  | refl => exact .refl _
  | step u x y s _ hx ih =>
    have e1 : p ++ (u ++ x :: y :: s) ++ q = (p ++ u) ++ x :: y :: (s ++ q) := by simp
    have e2 : p ++ (u ++ y :: x :: s) ++ q = (p ++ u) ++ y :: x :: (s ++ q) := by simp
    rw [e1] at ih
    rw [e2]
    exact .step _ x y _ ih hx
theorem Rch.front {a b : List Nat} (h : Rch X a b) (p : List Nat) : Rch X (p ++ a) (p ++ b) := by
  have z := h.app p []
  rwa [List.append_nil, List.append_nil] at z
theorem Rch.back {a b : List Nat} (h : Rch X a b) (q : List Nat) : Rch X (a ++ q) (b ++ q) := h.app [] q
theorem Rch.length {a b : List Nat} (h : Rch X a b) : b.length = a.length := by
  induction h with
  | refl => rfl
  | step u x y s _ _ ih => rw [← ih]; simp
theorem Rch.letters {a b : List Nat} (h : Rch X a b) (ha : ∀ c ∈ a, c ∈ ks) : ∀ c ∈ b, c ∈ ks := by
  induction h with
  | refl => exact ha
  | step u x y s _ _ ih =>
    intro c hc
    refine ih c ?_
    simp only [List.mem_append, List.mem_cons] at hc ⊢
    rcases hc with h | h | h | h
    · exact .inl h
    · exact .inr (.inr (.inl h))
    · exact .inr (.inl h)
    · exact .inr (.inr (.inr h))
theorem Rch.vec (cr : Crossing X) {a b : List Nat} (h : Rch X a b) : mr X b = mr X a := by
  induction h with
  | refl => rfl
  | step u x y s _ hx ih =>
    rw [← ih]
    refine mr_app ?_ u
    show thr X (thr X (mr X s) x) y = thr X (thr X (mr X s) y) x
    exact thr_comm cr _ hx
theorem Rch.rev (cr : Crossing X) {a b : List Nat} (h : Rch X a b) : Rch X a.reverse b.reverse := by
  induction h with
  | refl => exact .refl _
  | step u x y s _ hx ih =>
    have e1 : (u ++ x :: y :: s).reverse = s.reverse ++ y :: x :: u.reverse := by simp
    have e2 : (u ++ y :: x :: s).reverse = s.reverse ++ x :: y :: u.reverse := by simp
    rw [e1] at ih
    rw [e2]
    exact .step _ y x _ ih (by rw [cr.sym]; exact hx)
/-- a letter goes to the right through letters that cross it -/
theorem Rch.right {k : Nat} (s : List Nat) : ∀ (m u : List Nat), (∀ c ∈ m, X k c = true) → Rch X (u ++ k :: (m ++ s)) (u ++ (m ++ k :: s))
  | [], u, _ => .refl _
  | c :: m, u, h => by
    have h1 : Rch X (u ++ k :: c :: (m ++ s)) (u ++ c :: k :: (m ++ s)) := .one (h c List.mem_cons_self)
    have h2 := Rch.right s m (u ++ [c]) fun d hd => h d (List.mem_cons_of_mem _ hd)
    have e1 : (u ++ [c]) ++ k :: (m ++ s) = u ++ c :: k :: (m ++ s) := by simp
    have e2 : (u ++ [c]) ++ (m ++ k :: s) = u ++ (c :: m ++ k :: s) := by simp
    rw [e1, e2] at h2
    exact h1.trans h2
theorem Rch.left (cr : Crossing X) {k : Nat} (s : List Nat) : ∀ (m u : List Nat), (∀ c ∈ m, X k c = true) → Rch X (u ++ (m ++ k :: s)) (u ++ k :: (m ++ s))
  | [], u, _ => .refl _
  | c :: m, u, h => by
    have h2 := Rch.left cr s m (u ++ [c]) fun d hd => h d (List.mem_cons_of_mem _ hd)
    have e1 : (u ++ [c]) ++ k :: (m ++ s) = u ++ c :: k :: (m ++ s) := by simp
    have e2 : (u ++ [c]) ++ (m ++ k :: s) = u ++ (c :: m ++ k :: s) := by simp
    rw [e1, e2] at h2
    have h1 : Rch X (u ++ c :: k :: (m ++ s)) (u ++ k :: c :: (m ++ s)) := .one (by rw [cr.sym]; exact h c List.mem_cons_self)
    exact h2.trans h1
/-- no two equal neighbours, however neighbours are exchanged -/
def NoPair (X : Nat → Nat → Bool) (v : List Nat) : Prop := ∀ u k s, ¬ Rch X v (u ++ k :: k :: s)
theorem NoPair.of {a b : List Nat} (h : NoPair X a) (r : Rch X a b) : NoPair X b := fun u k s z => h u k s (r.trans z)
theorem NoPair.pre {a b : List Nat} (h : NoPair X (a ++ b)) : NoPair X a := fun u k s z => by
  have y := z.back b
  rw [List.append_assoc] at y
  exact h u k (s ++ b) y
theorem NoPair.suf {a b : List Nat} (h : NoPair X (a ++ b)) : NoPair X b := fun u k s z => by
  have y := z.front a
  rw [← List.append_assoc] at y
  exact h (a ++ u) k s y
theorem NoPair.rev (cr : Crossing X) {a : List Nat} (h : NoPair X a) : NoPair X a.reverse := fun u k s z => by
  have y := z.rev cr
  rw [List.reverse_reverse] at y
  have e : (u ++ k :: k :: s).reverse = s.reverse ++ k :: k :: u.reverse := by simp
  rw [e] at y
  exact h _ _ _ y
theorem NoPair.red (cr : Crossing X) : ∀ {v : List Nat}, NoPair X v → red X v = true
  | [], _ => rfl
  | k :: r, h => by
    show (!rd X r k && CW.red X r) = true
    rw [NoPair.red cr (NoPair.suf (a := [k]) h)]
    cases e : rd X r k with
    | false => rfl
    | true =>
      obtain ⟨u, s, e2, hu⟩ := rd_split e
      have z := Rch.right (X := X) (k := k) (k :: s) u [] fun c hc => by rw [cr.sym]; exact hu c hc
      rw [e2] at h
      exact absurd z (h u k s)
/-- without such pairs the name is reached by exchanges -/
theorem rch_name (cr : Crossing X) : ∀ (r : List Nat), (∀ c ∈ r, c ∈ ks) → NoPair X r.reverse → Rch X r.reverse (fol ks X [] r.reverse)
  | [], _, _ => .refl _
  | k :: r, hk, h => by
    rw [List.reverse_cons] at h ⊢
    have hp := NoPair.pre h
    have ih := rch_name cr r (fun c hc => hk c (List.mem_cons_of_mem _ hc)) hp
    have g := ih.back [k]
    rw [fol_snoc]
    generalize fol ks X [] r.reverse = n at g ⊢
    obtain ⟨tl, rest, e0, h1, _, hc⟩ := beh_cases ks X n k
    have en : n = rest.reverse ++ tl.reverse := by
      have q := congrArg List.reverse e0
      rw [List.reverse_reverse, List.reverse_append] at q
      exact q
    rcases hc with ⟨r2, er, eb⟩ | ⟨_, er, lr, et, _, _, eb⟩
    · exfalso
      have z := Rch.right (X := X) (k := k) [k] tl.reverse r2.reverse fun c hc => (h1 c (List.mem_reverse.mp hc)).2
      have e1 : n ++ [k] = r2.reverse ++ k :: (tl.reverse ++ [k]) := by rw [en, er]; simp
      rw [← e1, ← List.append_assoc] at z
      exact h _ k [] (g.trans z)
    · have z := Rch.left cr (X := X) (k := k) [] lr.reverse (rest.reverse ++ er.reverse) fun c hc => (h1 c (by rw [et]; exact List.mem_append_left _ (List.mem_reverse.mp hc))).2
      have e1 : n ++ [k] = (rest.reverse ++ er.reverse) ++ (lr.reverse ++ [k]) := by rw [en, et]; simp
      have e2 : beh ks X n k = (rest.reverse ++ er.reverse) ++ k :: (lr.reverse ++ []) := by rw [eb]; simp
      rw [e2]
      rw [e1] at g
      exact g.trans z
theorem rch_fol (cr : Crossing X) {v : List Nat} (hv : ∀ c ∈ v, c ∈ ks) (h : NoPair X v) : Rch X v (fol ks X [] v) := by
  have z := rch_name (ks := ks) cr v.reverse (fun c hc => hv c (List.mem_reverse.mp hc)) (by rw [List.reverse_reverse]; exact h)
  rwa [List.reverse_reverse] at z
/-- a name comes ahead of all ways that become it by exchanges -/
theorem name_least (cr : Crossing X) : ∀ {n v : List Nat}, isName X n = true → NoPair X v → mr X n = mr X v → n = v ∨ n < v
  | [], [], _, _, _ => .inl rfl
  | [], c :: v, hn, hv, h => by
    have z := (back_iff cr (r := c :: v) (ks := [c]) (k := c) (hv.red cr) List.mem_cons_self).mpr first_rd
    rw [← h] at z
    have y := (back_iff cr (r := []) (ks := [c]) (k := c) rfl List.mem_cons_self).mp z
    cases y
  | b :: n, [], hn, hv, h => by
    have z := (back_iff cr (r := b :: n) (ks := [b]) (k := b) (isName_red hn) List.mem_cons_self).mpr first_rd
    rw [h] at z
    have y := (back_iff cr (r := []) (ks := [b]) (k := b) rfl List.mem_cons_self).mp z
    cases y
  | b :: n, c :: v, hn, hv, h => by
    have z := (back_iff cr (r := c :: v) (ks := [c]) (k := c) (hv.red cr) List.mem_cons_self).mpr first_rd
    rw [← h] at z
    have y := (back_iff cr (r := b :: n) (ks := [c]) (k := c) (isName_red hn) List.mem_cons_self).mp z
    have le := first_least hn y
    by_cases e : b = c
    · subst e
      have h2 : mr X n = mr X v := by rw [← mr_first b n, ← mr_first b v, h]
      rcases name_least cr (isName_tail hn) (NoPair.suf (a := [b]) hv) h2 with q | q
      · exact .inl (by rw [q])
      · exact .inr (List.Lex.cons q)
    · exact .inr (List.Lex.rel (by omega))
/-- the last letters of the ways that become one another by exchanges -/
theorem last_rd (cr : Crossing X) {n : List Nat} {k : Nat} (hn : NoPair X n) : rd X n.reverse k = true ↔ ∃ v, Rch X n (v ++ [k]) := by
  constructor
  · intro h
    obtain ⟨u, s, e, hu⟩ := rd_split h
    have en : n = s.reverse ++ k :: (u.reverse ++ []) := by
      have q := congrArg List.reverse e
      rw [List.reverse_reverse] at q
      rw [q]
      simp
    have z := Rch.right (X := X) (k := k) [] u.reverse s.reverse fun c hc => by rw [cr.sym]; exact hu c (List.mem_reverse.mp hc)
    rw [← en, ← List.append_assoc] at z
    exact ⟨_, z⟩
  · rintro ⟨v, h⟩
    have r1 := (hn.rev cr).red cr
    have r2 := ((hn.of h).rev cr).red cr
    have m2 := (h.rev cr).vec cr
    have z := (back_iff cr (r := (v ++ [k]).reverse) (ks := [k]) (k := k) r2 List.mem_cons_self).mpr (by rw [List.reverse_append]; exact first_rd)
    rw [m2] at z
    exact (back_iff cr (r := n.reverse) (ks := [k]) (k := k) r1 List.mem_cons_self).mp z
/-- two equal neighbours are taken out -/
def shorterL : List Nat → List Nat
  | a :: b :: r => if a = b then r else a :: shorterL (b :: r)
  | l => l
theorem shorter_mr : ∀ (v : List Nat), mr X (shorterL v) = mr X v
  | [] => rfl
  | [_] => rfl
  | a :: b :: r => by
    unfold shorterL
    by_cases e : a = b
    · subst e
      rw [if_pos rfl]
      exact (thr_thr _ _).symm
    · rw [if_neg e]
      show thr X (mr X (shorterL (b :: r))) a = thr X (mr X (b :: r)) a
      rw [shorter_mr (b :: r)]
theorem shorter_len : ∀ (v : List Nat), shorterL v = v ∨ (shorterL v).length + 2 = v.length
  | [] => .inl rfl
  | [_] => .inl rfl
  | a :: b :: r => by
    unfold shorterL
    by_cases e : a = b
    · rw [if_pos e]
      exact .inr rfl
    · rw [if_neg e]
      rcases shorter_len (b :: r) with h | h
      · exact .inl (by rw [h])
      · refine .inr ?_
        rw [List.length_cons, List.length_cons]
        omega
theorem shorter_in : ∀ (v : List Nat) (c : Nat), c ∈ shorterL v → c ∈ v
  | [], _, h => h
  | [_], _, h => h
  | a :: b :: r, c, h => by
    unfold shorterL at h
    by_cases e : a = b
    · rw [if_pos e] at h
      exact List.mem_cons_of_mem _ (List.mem_cons_of_mem _ h)
    · rw [if_neg e] at h
      rcases List.mem_cons.mp h with z | z
      · rw [z]; exact List.mem_cons_self
      · exact List.mem_cons_of_mem _ (shorter_in (b :: r) c z)
theorem shorter_pair : ∀ (u : List Nat) (k : Nat) (s : List Nat), shorterL (u ++ k :: k :: s) ≠ u ++ k :: k :: s
  | [], k, s, h => by
    have z : shorterL (k :: k :: s) = s := by
      show (if k = k then s else _) = s
      rw [if_pos rfl]
    rw [List.nil_append, z] at h
    have := congrArg List.length h
    simp at this
    omega
  | [a], k, s, h => by
    have e : shorterL (a :: k :: k :: s) = if a = k then k :: s else a :: shorterL (k :: k :: s) := rfl
    rw [List.singleton_append, e] at h
    by_cases q : a = k
    · rw [if_pos q] at h
      have := congrArg List.length h
      simp at this
    · rw [if_neg q] at h
      exact shorter_pair [] k s (List.cons.inj h).2
  | a :: b :: u, k, s, h => by
    have e : shorterL (a :: b :: (u ++ k :: k :: s)) = if a = b then u ++ k :: k :: s else a :: shorterL (b :: (u ++ k :: k :: s)) := rfl
    rw [List.cons_append, List.cons_append, e] at h
    by_cases q : a = b
    · rw [if_pos q] at h
      have := congrArg List.length h
      simp at this
      omega
    · rw [if_neg q] at h
      exact shorter_pair (b :: u) k s (List.cons.inj h).2
end CW
end
section
set_option maxRecDepth 100000
set_option maxHeartbeats 4000000
/-! plans compared; ways that begin with a kind -/
namespace TX
open PySem PySem.Spec PyProof.Rows L2 SX CW
theorem S_starts (a : List Nat) (c : Nat) : Txt.startswith (S a) (S [c]) = (a.head? == some c) := by
  show (decide (0 + (S [c]).length ≤ (S a).length) && PySem.Builtin.Str.subAt (S a) (S [c]) 0) = _
  rw [StrLaws.subAt_eq, S_len, S_len]
  show (decide (0 + 1 ≤ a.length) && ((a.drop 0).take 1 == [c])) = _
  cases a with
  | nil => simp
  | cons d l =>
    rw [Bool.eq_iff_iff]
    simp
/-- two objects of equal plans -/
def spSameO (K : PySem.W.Frag) (C : Addr) : Sp := fun vs H Q _ => ∃ (a b Ca Cb dx dy p q : Addr) (fa fb : List (Str × V)) (ks : List Nat) (X : Nat → Nat → Bool), vs = [.ref a, .ref b] ∧ H a = some (.ins Ca dx fa) ∧ H b = some (.ins Cb dy fb) ∧ Cls K Ca ∧ Cls K Cb ∧ NoAttr K Ca "plan" ∧ NoAttr K Cb "plan" ∧
  fa.lookup ("plan" : Str) = some (.ref p) ∧ fb.lookup ("plan" : Str) = some (.ref q) ∧ PlanAt C H p ks X ∧ PlanAt C H q ks X ∧ Q .non H
def spStarts (C : Addr) : Sp := fun vs H Q _ => ∃ (p : Addr) (ks : List Nat) (X : Nat → Nat → Bool) (v : List Nat) (k : Nat), vs = [.ref p, .str (S v), .str (S [k])] ∧ PlanAt C H p ks X ∧ k ∈ ks ∧ (∀ c ∈ v, c ∈ ks) ∧ v.length ≤ 100000 ∧ Q (.bl (rd X v k)) H
section
variable {P : Program} {w : World} {K : PySem.W.Frag} {mg : Str → Option Value} {base : Heap} {C CR CL : Addr}
theorem ok_sameO (F : D K mg "check_same_plan" s_check_same_plan []) {f : Addr} {fd : FuncData} (GE : FnOk P w K mg base C8.CX0 1 f fd ["self", "other"] (spPlanEq C)) (hf : PySem.W.isFn K (.ref f) = true) (bi : L2.Binds K fd ["self", "other"] []) (ne : neB K C f = true) : C8.Cal P w K mg base 3 "check_same_plan" (spSameO K C) [] := by
  refine F.cal (ps := ["one", "other"]) sc_same (fun f fd F => F.bindsN fun _ _ _ _ _ _ us hl => match us, hl with | [_, _], _ => rfl) (fun vs H Q E h => ?_) (fun f' cdv A outer s H vs Q E hr h => ?_)
  · obtain ⟨a, b, Ca, Cb, dx, dy, p, q, fa, fb, ks, X, rfl, _⟩ := h
    rfl
  · obtain ⟨a, b, Ca, Cb, dx, dy, p, q, fa, fb, ks, X, rfl, ha, hb, ca, cb, na, nb, la, lb, pa, pb, k⟩ := h
    refine ⟨_, pss_one (ps_if (pt_cmpR (op_neOwn GE hf bi ne (hr.mono (by decide))) (pe_fld (pv 0) rfl) (pe_fld (pv 1) rfl) (nomark _)) (pss_one ps_never) pss_nil), ?_⟩
    obtain ⟨ex, _, _, _, h2, _⟩ := pa.ex
    obtain ⟨ey, _, _, _, g2, _⟩ := pb.ex
    refine ⟨_, rfl, a, Ca, dx, _, _, rfl, ha, ca, na, la, _, rfl, b, Cb, dy, _, _, rfl, hb, cb, nb, lb, p, ex, _, q, ey, _, rfl, rfl, h2, g2, p, q, ks, X, rfl, pa, pb, true, rfl, _, rfl, iteF k⟩
theorem sc_starts : FnScope ["plan", "way", "kind"] ["plan", "way", "kind"] (defScope s_starts_with) := ⟨rfl, rfl, rfl, by decide +kernel, rfl, by decide +kernel, by decide +kernel⟩
theorem ok_starts (F : D K mg "starts_with" s_starts_with []) (T : PlanT K C) : C8.Cal P w K mg base 1 "starts_with" (spStarts C) [] := by
  refine F.cal (ps := ["plan", "way", "kind"]) sc_starts (fun f fd F => F.bindsN fun _ _ _ _ _ _ us hl => match us, hl with | [_, _, _], _ => rfl) (fun vs H Q E h => ?_) (fun f cdv A outer s H vs Q E hr h => ?_)
  · obtain ⟨p, ks, X, v, k, rfl, _⟩ := h
    rfl
  · obtain ⟨p, ks, X, v, k, rfl, hp, hk, hv, lv, q⟩ := h
    have hu := hu_of hr
    refine ⟨_, pss_one (ps_ret (pe_m1 PySem.F.slot_str_startswith PySem.F.type_str_startswith mt_startswith (pe_bm PySem.F.plainAttrs_str PySem.F.slot_str_lstrip PySem.F.type_str_lstrip mt_lstripChars (pv 1) (pa_cons (pe_dget hu (pe_fld (pv 0) rfl) (pv 2) (fun _ _ => rfl)) pa_nil)) (pv 2))), ?_⟩
    obtain ⟨dx, tp, da, dl, h1, h2, h3, h4⟩ := hp.ex
    have nl : ((S v : Str)).length ≤ sizeLine := by rw [S_len]; exact len_line (by omega)
    refine ⟨_, rfl, rfl, _, rfl, p, C, dx, _, _, rfl, h1, T.cl, T.na, pf_across _ _ _ _, _, rfl, da, _, rfl, h3.get hk, _, _, rfl, rfl, nl, ?_⟩
    rw [S_lstrip]
    refine ⟨⟨_, rfl⟩, _, rfl, _, _, rfl, rfl, ?_⟩
    rw [S_starts, drop_rd hp.cr hv]
    exact q
end
end TX
end
section
set_option maxRecDepth 100000
set_option maxHeartbeats 4000000
/-! texts of one letter each, joined -/
namespace TX
open PySem PySem.Spec PyProof.Rows L2 SX CW
theorem ones_sq {K : PySem.W.Frag} {G : Hp} {a : Addr} {l : List Nat} (h : G a = some (.lst (ones l))) : SqL K G a ((l.map fun c => S [c]).map V.str) := by
  rw [List.map_map]
  exact SqL.of h
theorem ones_sum (l : List Nat) (h : l.length ≤ 1000000) : ((l.map fun c => S [c]).map (fun x : Str => x.length)).sum + (l.map fun c => S [c]).length * ("" : Str).length ≤ 16777216 := by
  rw [List.map_map, sum_ones, empty_S, S_len, List.length_map]
  simp only [List.length_nil]
  omega
end TX
end
section
/-! Walls: the room that tells one, by the vectors of its doors. -/
namespace CW
variable {X : Nat → Nat → Bool} {ks : List Nat}
/-- a way told backwards without the letters of these kinds that can be moved to the end -/
def par (X : Nat → Nat → Bool) : List Nat → List Nat → List Nat
  | _, [] => []
  | lo, c :: r => if lo.contains c = true then par X lo r else c :: par X (lo.filter (X c)) r
theorem par_nil : ∀ r : List Nat, par X [] r = r
  | [] => rfl
  | c :: r => by
    unfold par
    rw [if_neg (by simp)]
    show c :: par X [] r = _
    rw [par_nil r]
theorem par_cons_in {lo r : List Nat} {c : Nat} (h : lo.contains c = true) : par X lo (c :: r) = par X lo r := by
  rw [par, if_pos h]
theorem par_cons_out {lo r : List Nat} {c : Nat} (h : lo.contains c = false) : par X lo (c :: r) = c :: par X (lo.filter (X c)) r := by
  rw [par, if_neg (by rw [h]; simp)]
/-- the letters that are moved, from the end on -/
def parM (X : Nat → Nat → Bool) : List Nat → List Nat → List Nat
  | _, [] => []
  | lo, c :: r => if lo.contains c = true then c :: parM X lo r else parM X (lo.filter (X c)) r
theorem parM_nil : ∀ r : List Nat, parM X [] r = []
  | [] => rfl
  | c :: r => by
    unfold parM
    rw [if_neg (by simp)]
    show parM X [] r = _
    exact parM_nil r
theorem parM_cons_in {lo r : List Nat} {c : Nat} (h : lo.contains c = true) : parM X lo (c :: r) = c :: parM X lo r := by
  rw [parM, if_pos h]
theorem parM_cons_out {lo r : List Nat} {c : Nat} (h : lo.contains c = false) : parM X lo (c :: r) = parM X (lo.filter (X c)) r := by
  rw [parM, if_neg (by rw [h]; simp)]
theorem par_in : ∀ (r lo : List Nat), ∀ c ∈ par X lo r, c ∈ r
  | [], lo, c, h => by
    unfold par at h
    cases h
  | a :: r, lo, c, h => by
    cases e : lo.contains a with
    | true =>
      rw [par_cons_in e] at h
      exact List.mem_cons_of_mem _ (par_in r lo c h)
    | false =>
      rw [par_cons_out e] at h
      rcases List.mem_cons.mp h with z | z
      · rw [z]; exact List.mem_cons_self
      · exact List.mem_cons_of_mem _ (par_in r _ c z)
theorem par_len : ∀ (r lo : List Nat), (par X lo r).length ≤ r.length
  | [], lo => by unfold par; exact Nat.le_refl _
  | a :: r, lo => by
    cases e : lo.contains a with
    | true =>
      rw [par_cons_in e, List.length_cons]
      exact Nat.le_succ_of_le (par_len r lo)
    | false =>
      rw [par_cons_out e, List.length_cons, List.length_cons]
      exact Nat.succ_le_succ (par_len r _)
theorem bar_par {x : Nat} : ∀ (r lo : List Nat), (∀ c ∈ lo, X c x = true) → bar X r x = false → bar X (par X lo r) x = false
  | [], lo, _, h => by unfold par; exact h
  | a :: r, lo, hl, h => by
    obtain ⟨h1, h2⟩ := bar_cons_false.mp h
    cases e : lo.contains a with
    | true =>
      rw [par_cons_in e]
      exact bar_par r lo hl (h2 (hl a (List.contains_iff_mem.mp e))).2
    | false =>
      rw [par_cons_out e]
      exact bar_cons_false.mpr ⟨h1, fun q => ⟨(h2 q).1, bar_par r _ (fun c hc => hl c (List.mem_filter.mp hc).1) (h2 q).2⟩⟩
theorem par_nf (cr : Crossing X) : ∀ (r lo : List Nat), nf X r = true → nf X (par X lo r) = true
  | [], lo, h => by unfold par; exact h
  | a :: r, lo, h => by
    obtain ⟨h1, h2⟩ := nf_cons.mp h
    cases e : lo.contains a with
    | true =>
      rw [par_cons_in e]
      exact par_nf cr r lo h2
    | false =>
      rw [par_cons_out e]
      exact nf_cons.mpr ⟨bar_par r _ (fun c hc => by rw [cr.sym]; exact (List.mem_filter.mp hc).2) h1, par_nf cr r _ h2⟩
/-- none of these kinds can come to the end any more -/
theorem par_rd : ∀ (r lo : List Nat), ∀ c ∈ lo, rd X (par X lo r) c = false
  | [], lo, c, _ => by unfold par; rfl
  | a :: r, lo, c, hc => by
    cases e : lo.contains a with
    | true =>
      rw [par_cons_in e]
      exact par_rd r lo c hc
    | false =>
      rw [par_cons_out e]
      show ((a == c) || (X a c && rd X (par X (lo.filter (X a)) r) c)) = false
      have n : (a == c) = false := beq_eq_false_iff_ne.mpr fun z => by
        rw [z, List.contains_iff_mem.mpr hc] at e
        cases e
      rw [n, Bool.false_or]
      cases x : X a c with
      | false => rfl
      | true => exact par_rd r _ c (List.mem_filter.mpr ⟨hc, x⟩)
/-- the letters that are moved, and the rest -/
theorem par_mr (cr : Crossing X) : ∀ (r lo : List Nat), ∃ mv : List Nat, (∀ c ∈ mv, c ∈ lo) ∧ mr X r = mr X (mv ++ par X lo r)
  | [], lo => ⟨[], (fun c h => by cases h), by unfold par; rfl⟩
  | a :: r, lo => by
    cases e : lo.contains a with
    | true =>
      obtain ⟨mv, h1, h2⟩ := par_mr cr r lo
      refine ⟨a :: mv, fun c hc => ?_, ?_⟩
      · rcases List.mem_cons.mp hc with z | z
        · rw [z]; exact List.contains_iff_mem.mp e
        · exact h1 c z
      · rw [par_cons_in e]
        show thr X (mr X r) a = thr X (mr X (mv ++ par X lo r)) a
        rw [h2]
    | false =>
      obtain ⟨mv, h1, h2⟩ := par_mr cr r (lo.filter (X a))
      refine ⟨mv, fun c hc => (List.mem_filter.mp (h1 c hc)).1, ?_⟩
      rw [par_cons_out e, mr_pass cr _ mv fun c hc => (List.mem_filter.mp (h1 c hc)).2]
      show thr X (mr X r) a = thr X (mr X (mv ++ _)) a
      rw [h2]
/-- the kinds along a wall -/
def alo (ks : List Nat) (X : Nat → Nat → Bool) (d : Nat) : List Nat := d :: acr ks X d
theorem mv_door (cr : Crossing X) {d : Nat} {p : List Nat} : ∀ (mv : List Nat), (∀ c ∈ mv, c ∈ alo ks X d) → (∀ j, mr X (mv ++ p) d j = mr X p d j) ∨ ∀ j, mr X (mv ++ p) d j = -(mr X p d j)
  | [], _ => .inl fun j => rfl
  | c :: mv, h => by
    have ih := mv_door (p := p) cr mv fun x hx => h x (List.mem_cons_of_mem _ hx)
    rcases List.mem_cons.mp (h c List.mem_cons_self) with z | z
    · have e : ∀ j, mr X (c :: mv ++ p) d j = -(mr X (mv ++ p) d j) := fun j => by
        show thr X (mr X (mv ++ p)) c d j = _
        unfold thr
        rw [z, if_pos rfl]
      rcases ih with i | i
      · exact .inr fun j => by rw [e, i]
      · exact .inl fun j => by rw [e, i, Int.neg_neg]
    · have x := (List.mem_filter.mp z).2
      have e : ∀ j, mr X (c :: mv ++ p) d j = mr X (mv ++ p) d j := fun j => by
        show thr X (mr X (mv ++ p)) c d j = _
        unfold thr
        rw [if_neg (cr.ne x), if_pos (by rw [cr.sym]; exact x)]
      rcases ih with i | i
      · exact .inl fun j => by rw [e, i]
      · exact .inr fun j => by rw [e, i]
/-- the room that tells the wall of the door d -/
def toD (ks : List Nat) (X : Nat → Nat → Bool) (n : List Nat) (d : Nat) : List Nat := (par X (alo ks X d) n.reverse).reverse
theorem toD_name (cr : Crossing X) {n : List Nat} {d : Nat} (h : isName X n = true) : isName X (toD ks X n d) = true := by
  unfold isName at h ⊢
  unfold toD
  rw [List.reverse_reverse]
  exact par_nf cr _ _ h
theorem toD_in {n : List Nat} {d : Nat} (h : ∀ c ∈ n, c ∈ ks) : ∀ c ∈ toD ks X n d, c ∈ ks := fun c hc => h c (List.mem_reverse.mp (par_in _ _ c (List.mem_reverse.mp hc)))
theorem toD_len {n : List Nat} {d : Nat} : (toD ks X n d).length ≤ n.length := by
  unfold toD
  have := par_len (X := X) n.reverse (alo ks X d)
  rw [List.length_reverse] at this ⊢
  exact this
theorem toD_rd {n : List Nat} {d c : Nat} (h : c ∈ alo ks X d) : rd X (toD ks X n d).reverse c = false := by
  unfold toD
  rw [List.reverse_reverse]
  exact par_rd _ _ c h
theorem toD_vec (cr : Crossing X) (n : List Nat) (d : Nat) : (∀ j, mr X n.reverse d j = mr X (toD ks X n d).reverse d j) ∨ ∀ j, mr X n.reverse d j = -(mr X (toD ks X n d).reverse d j) := by
  obtain ⟨mv, h1, h2⟩ := par_mr cr n.reverse (alo ks X d)
  unfold toD
  rw [List.reverse_reverse, h2]
  exact mv_door cr mv h1
theorem name_red {n : List Nat} (h : isName X n = true) : red X n.reverse = true := nf_red h
/-- the vector of the wall's own door is not below nought -/
theorem toD_pos (cr : Crossing X) {n : List Nat} {d : Nat} (h : isName X n = true) (j : Nat) : 0 ≤ mr X (toD ks X n d).reverse d j :=
  (mr_pos cr _ (name_red (toD_name (ks := ks) (d := d) cr h))).1 d (toD_rd List.mem_cons_self) j
/-- a vector or its opposite -/
def posV (ks : List Nat) (v : Vec) : Vec := if ks.any (fun j => decide (v j < 0)) = true then fun j => -(v j) else v
theorem posV_toD (cr : Crossing X) {n : List Nat} {d : Nat} (h : isName X n = true) (hd : d ∈ ks) : posV ks (mr X n.reverse d) = mr X (toD ks X n d).reverse d := by
  unfold posV
  have p := toD_pos (ks := ks) (d := d) cr h
  rcases toD_vec (ks := ks) cr n d with e | e
  · have e0 : mr X n.reverse d = mr X (toD ks X n d).reverse d := funext e
    rw [e0, if_neg]
    intro z
    obtain ⟨j, _, z2⟩ := List.any_eq_true.mp z
    have := of_decide_eq_true z2
    have := p j
    omega
  · have u : unitV d d = 1 := if_pos rfl
    have o := mr_odd (X := X) n.reverse d d
    rw [u] at o
    have pd := p d
    rw [if_pos]
    · funext j
      rw [e j, Int.neg_neg]
    · refine List.any_eq_true.mpr ⟨d, hd, decide_eq_true ?_⟩
      have := e d
      omega
/-- a reduced way that keeps the vector of d has only letters that cross d -/
theorem fix_cross (cr : Crossing X) {d : Nat} : ∀ (r : List Nat), red X r = true → (∀ j, mr X r d j = unitV d j) → ∀ c ∈ r, X d c = true
  | [], _, _, c, h => by cases h
  | a :: r, h, e, c, hc => by
    have h' : rd X r a = false ∧ red X r = true := by
      unfold red at h
      simpa using h
    have u : unitV d d = 1 := if_pos rfl
    have x : X d a = true := by
      cases x : X d a with
      | true => rfl
      | false =>
        exfalso
        by_cases z : d = a
        · have q := mr_neg cr (a :: r) d h (by rw [z]; exact first_rd) d
          rw [e d, u] at q
          omega
        · have p1 := (mr_pos cr r h'.2).1 a h'.1 a
          have p2 := (mr_pos cr r h'.2).2 d a z x a
          have o := mr_odd (X := X) r a a
          have u2 : unitV a a = 1 := if_pos rfl
          have u3 : unitV d a = 0 := if_neg z
          have ea := e a
          have ex : mr X (a :: r) d a = mr X r d a + 2 * mr X r a a := by
            show thr X (mr X r) a d a = _
            unfold thr
            rw [if_neg z, if_neg (by rw [cr.sym, x]; simp)]
          rw [ex, u3] at ea
          rw [u2] at o
          omega
    rcases List.mem_cons.mp hc with z | z
    · rw [z]; exact x
    · refine fix_cross cr r h'.2 (fun j => ?_) c z
      rw [← e j]
      show _ = thr X (mr X r) a d j
      unfold thr
      rw [if_neg (cr.ne x), if_pos (by rw [cr.sym]; exact x)]
theorem rd_app {k : Nat} {r : List Nat} : ∀ {l : List Nat}, rd X l k = false → rd X r k = false → rd X (l ++ r) k = false
  | [], _, h => h
  | o :: l, h1, h2 => by
    have q : ((o == k) || (X o k && rd X l k)) = false := h1
    rw [Bool.or_eq_false_iff] at q
    show ((o == k) || (X o k && rd X (l ++ r) k)) = false
    rw [q.1, Bool.false_or]
    cases x : X o k with
    | false => rfl
    | true =>
      have q2 := q.2
      rw [x, Bool.true_and] at q2
      rw [rd_app q2 h2]
      rfl
theorem red_app {r : List Nat} (hr : red X r = true) : ∀ {l : List Nat}, red X l = true → (∀ c ∈ l, rd X r c = false) → red X (l ++ r) = true
  | [], _, _ => hr
  | a :: l, h, g => by
    have h' : rd X l a = false ∧ red X l = true := by
      unfold red at h
      simpa using h
    show (!rd X (l ++ r) a && red X (l ++ r)) = true
    rw [rd_app h'.1 (g a List.mem_cons_self), red_app hr h'.2 fun c hc => g c (List.mem_cons_of_mem _ hc)]
    rfl
theorem sum_unit {k : Nat} {f : Nat → Int} : ∀ {l : List Nat}, l.Nodup → k ∈ l → (l.map fun i => unitV k i * f i).sum = f k := by
  have none : ∀ {l : List Nat}, k ∉ l → (l.map fun i => unitV k i * f i).sum = 0 := by
    intro l
    induction l with
    | nil => intro _; rfl
    | cons a l ih =>
      intro h
      have n : k ≠ a := fun z => h (by rw [z]; exact List.mem_cons_self)
      rw [List.map_cons, List.sum_cons, ih fun z => h (List.mem_cons_of_mem _ z), show unitV k a = 0 from if_neg n]
      omega
  intro l
  induction l with
  | nil => intro _ h; cases h
  | cons a l ih =>
    intro nd h
    obtain ⟨n1, n2⟩ := List.nodup_cons.mp nd
    rw [List.map_cons, List.sum_cons]
    by_cases z : k = a
    · rw [none (by rw [z]; exact n1), show unitV k a = 1 from if_pos z, z]
      omega
    · rw [ih n2 ((List.mem_cons.mp h).resolve_left z), show unitV k a = 0 from if_neg z]
      omega
theorem sum_neg {x y : Nat → Int} : ∀ l : List Nat, (l.map fun i => -(x i) * y i).sum = -(l.map fun i => x i * y i).sum
  | [] => rfl
  | a :: l => by
    rw [List.map_cons, List.sum_cons, List.map_cons, List.sum_cons, sum_neg l, Int.neg_mul, Int.neg_add]
theorem sum_two {x z y : Nat → Int} : ∀ l : List Nat, (l.map fun i => (x i + 2 * z i) * y i).sum = (l.map fun i => x i * y i).sum + 2 * (l.map fun i => z i * y i).sum
  | [] => rfl
  | a :: l => by
    rw [List.map_cons, List.sum_cons, List.map_cons, List.sum_cons, List.map_cons, List.sum_cons, sum_two l, Int.add_mul, Int.mul_assoc, Int.mul_add]
    omega
/-- the vectors of a way that goes on behind another one -/
theorem mr_lin (nd : ks.Nodup) (t : List Nat) : ∀ (r : List Nat) (k : Nat), k ∈ ks → (∀ c ∈ r, c ∈ ks) → ∀ j, mr X (r ++ t) k j = (ks.map fun i => mr X r k i * mr X t i j).sum
  | [], k, hk, _, j => (sum_unit (f := fun i => mr X t i j) nd hk).symm
  | a :: r, k, hk, h, j => by
    have ha := h a List.mem_cons_self
    have ih := mr_lin nd t r
    have hr := fun c hc => h c (List.mem_cons_of_mem _ hc)
    show thr X (mr X (r ++ t)) a k j = (ks.map fun i => thr X (mr X r) a k i * mr X t i j).sum
    unfold thr
    by_cases z : k = a
    · simp only [if_pos z]
      rw [sum_neg, ← ih a ha hr j]
    · simp only [if_neg z]
      by_cases x : X a k = true
      · simp only [if_pos x]
        exact ih k hk hr j
      · simp only [if_neg x]
        rw [sum_two, ← ih k hk hr j, ← ih a ha hr j]
theorem mr_supp : ∀ (r : List Nat) (k : Nat), k ∈ ks → (∀ c ∈ r, c ∈ ks) → ∀ j, j ∉ ks → mr X r k j = 0
  | [], k, hk, _, j, hj => if_neg fun z => hj (by rw [← z]; exact hk)
  | a :: r, k, hk, h, j, hj => by
    have hr := fun c hc => h c (List.mem_cons_of_mem _ hc)
    have i1 := mr_supp r k hk hr j hj
    have i2 := mr_supp r a (h a List.mem_cons_self) hr j hj
    show (if k = a then -(mr X r a j) else if X a k = true then mr X r k j else mr X r k j + 2 * mr X r a j) = 0
    rw [i1, i2]
    split
    · rfl
    · split <;> rfl
theorem mr_unit_nil (cr : Crossing X) {n : List Nat} (hn : isName X n = true) (h : mr X n.reverse = mr X []) : n = [] := by
  cases e : n.reverse with
  | nil => simpa using e
  | cons a r =>
    rw [e] at h
    have rn := name_red hn
    rw [e] at rn
    obtain ⟨j, _, lt⟩ := (back_iff cr (ks := [a]) (k := a) rn List.mem_cons_self).mpr first_rd
    rw [h] at lt
    have : (0 : Int) ≤ mr X [] a j := by
      show (0 : Int) ≤ if a = j then 1 else 0
      split <;> omega
    omega
/-- two names whose ends have the same vectors are one -/
theorem mr_injR (cr : Crossing X) {w w' : List Nat} (hw : isName X w = true) (hw' : isName X w' = true) (kw : ∀ c ∈ w, c ∈ ks) (kw' : ∀ c ∈ w', c ∈ ks) (h : mr X w.reverse = mr X w'.reverse) : w = w' := by
  have kx : ∀ c ∈ w' ++ w.reverse, c ∈ ks := in_app kw' (in_rev kw)
  have e : fol ks X [] (w' ++ w.reverse) = [] := by
    refine mr_unit_nil cr (fol_isName cr kx) ?_
    rw [← mr_revs cr, List.reverse_append, List.reverse_reverse, ← mr_app h w]
    have z := mr_back (X := X) [] w
    rw [List.append_nil] at z
    exact z
  have z := mr_folT (ks := ks) cr (w' ++ w.reverse) w
  rw [e, List.nil_append, List.append_assoc] at z
  have y := mr_back (X := X) [] w.reverse
  rw [List.reverse_reverse, List.append_nil] at y
  rw [mr_app y w', List.append_nil] at z
  exact mr_inj cr hw hw' z
theorem nil_of_letters {l : List Nat} (h : ∀ c, c ∉ l) : l = [] := List.eq_nil_iff_forall_not_mem.mpr h
/-- two rooms that tell walls of d, with the same vector, are one -/
theorem toD_inj (cr : Crossing X) (nd : ks.Nodup) {w w' : List Nat} {d : Nat} (hd : d ∈ ks) (hw : isName X w = true) (hw' : isName X w' = true) (kw : ∀ c ∈ w, c ∈ ks) (kw' : ∀ c ∈ w', c ∈ ks)
    (rw_ : ∀ c ∈ alo ks X d, rd X w.reverse c = false) (rw' : ∀ c ∈ alo ks X d, rd X w'.reverse c = false) (h : ∀ j, mr X w.reverse d j = mr X w'.reverse d j) : w = w' := by
  have kx : ∀ c ∈ w.reverse ++ w', c ∈ ks := in_app (in_rev kw) kw'
  have kn := fol_in cr kx
  have nn := fol_isName cr kx
  -- the way between has only letters that cross d
  have fx : ∀ j, mr X (fol ks X [] (w.reverse ++ w')).reverse d j = unitV d j := fun j => by
    rw [← mr_revs cr, back_way, mr_lin nd w w'.reverse d hd (in_rev kw') j]
    have z := mr_lin (X := X) nd w w.reverse d hd (in_rev kw) j
    have y := mr_back (X := X) [] w.reverse
    rw [List.reverse_reverse, List.append_nil] at y
    rw [y] at z
    have e : (ks.map fun i => mr X w'.reverse d i * mr X w i j) = ks.map fun i => mr X w.reverse d i * mr X w i j := List.map_congr_left fun i _ => by rw [h i]
    rw [e, ← z]
    rfl
  have fc := fix_cross cr _ (name_red nn) fx
  have inA : ∀ c ∈ (fol ks X [] (w.reverse ++ w')).reverse, c ∈ alo ks X d := fun c hc => List.mem_cons_of_mem _ (List.mem_filter.mpr ⟨kn c (List.mem_reverse.mp hc), fc c hc⟩)
  have rr := red_app (name_red hw) (name_red nn) fun c hc => rw_ c (inA c hc)
  have e : mr X ((fol ks X [] (w.reverse ++ w')).reverse ++ w.reverse) = mr X w'.reverse := by
    rw [mr_inv (mr_folT (ks := ks) cr (w.reverse ++ w')) w.reverse, back_way, List.append_assoc]
    have y := mr_back (X := X) [] w
    rw [List.append_nil] at y
    rw [mr_app y, List.append_nil]
  have n0 : fol ks X [] (w.reverse ++ w') = [] := by
    cases c : (fol ks X [] (w.reverse ++ w')).reverse with
    | nil => simpa using c
    | cons a l =>
      exfalso
      rw [c] at e rr inA
      have b := (back_iff cr (ks := [a]) (k := a) rr List.mem_cons_self).mpr (show rd X (a :: l ++ w.reverse) a = true from first_rd)
      rw [e] at b
      have b2 := (back_iff cr (ks := [a]) (k := a) (name_red hw') List.mem_cons_self).mp b
      rw [rw' a (inA a List.mem_cons_self)] at b2
      cases b2
  exact (between_nil cr hw hw' kw kw').mp n0
/-- the walls of two doors of one kind are one just if their vectors agree but for the sign -/
theorem wall_iff (cr : Crossing X) (nd : ks.Nodup) {n n' : List Nat} {d : Nat} (hd : d ∈ ks) (hn : isName X n = true) (hn' : isName X n' = true) (kn : ∀ c ∈ n, c ∈ ks) (kn' : ∀ c ∈ n', c ∈ ks) :
    toD ks X n d = toD ks X n' d ↔ ∀ j ∈ ks, posV ks (mr X n.reverse d) j = posV ks (mr X n'.reverse d) j := by
  rw [posV_toD cr hn hd, posV_toD cr hn' hd]
  constructor
  · intro e j _
    rw [e]
  · intro h
    refine toD_inj cr nd hd (toD_name cr hn) (toD_name cr hn') (toD_in kn) (toD_in kn') (fun c hc => toD_rd hc) (fun c hc => toD_rd hc) fun j => ?_
    by_cases z : j ∈ ks
    · exact h j z
    · rw [mr_supp _ d hd (in_rev (toD_in kn)) j z, mr_supp _ d hd (in_rev (toD_in kn')) j z]
end CW
end
section
set_option maxRecDepth 100000
set_option maxHeartbeats 4000000
/-! crosswalls.ways: a way as two; the room that tells a wall -/
namespace TX
open PySem PySem.Spec PyProof.Rows L2 SX CW
def spThose (C : Addr) : Sp := fun vs H Q _ => ∃ (p : Addr) (ks : List Nat) (X : Nat → Nat → Bool) (l : List Nat) (k : Nat), vs = [.ref p, .str (S l), .str (S [k])] ∧ PlanAt C H p ks X ∧ k ∈ ks ∧ (∀ c ∈ l, c ∈ ks) ∧ l.length ≤ 1000 ∧
  ∀ H', L2.Same H H' → Q (.str (S (l.filter (X k)))) H'
def spParted (K : PySem.W.Frag) (C : Addr) : Sp := fun vs H Q _ => ∃ (p : Addr) (ks : List Nat) (X : Nat → Nat → Bool) (n lo : List Nat), vs = [.ref p, .str (S n), .str (S lo)] ∧ PlanAt C H p ks X ∧ (∀ c ∈ n, c ∈ ks) ∧ (∀ c ∈ lo, c ∈ ks) ∧ n.length ≤ 100000 ∧ lo.length ≤ 1000 ∧
  ∀ t H', SqT K H' t [.str (S (par X lo n.reverse).reverse), .str (S (parM X lo n.reverse).reverse)] → L2.Same H H' → Q (.ref t) H'
def spToDoor (C : Addr) : Sp := fun vs H Q _ => ∃ (p : Addr) (ks : List Nat) (X : Nat → Nat → Bool) (n : List Nat) (d : Nat), vs = [.ref p, .str (S n), .str (S [d])] ∧ PlanAt C H p ks X ∧ (∀ c ∈ n, c ∈ ks) ∧ d ∈ ks ∧ n.length ≤ 100000 ∧
  ∀ H', L2.Same H H' → Q (.str (S (toD ks X n d))) H'
section
variable {P : Program} {w : World} {K : PySem.W.Frag} {mg : Str → Option Value} {base : Heap} {C CR : Addr}
def rIn1 : R2 := fun x y H Q => ∃ c z, x = .str ⟨#[c]⟩ ∧ y = .str z ∧ Q (.bl (decide (c ∈ z.cps.toList))) H
theorem sc_those : FnScope ["plan", "kinds", "kind", "other"] ["plan", "kinds", "kind"] (defScope s_those_across) := ⟨rfl, rfl, rfl, by decide +kernel, rfl, by decide +kernel, by decide +kernel⟩
theorem ok_those (F : D K mg "those_across" s_those_across []) (T : PlanT K C) : C8.Cal P w K mg base 1 "those_across" (spThose C) [] := by
  refine F.cal (ps := ["plan", "kinds", "kind"]) sc_those (fun f fd F => F.bindsN fun _ _ _ _ _ _ us hl => match us, hl with | [_, _, _], _ => rfl) (fun vs H Q E h => ?_) (fun f cdv A outer s H vs Q E hr h => ?_)
  · obtain ⟨p, ks, X, l, k, rfl, _⟩ := h
    rfl
  · obtain ⟨p, ks, X, l, k, rfl, hp, hk, hl0, hn, q⟩ := h
    have hu := hu_of hr
    refine ⟨_, pss_one (ps_ret (pe_join pe_str (pe_lc (own := [("other", 3)]) (g := gName 3) (tt := tTest (tOp rIn1 (tVar 3) (tDGet (tFld K (tVar 0) "across") (tVar 2)))) rfl sc_those.nd (pi_str (pv 1)) (blkOk_by (own := [("other", 3)]) (N := ["plan", "kinds", "kind", "other"]) (sc := defScope s_those_across) (by decide +kernel))
      (fun _ _ _ _ _ => pg_name (i := 3) sc_those.nd rfl (.inl rfl)) (fun _ _ _ _ _ => by exact pts_one (pt_cmpR op_in_sign (pv 3) (pe_dget hu (pe_fld (pv 0) rfl) (pv 2) (fun _ _ => rfl)) (by rfl))) (fun _ _ _ _ _ => pv 3)))), ?_⟩
    obtain ⟨dx, tp, da, dl, h1, h2, h3, h4⟩ := hp.ex
    refine ⟨⟨_, rfl⟩, _, rfl, _, rfl, fun D hD => ?_⟩
    refine lc_it walk_str (fun i H' => H' D = some (.lst (((l.take i).filter (X k)).map fun c => V.str (S [c]))) ∧ L2.Same H H') ⟨upd_same, same_new hD⟩ (fun _ _ _ _ => trivial) ?_ ?_
    · rintro i x H' H2 hi ⟨hl, sm⟩ ⟨rfl, c, hc, rfl⟩
      have hc' := getS hc
      have hin : c ∈ ks := hl0 c (List.mem_of_getElem? hc')
      have hlen := hp.few
      have g3 := (h3.keep (sm _)).get hk
      refine ⟨rfl, _, rfl, _, rfl, p, C, dx, _, _, rfl, sm _ _ h1, T.cl, T.na, pf_across _ _ _ _, _, rfl, da, _, rfl, g3, c, _, rfl, rfl, _, rfl, ?_⟩
      rw [mem_S]
      have ec : (acr ks X k).contains c = X k c := by
        rw [Bool.eq_iff_iff, mem_acr]
        exact ⟨fun z => z.2, fun z => ⟨hin, z⟩⟩
      rw [ec]
      have et : (l.take (i + 1)).filter (X k) = (l.take i).filter (X k) ++ (if X k c = true then [c] else []) := by
        rw [take_one hc', List.filter_append]
        congr 1
        by_cases z : X k c = true <;> simp [List.filter, z]
      cases e1 : X k c
      · refine iteF ⟨?_, sm⟩
        rw [et, e1]
        simpa using hl
      · refine iteT ?_
        refine ⟨_, rfl, _, hl, ?_, ?_, fun a o e => ?_⟩
        · rw [List.length_map]
          have z := List.length_filter_le (X k) (l.take i)
          rw [List.length_take] at z
          exact len_lt (by omega)
        · rw [upd_same, et, e1]
          simp
        · rw [upd_ne (ne_of_none e hD)]
          exact sm a o e
    · rintro H' ⟨hl, sm⟩
      rw [sizeS, List.take_length] at hl
      have z := List.length_filter_le (X k) l
      exact join_ones hl (by omega) (q H' sm)
abbrev nParted : List Str := ["plan", "way", "kinds", "kept", "moved", "loose", "at"]
theorem ones_len' (ks : List Nat) : (ones ks).length = ks.length := List.length_map ..
theorem sc_parted : FnScope nParted ["plan", "way", "kinds"] (defScope s_parted) := ⟨rfl, rfl, rfl, by decide +kernel, rfl, by decide +kernel, by decide +kernel⟩
def countAt (σ : L2.St) : Nat := match σ[6]? with
  | some (some (V.int i)) => i.toNat
  | _ => 0
abbrev pdx (P : Program) (w : World) (K : PySem.W.Frag) (mg : Str → Option Value) (base : Heap) (f : Addr) (cdv : Value) (A : Around) (outer : List Env) (s : Shared) (H : Hp) (E : XK) : Cx :=
  (cxOf C8.CX0 P w K mg base nParted "parted" (defScope s_parted) f cdv A outer s H E).nox
theorem parted_ret (f : Addr) (cdv : Value) (A : Around) (outer : List Env) (s0 : Shared) (H0 : Hp) (E0 : XK) :
    ∃ tt, PSs (pdx P w K mg base f cdv A outer s0 H0 E0) ((defBody s_parted).drop 5) tt ∧ ∀ (D : Ends) (u0 u2 u5 : Option V) (n kp mv : List Nat) (ka ma : Addr) (a : Nat) (G : Hp),
      G ka = some (.lst (ones kp)) → G ma = some (.lst (ones mv)) → kp.length + mv.length + a = n.length → n.length ≤ 100000 →
      (∀ t G', SqT K G' t [.str (S (kp ++ (n.take a).reverse).reverse), .str (S mv.reverse)] → L2.Same G G' → D.rt (.ref t) G') →
      tt D [u0, some (.str (S n)), u2, some (.ref ka), some (.ref ma), u5, some (.int (a : Int))] G := by
  refine ⟨_, (pss_one (ps_ret (pe_tup (pa_cons (pe_op op_add_str (pe_slice sl_str (pv 1) po_none (po_some (pv 6))) (pe_revS (pe_join pe_str (pv 3)) (pe_un un_neg pe_int))) (pa_cons (pe_revS (pe_join pe_str (pv 4)) (pe_un un_neg pe_int)) pa_nil))))), ?_⟩
  intro D u0 u2 u5 n kp mv ka ma a G gk gm le ln q
  have lS : (S n).length ≤ sizeLine := by rw [S_len]; exact len_line (by omega)
  refine ⟨_, rfl, _, rfl, _, rfl, _, rfl, lS, ?_⟩
  rw [S_cutTo]
  refine ⟨⟨_, rfl⟩, _, rfl, ?_⟩
  refine ⟨_, ka, kp.map (fun c => S [c]), rfl, rfl, .inl (ones_sq gk), ones_sum kp (by omega), ?_⟩
  rw [empty_S, S_join1]
  refine ⟨kp, rfl, by omega, _, _, rfl, rfl, (by rw [S_len, S_len, List.length_reverse, List.length_take]; exact len_line (by omega)), ?_⟩
  rw [S_cat]
  refine ⟨⟨_, rfl⟩, _, rfl, ?_⟩
  refine ⟨_, ma, mv.map (fun c => S [c]), rfl, rfl, .inl (ones_sq gm), ones_sum mv (by omega), ?_⟩
  rw [S_join1]
  refine ⟨mv, rfl, by omega, (by show 2 ≤ sizeLine; exact len_line (by omega)), fun t ht => ?_⟩
  refine q t _ (SqT.of ?_) (same_new ht)
  rw [upd_same, List.reverse_append, List.reverse_reverse]
theorem ok_parted (F : D K mg "parted" s_parted []) (zl : mg "len" = none) (cT : C8.Cal P w K mg base 1 "those_across" (spThose C) []) : C8.Cal P w K mg base 2 "parted" (spParted K C) [] := by
  refine F.cal (ps := ["plan", "way", "kinds"]) sc_parted (fun f fd F => F.bindsN fun _ _ _ _ _ _ us hl => match us, hl with | [_, _, _], _ => rfl) (fun vs H Q E h => ?_) (fun f cdv A outer s H vs Q E hr h => ?_)
  · obtain ⟨p, ks, X, n, lo, rfl, _⟩ := h
    rfl
  · obtain ⟨p, ks, X, n, lo, rfl, hp, hn, hlo, ln, llo, q⟩ := h
    obtain ⟨tT, hT, qT⟩ := parted_ret (P := P) (w := w) (K := K) (mg := mg) (base := base) f cdv A outer s H E
    refine ⟨_, pss_cons (ps_set (i := 3) sc_parted.nd rfl (.inl rfl) (pe_lst pa_nil)) (pss_cons (ps_set (i := 4) sc_parted.nd rfl (.inl rfl) (pe_lst pa_nil)) (pss_cons (ps_set (i := 5) sc_parted.nd rfl (.inl rfl) (pv 2))
      (pss_cons (ps_set (i := 6) sc_parted.nd rfl (.inl rfl) (pe_callB call_len_str (by rfl) zl PySem.boot_len (pa_cons (pv 1) pa_nil)))
      (pss_cons (ps_while PassesOwn.never (PW.pt (pw_and (pt_truth (pv 6) (by intro _; rfl)) (pw_and1 (pt_truth (pv 5) (by intro _; rfl)))))
        (pss_cons (ps_aug (i := 6) sc_parted.nd rfl (.inl rfl) pe_int ip_sub)
        (pss_one (ps_if (pt_cmpR op_in_sign (pe_ix ix_str (pv 1) (pv 6) (fun _ _ => rfl)) (pv 5) (by rfl))
          (pss_one (ps_expr (pe_bm PySem.F.plainAttrs_list PySem.F.slot_list_append PySem.F.type_list_append mt_append (pv 4) (pa_cons (pe_ix ix_str (pv 1) (pv 6) (fun _ _ => rfl)) pa_nil))))
          (pss_cons (ps_expr (pe_bm PySem.F.plainAttrs_list PySem.F.slot_list_append PySem.F.type_list_append mt_append (pv 3) (pa_cons (pe_ix ix_str (pv 1) (pv 6) (fun _ _ => rfl)) pa_nil)))
          (pss_one (ps_set (i := 5) sc_parted.nd rfl (.inl rfl) (C8.pe_c cT hr (by decide) (by rfl) (pa_cons (pv 0) (pa_cons (pv 5) (pa_cons (pe_ix ix_str (pv 1) (pv 6) (fun _ _ => rfl)) pa_nil)))))))))))
      hT)))), ?_⟩
    refine ⟨(by show 0 ≤ sizeLine; exact Nat.zero_le _), fun ka hka => ?_⟩
    have s1 : L2.Same H (upd H ka (.lst [])) := same_new hka
    have gk : (upd H ka (.lst [])) ka = some (.lst []) := upd_same
    generalize (upd H ka (.lst [])) = H1 at s1 gk ⊢
    refine ⟨(by show 0 ≤ sizeLine; exact Nat.zero_le _), fun ma hma => ?_⟩
    have s2 : L2.Same H1 (upd H1 ma (.lst [])) := same_new hma
    have gm : (upd H1 ma (.lst [])) ma = some (.lst []) := upd_same
    have gk2 := s2 _ _ gk
    have nkm : ka ≠ ma := fun z => by rw [← z, gk] at hma; cases hma
    have s12 := s1.trans s2
    generalize (upd H1 ma (.lst [])) = H2 at s2 s12 gm gk2 ⊢
    have lS : (S n).length ≤ sizeLine := by rw [S_len]; exact len_line (by omega)
    refine ⟨_, rfl, _, rfl, _, rfl, lS, ?_⟩
    rw [S_len]
    refine while_by (fun σ G => ∃ (a : Nat) (kp mv l : List Nat), σ = [some (.ref p), some (.str (S n)), some (.str (S lo)), some (.ref ka), some (.ref ma), some (.str (S l)), some (.int (a : Int))] ∧ G ka = some (.lst (ones kp)) ∧ G ma = some (.lst (ones mv)) ∧ kp.length + mv.length + a = n.length ∧
        (∀ c ∈ l, c ∈ ks) ∧ l.length ≤ 1000 ∧ par X lo n.reverse = kp ++ par X l (n.take a).reverse ∧ parM X lo n.reverse = mv ++ parM X l (n.take a).reverse ∧ L2.Same H G) (fun σ _ => countAt σ) ⟨n.length, [], [], lo, rfl, gk2, gm, by simp, hlo, llo, by rw [List.take_length]; rfl, by rw [List.take_length]; rfl, s12⟩ ?_ ?_
    · rintro σ G ⟨a, kp, mv, l, rfl, gk3, gm3, le, hl, ll, ek, em, sm⟩
      refine ⟨_, rfl, _, rfl, ?_⟩
      cases a with
      | zero =>
        refine iteF (iteF ?_)
        refine qT _ _ _ _ n kp mv ka ma 0 G gk3 gm3 le ln fun t G' ht s3 => q t G' ?_ (sm.trans s3)
        have e1 : par X lo n.reverse = kp ++ (n.take 0).reverse := ek
        have e2 : parM X lo n.reverse = mv := by
          rw [em]
          show mv ++ [] = mv
          rw [List.append_nil]
        rw [e1, e2]
        exact ht
      | succ a =>
        refine iteT ?_
        refine ⟨_, rfl, _, ⟨by rw [S_len]; exact len_line (by omega), rfl⟩, ?_⟩
        rw [S_len]
        cases l with
        | nil =>
          refine iteF ?_
          refine qT _ _ _ _ n kp mv ka ma (a + 1) G gk3 gm3 le ln fun t G' ht s3 => q t G' ?_ (sm.trans s3)
          rw [par_nil] at ek
          rw [parM_nil, List.append_nil] at em
          rw [ek, em]
          exact ht
        | cons l0 l1 =>
          refine iteT ?_
          generalize l0 :: l1 = l at hl ll ek em ⊢
          refine ⟨_, rfl, _, _, rfl, rfl, ?_⟩
          have ha : a < n.length := by omega
          have hc : n[a]? = some n[a] := List.getElem?_eq_getElem ha
          generalize n[a] = c at hc
          have cin := hn c (List.mem_of_getElem? hc)
          rw [take_one hc, List.reverse_append] at ek em
          dsimp only
          rw [show ((a + 1 : Nat) : Int) - 1 = (a : Int) from by omega]
          have hat := atI_nat (j := a) hc
          refine ⟨_, rfl, _, rfl, _, _, c, rfl, rfl, lS, hat, _, rfl, c, _, rfl, rfl, _, rfl, ?_⟩
          rw [mem_S]
          have lm := le
          cases e : l.contains c
          · refine iteF ?_
            rw [show [c].reverse ++ (n.take a).reverse = c :: (n.take a).reverse from rfl, par_cons_out e] at ek
            rw [show [c].reverse ++ (n.take a).reverse = c :: (n.take a).reverse from rfl, parM_cons_out e] at em
            refine ⟨_, rfl, .inl ⟨rfl, _, SqL.of gk3⟩, _, rfl, _, rfl, _, _, c, rfl, rfl, lS, hat, ka, _, _, rfl, rfl, gk3, (by rw [ones_len']; exact len_lt (by omega)), ?_⟩
            have nk : ∀ (b : Addr) (o : HO), H b = some o → b ≠ ka := fun b o h z => by rw [z, hka] at h; cases h
            have s5 : L2.Same H (upd G ka (.lst (ones kp ++ [V.str (S [c])]))) := fun b o h => by
              rw [upd_ne (nk b o h)]
              exact sm b o h
            have gk5 : (upd G ka (.lst (ones kp ++ [V.str (S [c])]))) ka = some (.lst (ones (kp ++ [c]))) := by
              rw [upd_same]
              unfold ones
              rw [List.map_append]
              rfl
            have gm5 : (upd G ka (.lst (ones kp ++ [V.str (S [c])]))) ma = some (.lst (ones mv)) := by rw [upd_ne nkm.symm]; exact gm3
            generalize (upd G ka (.lst (ones kp ++ [V.str (S [c])]))) = G5 at s5 gk5 gm5 ⊢
            refine ⟨_, rfl, _, rfl, _, rfl, _, rfl, _, _, c, rfl, rfl, lS, hat, p, ks, X, l, c, rfl, hp.same s5, cin, hl, ll, fun G6 s6 => ⟨⟨a, kp ++ [c], mv, l.filter (X c), rfl, s6 _ _ gk5, s6 _ _ gm5, by simp; omega, fun x hx => hl x (List.mem_filter.mp hx).1, Nat.le_trans (List.length_filter_le _ _) ll, by rw [ek]; simp, em, s5.trans s6⟩, ?_⟩⟩
            show (a : Int).toNat < ((a + 1 : Nat) : Int).toNat
            omega
          · refine iteT ?_
            rw [show [c].reverse ++ (n.take a).reverse = c :: (n.take a).reverse from rfl, par_cons_in e] at ek
            rw [show [c].reverse ++ (n.take a).reverse = c :: (n.take a).reverse from rfl, parM_cons_in e] at em
            refine ⟨_, rfl, .inl ⟨rfl, _, SqL.of gm3⟩, _, rfl, _, rfl, _, _, c, rfl, rfl, lS, hat, ma, _, _, rfl, rfl, gm3, (by rw [ones_len']; exact len_lt (by omega)), ?_⟩
            have nk : ∀ (b : Addr) (o : HO), H b = some o → b ≠ ma := fun b o h z => by
              have := s1 b o h
              rw [z, hma] at this
              cases this
            have s5 : L2.Same H (upd G ma (.lst (ones mv ++ [V.str (S [c])]))) := fun b o h => by
              rw [upd_ne (nk b o h)]
              exact sm b o h
            refine ⟨⟨a, kp, mv ++ [c], l, rfl, by rw [upd_ne nkm]; exact gk3, ?_, by simp; omega, hl, ll, ek, by rw [em]; simp, s5⟩, ?_⟩
            · rw [upd_same]
              unfold ones
              rw [List.map_append]
              rfl
            · show (a : Int).toNat < ((a + 1 : Nat) : Int).toNat
              omega
    · rintro σ G' Q1 Q2 hq ⟨x, e0, k, h0, h⟩
      refine ⟨x, e0, k, h0, ?_⟩
      cases k
      · exact hq _ _ h
      · obtain ⟨y, e1, k1, h1, h2⟩ := h
        exact ⟨y, e1, k1, h1, hq _ _ h2⟩
end
end TX
end
section
set_option maxRecDepth 100000
set_option maxHeartbeats 4000000
namespace TX
open PySem PySem.Spec PyProof.Rows L2
/-- a == b and the like, instances of two own classes -/
theorem op_cmpOwn2 {X : Cx} {k : Nat} {C C' : Addr} {sp : Sp} {op : CmpOp} (hop : ∀ a b, compareOp op a b = richCompare op a b) (D : Dun X.prog X.w X.K X.mg X.base k C (cmpInfo op).2.1 sp) (nf : PySem.W.subIn X.K (.ref C') (.ref C) = some false) (hr : Room k X.A) :
    OpR X (compareOp op) (fun x y H Q => ∃ a dx fs b dy gs, x = .ref a ∧ y = .ref b ∧ H a = some (.ins C dx fs) ∧ H b = some (.ins C' dy gs) ∧ sp [x, y] H Q C8.E0) := by
  intro pins s σ H x y v u Q I rx ry h
  obtain ⟨a, dx, fs, b, dy, gs, rfl, rfl, ha, hb, h⟩ := h
  obtain ⟨f, fd, ps, F, hs, hf, bi⟩ := D.ex
  have ev : v = .ref a := rx
  have eu : u = .ref b := ry
  subst ev
  subst eu
  obtain ⟨oa, ia⟩ := inst_of I ha
  obtain ⟨ob, ib⟩ := inst_of I hb
  obtain ⟨m, fr⟩ := I.fr
  rw [hop]
  refine PySem.W.cmp_K (by have := hr.un; omega) fr I.ok.mod.kin ia ib.type (by unfold PySem.W.notFirst; simp [nf]) hs hf ?_
  exact thn (run_sub (sub_self hr) F bi I (.cons rx (.cons ry .nil)) h) fun u s' ⟨v, H', I', r, q⟩ => not_ni r ⟨v, H', I', r, q⟩
theorem pe_never {X : Cx} {e : Expr} : PE X e (fun _ _ _ => False) := ⟨fun _ _ _ _ _ _ h => h.elim⟩
end TX
end
section
set_option maxRecDepth 100000
set_option maxHeartbeats 8000000
/-! pairs of lists; a tuple that stands still -/
namespace TX
open PySem PySem.Spec PyProof.Rows L2 SX CW
theorem sqT_upd {K : PySem.W.Frag} {G : Hp} {p D : Addr} {u o : HO} {xs : List V} (h : SqT K G p xs) (hD : G D = some u) (h1 : ∀ ys, u ≠ .tup ys) (h2 : ∀ o ys, u ≠ .frz o (.tup ys)) : SqT K (upd G D o) p xs := by
  rcases h with (h | ⟨o', h⟩) | h
  · have n : p ≠ D := fun z => by
      rw [z, hD] at h
      exact h1 _ (Option.some.inj h)
    exact .inl (.inl (by rw [upd_ne n]; exact h))
  · have n : p ≠ D := fun z => by
      rw [z, hD] at h
      exact h2 _ _ (Option.some.inj h)
    exact .inl (.inr ⟨o', by rw [upd_ne n]; exact h⟩)
  · exact .inr h
theorem paired_imp {α β : Type} {F F' : α → β → Prop} (h : ∀ a b, F a b → F' a b) : ∀ {l : List α} {m : List β}, Paired F l m → Paired F' l m
  | _, _, .nil => .nil
  | _, _, .cons x xs => .cons (h _ _ x) (paired_imp h xs)
theorem paired_snoc {α β : Type} {F : α → β → Prop} {a : α} {b : β} (x : F a b) : ∀ {l : List α} {m : List β}, Paired F l m → Paired F (l ++ [a]) (m ++ [b])
  | _, _, .nil => .cons x .nil
  | _, _, .cons y ys => .cons y (paired_snoc x ys)
theorem vals_rev : ∀ {zs : List V} {ws : List Value}, Vals zs ws → Vals zs.reverse ws.reverse
  | _, _, .nil => .nil
  | _, _, .cons x xs => by
    rw [List.reverse_cons, List.reverse_cons]
    exact paired_snoc x (vals_rev xs)
theorem vals_app {vs : List V} {us : List Value} {zs : List V} {ws : List Value} (h2 : Vals zs ws) : Vals vs us → Vals (vs ++ zs) (us ++ ws)
  | .nil => h2
  | .cons x xs => .cons x (vals_app h2 xs)
end TX
end
section
set_option maxRecDepth 100000
set_option maxHeartbeats 4000000
/-! a room beside a text; a room made by keywords -/
namespace TX
open PySem PySem.Spec PyProof.Rows L2 SX CW
/-- room == text -/
def spRoomEqT (CR : Addr) : Sp := fun vs H Q _ => ∃ (a dx : Addr) (fs : List (Str × V)) (x : Str), vs = [.ref a, .str x] ∧ H a = some (.ins CR dx fs) ∧ Q (.bl false) H
section
variable {P : Program} {w : World} {K : PySem.W.Frag} {mg : Str → Option Value} {base : Heap} {C CR : Addr}
theorem ok_roomeqT {f : Addr} {fd : FuncData} (F : FunD K "__eq__" "Room.__eq__" (defArgs s_Room_eq) (defBody s_Room_eq) (defScope s_Room_eq) [] [] f fd) (hk : PySem.W.kitOne K (.type "str") (.ref CR) = some false) (zi : mg "isinstance" = none) (gR : mg "Room" = some (.ref CR)) :
    FnOk P w K mg base C8.CX0 2 f fd ["self", "other"] (spRoomEqT CR) := by
  refine F.ok sc_roomeq (fun vs H Q E h => ?_) (fun cdv A outer s H vs Q E hr h => ?_)
  · obtain ⟨a, dx, fs, x, rfl, _⟩ := h
    rfl
  · obtain ⟨a, dx, fs, x, rfl, ha, k⟩ := h
    refine ⟨_, PSs.nox (pss_one (ps_ret (pe_and (pe_callB call_isi (by rfl) zi PyProof.Rows.boot_isinstance (pa_cons (pv 1) (pa_cons (C8.pe_gc (v := .ref CR) (by rfl) ⟨_, gR, rfl⟩) pa_nil))) (pe_and pe_never (pe_one pe_never))))), ?_⟩
    exact ⟨_, rfl, _, _, .type "str", .ref CR, false, rfl, .own _, .base (.str _), hk, _, rfl, iteF k⟩
theorem kb_room {f : Addr} {fd : FuncData} (F : FunD K "__init__" "Room.__init__" (defArgs s_Room_init) (defBody s_Room_init) (defScope s_Room_init) [.str ""] [] f fd) :
    ∃ g : List Value → List Value → List Value, KBn K fd ["self", "plan", "way"] 1 ["way", "plan"] g (fun vs zs => vs ++ zs.reverse) := by
  obtain ⟨its, z⟩ := FunD.kbindsD (ps := ["self", "plan", "way"]) F 1 ["way", "plan"] (fun us _ ws => us ++ ws.reverse) (by simp) (fun r1 _ r3 => vals_app (vals_rev r3) r1)
    (fun T kV doc pm an cdv ct us its ws hu hi hw => match us, hu, its, hi, ws, hw with | [_], _, [_], _, [_, _], _ => ⟨_, rfl, rfl⟩)
  exact ⟨_, z⟩
end
end TX
end
section
set_option maxRecDepth 100000
set_option maxHeartbeats 4000000
/-! crosswalls.walls: walls made and compared -/
namespace TX
open PySem PySem.Spec PyProof.Rows L2 SX CW
/-- what keywords are bound to, of a def without defaults -/
theorem kbN {K : PySem.W.Frag} {x qual : Str} {params : Arguments} {body : List Stmt} {scope : Scope} {kws : List (Str × V)} {f : Addr} {fd : FuncData} {ps : List Str} (F : FunD K x qual params body scope [] kws f fd) (n : Nat) (ks : List Str) (g : {α : Type} → List α → List α → List α)
    (hrel : ∀ {vs zs : List V} {us ws : List Value}, Vals vs us → Vals zs ws → Vals (g vs zs) (g us ws))
    (h : ∀ (kV doc pm : Value) (an : Option Addr) (cdv ct : Value) (us ws : List Value), us.length = n → ws.length = ks.length → bindArgs (PySem.W.fnOf x qual params body scope .none kV doc pm an cdv ct) ⟨us, ks.zip ws⟩ = pure (ps.zip (g us ws))) :
    KBn K fd ps n ks (fun us ws => g us ws) (fun vs zs => g vs zs) := by
  obtain ⟨oc, od, dV, kV, doc, pm, an, cdv, ct, osl, rfl, lk, hcd, hD, hK⟩ := F.ex
  rcases hD with ⟨_, rfl⟩ | ⟨e, _⟩
  · exact ⟨fun s us ws X l1 l2 => .of_eq (h kV doc pm an cdv ct us ws l1 l2), fun r1 r2 => hrel r1 r2⟩
  · exact absurd rfl e
def wflds (p x : Addr) (d : Nat) : List (Str × V) := [("plan", .ref p), ("room", .ref x), ("kind", .str (S [d]))]
structure WallAt (C CR CL : Addr) (H : Hp) (a x p : Addr) (ks : List Nat) (X : Nat → Nat → Bool) (n : List Nat) (d : Nat) : Prop where
  rm : RoomAt C CR H x p ks X n
  ex : ∃ dx, H a = some (.ins CL dx (wflds p x d))
theorem WallAt.same {C CR CL : Addr} {H H' : Hp} {a x p : Addr} {ks : List Nat} {X : Nat → Nat → Bool} {n : List Nat} {d : Nat} (h : WallAt C CR CL H a x p ks X n d) (s : L2.Same H H') : WallAt C CR CL H' a x p ks X n d := by
  obtain ⟨dx, e⟩ := h.ex
  exact ⟨h.rm.same s, dx, s _ _ e⟩
theorem WallAt.pen {C CR CL : Addr} {H H' : Hp} {a x p c q : Addr} {m : Nat} {ks : List Nat} {X : Nat → Nat → Bool} {n : List Nat} {d : Nat} (h : WallAt C CR CL H a x q ks X n d) (l0 : 0 < ks.length) (hp : PenAt H p c m) (b : But p H H') : WallAt C CR CL H' a x q ks X n d := by
  obtain ⟨dx, e⟩ := h.ex
  exact ⟨h.rm.pen l0 hp b, dx, b _ _ (pen_ne hp e fun _ _ _ z => by cases z) e⟩
theorem WallAt.lst {C CR CL : Addr} {H : Hp} {a x p D : Addr} {ks : List Nat} {X : Nat → Nat → Bool} {n : List Nat} {d : Nat} {ys : List V} {o : HO} (h : WallAt C CR CL H a x p ks X n d) (hD : H D = some (.lst ys)) : WallAt C CR CL (upd H D o) a x p ks X n d := by
  obtain ⟨dx, e⟩ := h.ex
  exact ⟨h.rm.lst hD, dx, by rw [upd_ne (fun z => by rw [z, hD] at e; cases e)]; exact e⟩
theorem RoomAt.but {C CR : Addr} {H H' : Hp} {x p r C' dx' : Addr} {ks : List Nat} {X : Nat → Nat → Bool} {n : List Nat} {fs : List (Str × V)} (h : RoomAt C CR H x p ks X n) (hr : H r = some (.ins C' dx' fs)) (hf : fs.length ≤ 1) (k : But r H H') : RoomAt C CR H' x p ks X n := by
  obtain ⟨dx, e⟩ := h.ex
  have nx : x ≠ r := fun z => by
    rw [z, hr] at e
    have := (HO.ins.inj (Option.some.inj e)).2.2
    have := congrArg List.length this
    simp [rflds] at this
    omega
  exact ⟨h.pl.but hr (by omega) k, dx, k _ _ nx e⟩
structure WallT (K : PySem.W.Frag) (C : Addr) : Prop where
  cl : Cls K C
  np : NoAttr K C "plan"
  nr : NoAttr K C "room"
  nk : NoAttr K C "kind"
theorem wf_plan (p x : Addr) (d : Nat) : (wflds p x d).lookup ("plan" : Str) = some (.ref p) := by
  unfold wflds
  rw [List.lookup_cons, show (("plan" : Str) == ("plan" : Str)) = true from by decide +kernel]
theorem wf_room (p x : Addr) (d : Nat) : (wflds p x d).lookup ("room" : Str) = some (.ref x) := by
  unfold wflds
  rw [List.lookup_cons, show (("room" : Str) == ("plan" : Str)) = false from by decide +kernel]
  dsimp only
  rw [List.lookup_cons, show (("room" : Str) == ("room" : Str)) = true from by decide +kernel]
theorem wf_kind (p x : Addr) (d : Nat) : (wflds p x d).lookup ("kind" : Str) = some (.str (S [d])) := by
  unfold wflds
  rw [List.lookup_cons, show (("kind" : Str) == ("plan" : Str)) = false from by decide +kernel]
  dsimp only
  rw [List.lookup_cons, show (("kind" : Str) == ("room" : Str)) = false from by decide +kernel]
  dsimp only
  rw [List.lookup_cons, show (("kind" : Str) == ("kind" : Str)) = true from by decide +kernel]
theorem wf_eq (p x : Addr) (d : Nat) : putF "kind" (.str (S [d])) (putF "room" (.ref x) (putF "plan" (.ref p) [])) = wflds p x d := by
  have e1 : ¬ (("plan" : Str) = "room") := by decide +kernel
  have e2 : ¬ (("plan" : Str) = "kind") := by decide +kernel
  have e3 : ¬ (("room" : Str) = "kind") := by decide +kernel
  have h1 : putF "room" (.ref x) (putF "plan" (.ref p) []) = ([("plan", .ref p), ("room", .ref x)] : List (Str × V)) := by
    show (if ("plan" : Str) = "room" then _ else (("plan" : Str), V.ref p) :: putF "room" (.ref x) []) = _
    rw [if_neg e1]
    rfl
  rw [h1]
  show (if ("plan" : Str) = "kind" then _ else (("plan" : Str), V.ref p) :: (if ("room" : Str) = "kind" then _ else (("room" : Str), V.ref x) :: putF "kind" (.str (S [d])) [])) = _
  rw [if_neg e2, if_neg e3]
  rfl
def spWallInit (C CR CL : Addr) : Sp := fun vs H Q _ => ∃ (r dx b p : Addr) (ks : List Nat) (X : Nat → Nat → Bool) (n : List Nat) (d : Nat), vs = [.ref r, .ref b, .str (S [d])] ∧ H r = some (.ins CL dx []) ∧ RoomAt C CR H b p ks X n ∧ d ∈ ks ∧ (∀ c ∈ n, c ∈ ks) ∧ n.length ≤ 2000 ∧
  ∀ H' x, But r H H' → WallAt C CR CL H' r x p ks X (toD ks X n d) d → Q .non H'
/-- a wall compared with a wall, or with a room -/
def spWallEq (C CR CL : Addr) : Sp := fun vs H Q _ => ∃ (a b x p : Addr) (ks : List Nat) (X : Nat → Nat → Bool) (n : List Nat) (d : Nat), vs = [.ref a, .ref b] ∧ WallAt C CR CL H a x p ks X n d ∧
  ((∃ (y q : Addr) (m : List Nat) (e : Nat), WallAt C CR CL H b y q ks X m e ∧ Q (.bl (decide (d = e) && decide (n = m))) H) ∨
   (∃ (y q : Addr) (ks' : List Nat) (X' : Nat → Nat → Bool) (m : List Nat) (e : Nat), WallAt C CR CL H b y q ks' X' m e ∧ d ≠ e ∧ Q (.bl false) H) ∨
   ∃ (dx : Addr) (fs : List (Str × V)), H b = some (.ins CR dx fs) ∧ Q (.bl false) H)
section
variable {P : Program} {w : World} {K : PySem.W.Frag} {mg : Str → Option Value} {base : Heap} {C CR CL : Addr}
theorem sc_todoor : FnScope ["plan", "way", "kind"] ["plan", "way", "kind"] (defScope s_to_door) := ⟨rfl, rfl, rfl, by decide +kernel, rfl, by decide +kernel, by decide +kernel⟩
theorem ok_todoor (F : D K mg "to_door" s_to_door []) (T : PlanT K C) (cP : C8.Cal P w K mg base 2 "parted" (spParted K C) []) : C8.Cal P w K mg base 3 "to_door" (spToDoor C) [] := by
  refine F.cal (ps := ["plan", "way", "kind"]) sc_todoor (fun f fd F => F.bindsN fun _ _ _ _ _ _ us hl => match us, hl with | [_, _, _], _ => rfl) (fun vs H Q E h => ?_) (fun f cdv A outer s H vs Q E hr h => ?_)
  · obtain ⟨p, ks, X, n, d, rfl, _⟩ := h
    rfl
  · obtain ⟨p, ks, X, n, d, rfl, hp, hn, hd, ln, q⟩ := h
    have hu := hu_of hr
    refine ⟨_, pss_one (ps_ret (pe_ix ix_tup (C8.pe_c cP hr (by decide) (by rfl) (pa_cons (pv 0) (pa_cons (pv 1) (pa_cons (pe_op op_add_str (pv 2) (pe_dget hu (pe_fld (pv 0) rfl) (pv 2) (fun _ _ => rfl))) pa_nil)))) pe_int (fun _ _ => rfl))), ?_⟩
    obtain ⟨dx, tp, da, dl, h1, h2, h3, h4⟩ := hp.ex
    have la : (acr ks X d).length ≤ 26 := Nat.le_trans (List.length_filter_le _ _) hp.few
    refine ⟨_, rfl, _, rfl, _, rfl, _, rfl, p, C, dx, _, _, rfl, h1, T.cl, T.na, pf_across _ _ _ _, _, rfl, da, _, rfl, h3.get hd, _, _, rfl, rfl, (by rw [S_len, S_len]; exact len_line (by simp; omega)), ?_⟩
    rw [S_cat]
    refine ⟨p, ks, X, n, alo ks X d, rfl, hp, hn, fun c hc => ?_, ln, by show (acr ks X d).length + 1 ≤ 1000; omega, fun t H' ht s1 => ?_⟩
    · rcases List.mem_cons.mp hc with z | z
      · rw [z]; exact hd
      · exact (List.mem_filter.mp z).1
    · exact ⟨t, _, _, _, rfl, rfl, ht, atI_nat (j := 0) rfl, q H' s1⟩
theorem sc_wallinit : FnScope ["self", "room", "kind"] ["self", "room", "kind"] (defScope s_Wall_init) := ⟨rfl, rfl, rfl, by decide +kernel, rfl, by decide +kernel, by decide +kernel⟩
theorem ok_wallbody {f : Addr} {fd : FuncData} (F : FunD K "__init__" "Wall.__init__" (defArgs s_Wall_init) (defBody s_Wall_init) (defScope s_Wall_init) [] [] f fd) (TR : RoomT K CR) (TW : WallT K CL)
    (cK : C8.Cal P w K mg base 1 "check_kind" (spChkKind C) []) (cT : C8.Cal P w K mg base 3 "to_door" (spToDoor C) []) (cN : C8.Cal P w K mg base 5 "room_named" (spRoomNamed C CR) []) : FnOk P w K mg base C8.CX0 6 f fd ["self", "room", "kind"] (spWallInit C CR CL) := by
  refine F.ok sc_wallinit (fun vs H Q E h => ?_) (fun cdv A outer s H vs Q E hr h => ?_)
  · obtain ⟨r, dx, b, p, ks, X, n, d, rfl, _⟩ := h
    rfl
  · obtain ⟨r, dx, b, p, ks, X, n, d, rfl, hr0, hb, hd, hn, ln, q⟩ := h
    refine ⟨_, PSs.nox (pss_cons (ps_expr (C8.pe_c cK hr (by decide) (by rfl) (pa_cons (pe_fld (pv 1) rfl) (pa_cons (pv 2) pa_nil))))
      (pss_cons (ps_fld (pv 0) (pe_fld (pv 1) rfl) rfl)
      (pss_cons (ps_fld (pv 0) (C8.pe_c cN hr (by decide) (by rfl) (pa_cons (pe_fld (pv 1) rfl) (pa_cons (C8.pe_c cT hr (by decide) (by rfl) (pa_cons (pe_fld (pv 1) rfl) (pa_cons (pe_fld (pv 1) rfl) (pa_cons (pv 2) pa_nil)))) pa_nil))) rfl)
      (pss_one (ps_fld (pv 0) (pv 2) rfl))))), ?_⟩
    obtain ⟨ex, g1⟩ := hb.ex
    have nb : b ≠ r := fun z => by
      rw [z, hr0] at g1
      have := HO.ins.inj (Option.some.inj g1)
      have := congrArg List.length this.2.2
      simp [rflds] at this
    refine ⟨_, rfl, b, CR, ex, _, _, rfl, g1, TR.cl, TR.np, rf_plan _ _, _, rfl, p, ks, X, d, rfl, hb.pl, hd, ?_⟩
    refine ⟨_, rfl, b, CR, ex, _, _, rfl, g1, TR.cl, TR.np, rf_plan _ _, _, rfl, r, CL, dx, [], rfl, hr0, TW.cl, TW.np, (by show 0 < 1000; decide), ?_⟩
    have hp2 : PlanAt C (upd H r (.ins CL dx (putF "plan" (.ref p) []))) p ks X := hb.pl.but hr0 (by simp) But.at
    have g2 : (upd H r (.ins CL dx (putF "plan" (.ref p) []))) b = some (.ins CR ex (rflds p n)) := by rw [upd_ne nb]; exact g1
    have r2 : (upd H r (.ins CL dx (putF "plan" (.ref p) []))) r = some (.ins CL dx (putF "plan" (.ref p) [])) := upd_same
    have b2 : But r H (upd H r (.ins CL dx (putF "plan" (.ref p) []))) := But.at
    generalize (upd H r (.ins CL dx (putF "plan" (.ref p) []))) = H2 at hp2 g2 r2 b2 ⊢
    refine ⟨_, rfl, b, CR, ex, _, _, rfl, g2, TR.cl, TR.np, rf_plan _ _, ?_⟩
    refine ⟨_, rfl, b, CR, ex, _, _, rfl, g2, TR.cl, TR.np, rf_plan _ _, _, rfl, b, CR, ex, _, _, rfl, g2, TR.cl, TR.nn, rf_nameV _ _, _, rfl, p, ks, X, n, d, rfl, hp2, hn, hd, by omega, fun H3 s3 => ?_⟩
    have lt := toD_len (ks := ks) (X := X) (n := n) (d := d)
    refine ⟨p, ks, X, toD ks X n d, rfl, hp2.same s3, by omega, fun x H4 rx s4 => ?_⟩
    have s34 := s3.trans s4
    refine ⟨_, rfl, r, CL, dx, _, rfl, s34 _ _ r2, TW.cl, TW.nr, (by show 1 < 1000; decide), ?_⟩
    refine ⟨_, rfl, _, rfl, r, CL, dx, _, rfl, upd_same, TW.cl, TW.nk, (by show 2 < 1000; decide), ?_⟩
    rw [upd_upd, wf_eq]
    have r4 := s34 _ _ r2
    have rx5 : RoomAt C CR (upd H4 r (.ins CL dx (wflds p x d))) x p ks X (toD ks X n d) := rx.but r4 (by show 1 ≤ 1; omega) But.at
    exact q _ x (b2.trans ((But.of s34).trans But.at)) ⟨rx5, dx, upd_same⟩
theorem ok_wall {f : Addr} {fd : FuncData} (F : FunD K "__init__" "Wall.__init__" (defArgs s_Wall_init) (defBody s_Wall_init) (defScope s_Wall_init) [] [] f fd) (M : Mk K CL f) (gW : mg "Wall" = some (.ref CL))
    (B : FnOk P w K mg base C8.CX0 6 f fd ["self", "room", "kind"] (spWallInit C CR CL)) : C8.Mak P w K mg base 6 "Wall" CL (spWallInit C CR CL) [] :=
  ⟨f, fd, ["self", "room", "kind"], [], M, B, gW, F.bindsN fun _ _ _ _ _ _ us hl => match us, hl with | [_, _, _], _ => rfl, .nil⟩
theorem kb_wall {f : Addr} {fd : FuncData} (F : FunD K "__init__" "Wall.__init__" (defArgs s_Wall_init) (defBody s_Wall_init) (defScope s_Wall_init) [] [] f fd) :
    KBn K fd ["self", "room", "kind"] 1 ["kind", "room"] (fun us ws => us ++ ws.reverse) (fun vs zs => vs ++ zs.reverse) :=
  kbN F 1 ["kind", "room"] (fun us ws => us ++ ws.reverse) (fun r1 r3 => vals_app (vals_rev r3) r1) (fun kV doc pm an cdv ct us ws hu hw => match us, hu, ws, hw with | [_], _, [_, _], _ => rfl)
theorem sc_walleq : FnScope ["self", "other"] ["self", "other"] (defScope s_Wall_eq) := ⟨rfl, rfl, rfl, by decide +kernel, rfl, by decide +kernel, by decide +kernel⟩
theorem ok_walleq {f : Addr} {fd : FuncData} (F : FunD K "__eq__" "Wall.__eq__" (defArgs s_Wall_eq) (defBody s_Wall_eq) (defScope s_Wall_eq) [] [] f fd) (TW : WallT K CL) (nI : C8.InsC K CL) (nR : C8.InsC K CR) (hk : PySem.W.kitOne K (.ref CR) (.ref CL) = some false) (zi : mg "isinstance" = none) (gW : mg "Wall" = some (.ref CL))
    (DE : Dun P w K mg base 2 CR "__eq__" (spRoomEq C CR)) : FnOk P w K mg base C8.CX0 3 f fd ["self", "other"] (spWallEq C CR CL) := by
  refine F.ok sc_walleq (fun vs H Q E h => ?_) (fun cdv A outer s H vs Q E hr h => ?_)
  · obtain ⟨a, b, x, p, ks, X, n, d, rfl, _⟩ := h
    rfl
  · obtain ⟨a, b, x, p, ks, X, n, d, rfl, ha, hb⟩ := h
    refine ⟨_, PSs.nox (pss_one (ps_ret (pe_and (pe_callB call_isi (by rfl) zi PyProof.Rows.boot_isinstance (pa_cons (pv 1) (pa_cons (C8.pe_gc (v := .ref CL) (by rfl) ⟨_, gW, rfl⟩) pa_nil)))
      (pe_and (pe_cmpR op_eq (pe_fld (pv 0) rfl) (pe_fld (pv 1) rfl) (nomark _)) (pe_one (pe_cmpR (op_cmpOwn (op := .Eq) (fun _ _ => rfl) DE hr) (pe_fld (pv 0) rfl) (pe_fld (pv 1) rfl) (nomark _))))))), ?_⟩
    obtain ⟨dx, h1⟩ := ha.ex
    rcases hb with ⟨y, q, m, e, hb, k⟩ | ⟨y, q, ks', X', m, e, hb, ne, k⟩ | ⟨dy, fs, hb, k⟩
    · obtain ⟨dy, g1⟩ := hb.ex
      refine ⟨_, rfl, _, _, .ref CL, .ref CL, true, rfl, .own _, .base (.ins g1 nI.cl nI.ha nI.hn nI.htk nI.hm), nI.me, _, rfl, iteT ?_⟩
      refine ⟨_, rfl, a, CL, dx, _, _, rfl, h1, TW.cl, TW.nk, wf_kind _ _ _, _, rfl, b, CL, dy, _, _, rfl, g1, TW.cl, TW.nk, wf_kind _ _ _, rfl, _, rfl, ?_⟩
      rw [str_ne, show decide ([d] = [e]) = decide (d = e) from by simp]
      cases z : decide (d = e)
      · rw [z, Bool.false_and] at k
        exact iteF k
      · rw [z, Bool.true_and] at k
        refine iteT ⟨_, rfl, a, CL, dx, _, _, rfl, h1, TW.cl, TW.nr, wf_room _ _ _, _, rfl, b, CL, dy, _, _, rfl, g1, TW.cl, TW.nr, wf_room _ _ _, ?_⟩
        exact eq_room ha.rm hb.rm k
    · obtain ⟨dy, g1⟩ := hb.ex
      refine ⟨_, rfl, _, _, .ref CL, .ref CL, true, rfl, .own _, .base (.ins g1 nI.cl nI.ha nI.hn nI.htk nI.hm), nI.me, _, rfl, iteT ?_⟩
      refine ⟨_, rfl, a, CL, dx, _, _, rfl, h1, TW.cl, TW.nk, wf_kind _ _ _, _, rfl, b, CL, dy, _, _, rfl, g1, TW.cl, TW.nk, wf_kind _ _ _, rfl, _, rfl, ?_⟩
      rw [str_ne, show decide ([d] = [e]) = false from by simp [ne]]
      exact iteF k
    · exact ⟨_, rfl, _, _, .ref CR, .ref CL, false, rfl, .own _, .base (.ins hb nR.cl nR.ha nR.hn nR.htk nR.hm), hk, _, rfl, iteF k⟩
end
end TX
end
section
/-! Which rooms are beyond a wall: the walls that a shortest way goes through. -/
namespace CW
variable {X : Nat → Nat → Bool} {ks : List Nat}
theorem rd_mem {k : Nat} : ∀ {r : List Nat}, rd X r k = true → k ∈ r
  | [], h => by cases h
  | o :: r, h => by
    have q : ((o == k) || (X o k && rd X r k)) = true := h
    rw [Bool.or_eq_true, Bool.and_eq_true, beq_iff_eq] at q
    rcases q with z | ⟨_, z⟩
    · rw [z]; exact List.mem_cons_self
    · exact List.mem_cons_of_mem _ (rd_mem z)
theorem rd_skip {k a : Nat} {q : List Nat} (hq : ∀ c ∈ q, X k c = true) : ∀ {p : List Nat}, rd X (p ++ q) a = true → rd X (p ++ k :: q) a = true
  | [], h => by
    have x := hq a (rd_mem h)
    show ((k == a) || (X k a && rd X q a)) = true
    have h' : rd X q a = true := h
    rw [x, h']
    simp
  | o :: p, h => by
    have z : ((o == a) || (X o a && rd X (p ++ q) a)) = true := h
    show ((o == a) || (X o a && rd X (p ++ k :: q) a)) = true
    rw [Bool.or_eq_true, Bool.and_eq_true] at z ⊢
    exact z.imp id fun ⟨z1, z2⟩ => ⟨z1, rd_skip hq z2⟩
theorem red_out {k : Nat} {q : List Nat} (hq : ∀ c ∈ q, X k c = true) : ∀ {p : List Nat}, red X (p ++ k :: q) = true → red X (p ++ q) = true
  | [], h => by
    have h' : (!rd X q k && red X q) = true := h
    rw [Bool.and_eq_true] at h'
    exact h'.2
  | a :: p, h => by
    have h' : (!rd X (p ++ k :: q) a && red X (p ++ k :: q)) = true := h
    rw [Bool.and_eq_true, Bool.not_eq_true'] at h'
    show (!rd X (p ++ q) a && red X (p ++ q)) = true
    rw [red_out hq h'.2]
    cases e : rd X (p ++ q) a with
    | false => rfl
    | true =>
      rw [rd_skip hq e] at h'
      cases h'.1
theorem rd_left {k : Nat} {m : List Nat} : ∀ {l : List Nat}, rd X (l ++ m) k = false → rd X l k = false
  | [], _ => rfl
  | o :: l, h => by
    have z : ((o == k) || (X o k && rd X (l ++ m) k)) = false := h
    rw [Bool.or_eq_false_iff] at z
    show ((o == k) || (X o k && rd X l k)) = false
    rw [z.1, Bool.false_or]
    cases x : X o k with
    | false => rfl
    | true =>
      have z2 := z.2
      rw [x, Bool.true_and] at z2
      rw [rd_left z2]
      rfl
/-- a letter that is found behind letters p and k -/
theorem rd_in_cases {k a : Nat} {q : List Nat} (hq : ∀ c ∈ q, X k c = true) : ∀ {p : List Nat}, rd X (p ++ k :: q) a = true → rd X (p ++ q) a = true ∨ (a = k ∧ ∀ c ∈ p, X c a = true)
  | [], h => by
    have z : ((k == a) || (X k a && rd X q a)) = true := h
    rw [Bool.or_eq_true, Bool.and_eq_true, beq_iff_eq] at z
    rcases z with z | ⟨_, z⟩
    · exact .inr ⟨z.symm, fun c h => by cases h⟩
    · exact .inl z
  | o :: p, h => by
    have z : ((o == a) || (X o a && rd X (p ++ k :: q) a)) = true := h
    show ((o == a) || (X o a && rd X (p ++ q) a)) = true ∨ _
    rw [Bool.or_eq_true, Bool.and_eq_true] at z ⊢
    rcases z with z | ⟨z1, z2⟩
    · exact .inl (.inl z)
    · rcases rd_in_cases hq z2 with w | ⟨w1, w2⟩
      · exact .inl (.inr ⟨z1, w⟩)
      · refine .inr ⟨w1, fun c hc => ?_⟩
        rcases List.mem_cons.mp hc with y | y
        · rw [y]; exact z1
        · exact w2 c y
theorem rd_end (cr : Crossing X) {k : Nat} : ∀ {p : List Nat}, (∀ c ∈ p, X c k = true) → rd X (p ++ [k]) k = true
  | [], _ => first_rd
  | o :: p, h => by
    show ((o == k) || (X o k && rd X (p ++ [k]) k)) = true
    rw [h o List.mem_cons_self, rd_end cr fun c hc => h c (List.mem_cons_of_mem _ hc)]
    simp
theorem red_in (cr : Crossing X) {k : Nat} {q : List Nat} (hq : ∀ c ∈ q, X k c = true) : ∀ {p : List Nat}, rd X p.reverse k = false → red X (p ++ q) = true → red X (p ++ k :: q) = true
  | [], _, h => by
    show (!rd X q k && red X q) = true
    have h' : red X q = true := h
    rw [h']
    cases e : rd X q k with
    | false => rfl
    | true =>
      have := hq k (rd_mem e)
      rw [cr.irr] at this
      cases this
  | a :: p, hk, h => by
    have h' : (!rd X (p ++ q) a && red X (p ++ q)) = true := h
    rw [Bool.and_eq_true, Bool.not_eq_true'] at h'
    rw [List.reverse_cons] at hk
    show (!rd X (p ++ k :: q) a && red X (p ++ k :: q)) = true
    rw [red_in cr hq (rd_left hk) h'.2]
    cases e : rd X (p ++ k :: q) a with
    | false => rfl
    | true =>
      rcases rd_in_cases hq e with w | ⟨w1, w2⟩
      · rw [h'.1] at w
        cases w
      · subst w1
        rw [rd_end cr fun c hc => w2 c (List.mem_reverse.mp hc)] at hk
        cases hk
/-- behind a door a way that can't be made shorter stays so -/
theorem beh_red (cr : Crossing X) {name : List Nat} {k : Nat} (hk : ∀ c ∈ name, c ∈ ks) (h : red X name = true) : red X (beh ks X name k) = true := by
  obtain ⟨tl, rest, e0, h1, h2, h3⟩ := beh_cases ks X name k
  have en : name = rest.reverse ++ tl.reverse := by
    have q := congrArg List.reverse e0
    rw [List.reverse_reverse, List.reverse_append] at q
    exact q
  rw [en] at h
  rcases h3 with ⟨r, er, eb⟩ | ⟨h4, er, lr, et, _, _, eb⟩
  · rw [eb, List.reverse_append]
    rw [er, List.reverse_cons, List.append_assoc] at h
    exact red_out (fun c hc => (h1 c (List.mem_reverse.mp hc)).2) h
  · have z : rd X rest k = false := by
      cases hr : rest with
      | nil => rfl
      | cons c r =>
        have n1 := h2 c r hr
        have n2 : c ≠ k := fun w => h4 r (by rw [hr, w])
        have hc : c ∈ ks := hk c (List.mem_reverse.mp (by rw [e0, hr]; simp))
        have n3 : X k c = false := by
          cases w : X k c with
          | false => rfl
          | true => exact absurd ⟨hc, w⟩ n1
        show ((c == k) || (X c k && rd X r k)) = false
        rw [cr.sym c k, n3]
        simpa using n2
    have hle : ∀ c ∈ er, X k c = true := fun c hc => (h1 c (by rw [et]; exact List.mem_append_right _ hc)).2
    have hll : ∀ c ∈ lr, X k c = true := fun c hc => (h1 c (by rw [et]; exact List.mem_append_left _ hc)).2
    rw [eb]
    have e1 : (lr ++ k :: (er ++ rest)).reverse = (rest.reverse ++ er.reverse) ++ k :: lr.reverse := by simp
    rw [e1]
    rw [et, List.reverse_append, ← List.append_assoc] at h
    refine red_in cr (fun c hc => hll c (List.mem_reverse.mp hc)) ?_ h
    rw [List.reverse_append, List.reverse_reverse, List.reverse_reverse, rd_over cr hle, z]
theorem fol_red (cr : Crossing X) : ∀ (way name : List Nat), (∀ c ∈ name, c ∈ ks) → (∀ c ∈ way, c ∈ ks) → red X name = true → red X (fol ks X name way) = true
  | [], _, _, _, h => h
  | k :: way, name, h1, h2, h => fol_red cr way (beh ks X name k) (beh_letters h1 (h2 k List.mem_cons_self)) (fun c hc => h2 c (List.mem_cons_of_mem _ hc)) (beh_red cr h1 h)
theorem fol_lets : ∀ (way name : List Nat), (∀ c ∈ name, c ∈ ks) → (∀ c ∈ way, c ∈ ks) → ∀ c ∈ fol ks X name way, c ∈ ks
  | [], _, h1, _ => h1
  | k :: way, name, h1, h2 => fol_lets way (beh ks X name k) (beh_letters h1 (h2 k List.mem_cons_self)) fun c hc => h2 c (List.mem_cons_of_mem _ hc)
/-- the vectors of the walls that a way goes through -/
def crsA (X : Nat → Nat → Bool) : List Nat → List Nat → List Vec
  | _, [] => []
  | p, k :: r => mr X p k :: crsA X (k :: p) r
theorem mem_crsA {v : Vec} : ∀ {r p : List Nat}, v ∈ crsA X p r ↔ ∃ a k b, r = a ++ k :: b ∧ v = mr X (a.reverse ++ p) k
  | [], p => ⟨fun h => (nomatch h), fun ⟨a, k, b, e, _⟩ => by cases a <;> cases e⟩
  | k :: r, p => by
    show v ∈ mr X p k :: crsA X (k :: p) r ↔ _
    rw [List.mem_cons, mem_crsA]
    constructor
    · rintro (h | ⟨a, k', b, e, h⟩)
      · exact ⟨[], k, r, rfl, h⟩
      · exact ⟨k :: a, k', b, by rw [e]; rfl, by rw [h]; simp⟩
    · rintro ⟨a, k', b, e, h⟩
      cases a with
      | nil =>
        obtain ⟨e1, e2⟩ := List.cons.inj e
        rw [← e1] at h
        exact .inl h
      | cons a0 a =>
        obtain ⟨e1, e2⟩ := List.cons.inj e
        refine .inr ⟨a, k', b, e2, ?_⟩
        rw [h, e1]
        simp
theorem red_suf {r : List Nat} : ∀ {l : List Nat}, red X (l ++ r) = true → red X r = true
  | [], h => h
  | a :: l, h => by
    have h' : (!rd X (l ++ r) a && red X (l ++ r)) = true := h
    rw [Bool.and_eq_true] at h'
    exact red_suf h'.2
theorem mr_one {k a j : Nat} (nj : j ≠ k) : mr X [k] a j = unitV a j := by
  show (if a = k then -(unitV k j) else if X k a = true then unitV a j else unitV a j + 2 * unitV k j) = unitV a j
  have u : unitV k j = 0 := if_neg fun z => nj z.symm
  rw [u]
  split
  · rename_i c
    rw [c, u]
    rfl
  · split <;> omega
theorem sum_unitR {j : Nat} {f : Nat → Int} : ∀ {l : List Nat}, l.Nodup → j ∈ l → (l.map fun i => f i * unitV i j).sum = f j := by
  have none : ∀ {l : List Nat}, j ∉ l → (l.map fun i => f i * unitV i j).sum = 0 := by
    intro l
    induction l with
    | nil => intro _; rfl
    | cons a l ih =>
      intro h
      have n : a ≠ j := fun z => h (by rw [z]; exact List.mem_cons_self)
      rw [List.map_cons, List.sum_cons, ih fun z => h (List.mem_cons_of_mem _ z), show unitV a j = 0 from if_neg n]
      omega
  intro l
  induction l with
  | nil => intro _ h; cases h
  | cons a l ih =>
    intro nd h
    obtain ⟨n1, n2⟩ := List.nodup_cons.mp nd
    rw [List.map_cons, List.sum_cons]
    by_cases z : a = j
    · rw [z] at n1 ⊢
      rw [none n1, show unitV j j = 1 from if_pos rfl]
      omega
    · rw [ih n2 ((List.mem_cons.mp h).resolve_left fun w => z w.symm), show unitV a j = 0 from if_neg z]
      omega
/-- all sums alike where the first factors are a number at one place -/
theorem sum_at {k : Nat} {c : Int} {f g : Nat → Int} {l : List Nat} (nd : l.Nodup) (hk : k ∈ l) (h : ∀ i ∈ l, f i = c * unitV k i) : (l.map fun i => f i * g i).sum = c * g k := by
  have e : (l.map fun i => f i * g i) = l.map fun i => unitV k i * (c * g i) := List.map_congr_left fun i hi => by
    rw [h i hi, Int.mul_comm c, Int.mul_assoc]
  rw [e, sum_unit (f := fun i => c * g i) nd hk]
/-- signs: a door's vector has no two of them -/
theorem mr_sign (cr : Crossing X) {w : List Nat} {d : Nat} (h : red X w = true) (hd : d ∈ ks) : (∀ j, 0 ≤ mr X w d j) ∨ ∀ j, mr X w d j ≤ 0 := by
  cases e : rd X w d with
  | false => exact .inl ((mr_pos cr w h).1 d e)
  | true => exact .inr (mr_neg cr w d h e)
/-- a door's vector that a reflection turns about is that of the reflection -/
theorem flip_unit (cr : Crossing X) (nd : ks.Nodup) {w : List Nat} {d k : Nat} (hw : ∀ c ∈ w, c ∈ ks) (hd : d ∈ ks) (hk : k ∈ ks) (h1 : ∀ j, 0 ≤ mr X w d j) (h2 : ∀ j, mr X (w ++ [k]) d j ≤ 0) : ∀ j ∈ ks, mr X w d j = unitV k j := by
  have e1 : ∀ j ∈ ks, j ≠ k → mr X w d j = 0 := fun j hj nj => by
    have z := mr_lin (X := X) nd [k] w d hd hw j
    have e : (ks.map fun i => mr X w d i * mr X [k] i j) = ks.map fun i => mr X w d i * unitV i j := List.map_congr_left fun i _ => by rw [mr_one nj]
    rw [e, sum_unitR nd hj] at z
    have := h1 j
    have := h2 j
    omega
  have e2 : ∀ j ∈ ks, mr X w d j = mr X w d k * unitV k j := fun j hj => by
    by_cases z : j = k
    · rw [z, show unitV k k = 1 from if_pos rfl, Int.mul_one]
    · rw [e1 j hj z, show unitV k j = 0 from if_neg fun q => z q.symm, Int.mul_zero]
  have z := mr_lin (X := X) nd w.reverse w d hd hw d
  have y := mr_back (X := X) [] w
  rw [List.append_nil] at y
  rw [y, sum_at nd hk e2] at z
  have u : mr X [] d d = 1 := if_pos rfl
  rw [u] at z
  have c1 : mr X w d k = 1 := Int.eq_one_of_mul_eq_one_right (h1 k) z.symm
  intro j hj
  rw [e2 j hj, c1, Int.one_mul]
/-- the first turn of a sequence -/
theorem turn_at {p : Nat → Prop} (dec : ∀ i, p i ∨ ¬ p i) : ∀ n : Nat, p 0 → ¬ p n → ∃ i, i < n ∧ p i ∧ ¬ p (i + 1)
  | 0, h0, hn => absurd h0 hn
  | n + 1, h0, hn => by
    rcases dec n with h | h
    · exact ⟨n, Nat.lt_succ_self n, h, hn⟩
    · obtain ⟨i, h1, h2⟩ := turn_at dec n h0 h
      exact ⟨i, Nat.lt_succ_of_lt h1, h2⟩
/-- beyond a wall are just the rooms whose shortest way goes through it -/
theorem bey_iff (cr : Crossing X) (nd : ks.Nodup) {u n : List Nat} {d : Nat} (hd : d ∈ ks) (ku : ∀ c ∈ u, c ∈ ks) (kn : ∀ c ∈ n, c ∈ ks) (hu : isName X u = true) (hn : isName X n = true) (du : rd X u.reverse d = false) :
    rd X (fol ks X u.reverse n) d = true ↔ ∃ v ∈ crsA X [] n, ∀ j ∈ ks, v j = mr X u.reverse d j := by
  have ru := name_red hu
  have sg : ∀ m : List Nat, (∀ c ∈ m, c ∈ ks) → red X (fol ks X u.reverse m) = true ∧ mr X (fol ks X u.reverse m) = mr X (u.reverse ++ m) := fun m km => ⟨fol_red cr m u.reverse (in_rev ku) km ru, mr_fol0 cr m u.reverse⟩
  have b0 := (mr_pos cr _ ru).1 d du
  have back : rd X (fol ks X u.reverse n) d = true ↔ ∃ j ∈ ks, mr X (u.reverse ++ n) d j < 0 := by
    rw [← (sg n kn).2]
    exact (back_iff cr (sg n kn).1 hd).symm
  rw [back]
  constructor
  · rintro ⟨j, hj, lt⟩
    obtain ⟨i, hi, p1, p2⟩ := turn_at (p := fun i => ∀ j, 0 ≤ mr X (u.reverse ++ n.take i) d j) (fun i => Classical.em _) n.length (by rw [List.take_zero, List.append_nil]; exact b0) (fun z => by
      rw [List.take_length] at z
      have := z j
      omega)
    have ek : n[i]? = some n[i] := List.getElem?_eq_getElem hi
    generalize n[i] = k at ek
    have hk := kn k (List.mem_of_getElem? ek)
    have kt : ∀ c ∈ n.take i, c ∈ ks := fun c hc => kn c (List.mem_of_mem_take hc)
    have et : n.take (i + 1) = n.take i ++ [k] := by
      rw [List.take_add_one, ek]
      rfl
    rw [et, ← List.append_assoc] at p2
    have p2' : ∀ j, mr X (u.reverse ++ n.take i ++ [k]) d j ≤ 0 := by
      have kt2 : ∀ c ∈ n.take i ++ [k], c ∈ ks := in_app kt fun c hc => by rw [List.mem_singleton.mp hc]; exact hk
      obtain ⟨r1, r2⟩ := sg (n.take i ++ [k]) kt2
      rcases mr_sign cr r1 hd with z | z
      · rw [r2, ← List.append_assoc] at z
        exact absurd z p2
      · rw [r2, ← List.append_assoc] at z
        exact z
    have fu := flip_unit cr nd (in_app (in_rev ku) kt) hd hk p1 p2'
    refine ⟨mr X (n.take i).reverse k, mem_crsA.mpr ⟨n.take i, k, n.drop (i + 1), ?_, by rw [List.append_nil]⟩, fun j hj => ?_⟩
    · have e := List.take_append_drop (i + 1) n
      rw [et, List.append_assoc] at e
      exact e.symm
    · have z := mr_lin (X := X) nd (n.take i).reverse (u.reverse ++ n.take i) d hd (in_app (in_rev ku) kt) j
      have y := mr_back (X := X) [] (n.take i)
      rw [List.append_nil] at y
      rw [List.append_assoc, mr_app y u.reverse, List.append_nil, sum_at (c := 1) nd hk (fun i hi => by rw [fu i hi, Int.one_mul]), Int.one_mul] at z
      exact z.symm
  · rintro ⟨v, hv, e⟩
    obtain ⟨a, k, b, en, ev⟩ := mem_crsA.mp hv
    rw [List.append_nil] at ev
    have kk : k ∈ ks := kn k (by rw [en]; simp)
    have ka : ∀ c ∈ a, c ∈ ks := fun c hc => kn c (by rw [en]; simp [hc])
    have rb : red X (k :: b) = true := by
      have z := isName_red hn
      rw [en] at z
      exact red_suf z
    have rk : rd X b k = false := by
      unfold red at rb
      simp at rb
      exact rb.1
    obtain ⟨j, hj, lt⟩ := (back_iff cr (ks := ks) (k := k) rb kk).mpr first_rd
    refine ⟨j, hj, ?_⟩
    rw [mr_lin nd n u.reverse d hd (in_rev ku) j]
    have e2 : (ks.map fun i => mr X u.reverse d i * mr X n i j) = ks.map fun i => mr X a.reverse k i * mr X n i j := List.map_congr_left fun i hi => by rw [← e i hi, ev]
    rw [e2, ← mr_lin nd n a.reverse k kk (in_rev ka) j, en]
    have y := mr_back (X := X) (k :: b) a.reverse
    rw [List.reverse_reverse] at y
    rw [y]
    exact lt
/-- a room that tells a wall tells it itself -/
theorem par_id : ∀ {r lo : List Nat}, (∀ c ∈ lo, rd X r c = false) → par X lo r = r
  | [], lo, _ => by unfold par; rfl
  | a :: r, lo, h => by
    cases e : lo.contains a with
    | true =>
      have := h a (List.contains_iff_mem.mp e)
      rw [first_rd] at this
      cases this
    | false =>
      rw [par_cons_out e, par_id fun c hc => ?_]
      obtain ⟨h1, h2⟩ := List.mem_filter.mp hc
      have z : ((a == c) || (X a c && rd X r c)) = false := h c h1
      rw [Bool.or_eq_false_iff, h2, Bool.true_and] at z
      exact z.2
theorem toD_id {n : List Nat} {d : Nat} : toD ks X (toD ks X n d) d = toD ks X n d := by
  have z : par X (alo ks X d) (toD ks X n d).reverse = (toD ks X n d).reverse := par_id fun c hc => toD_rd hc
  show (par X (alo ks X d) (toD ks X n d).reverse).reverse = _
  rw [z, List.reverse_reverse]
/-- the room that tells a wall is not beyond it, the one behind its door is -/
theorem bey_own (cr : Crossing X) {u : List Nat} {d : Nat} (hd : d ∈ ks) (ku : ∀ c ∈ u, c ∈ ks) (hu : isName X u = true) : rd X (fol ks X u.reverse u) d = false ∧ rd X (fol ks X u.reverse (beh ks X u d)) d = true := by
  have ru := name_red hu
  have y := mr_back (X := X) [] u.reverse
  rw [List.reverse_reverse, List.append_nil] at y
  constructor
  · cases e : rd X (fol ks X u.reverse u) d with
    | false => rfl
    | true =>
      obtain ⟨j, _, lt⟩ := (back_iff cr (ks := ks) (k := d) (fol_red cr u u.reverse (in_rev ku) ku ru) hd).mpr e
      rw [mr_fol0 cr, y] at lt
      have : (0 : Int) ≤ mr X [] d j := by
        show (0 : Int) ≤ if d = j then 1 else 0
        split <;> omega
      omega
  · have kb := beh_letters (X := X) ku hd
    refine (back_iff cr (ks := ks) (k := d) (fol_red cr _ u.reverse (in_rev ku) kb ru) hd).mp ⟨d, hd, ?_⟩
    have z := mr_beh (ks := ks) cr u d []
    rw [List.append_nil] at z
    have y2 := mr_back (X := X) [d] u.reverse
    rw [List.reverse_reverse] at y2
    rw [mr_fol0 cr, mr_app z u.reverse, y2]
    show (if d = d then -(unitV d d) else _) < (0 : Int)
    rw [if_pos rfl, show unitV d d = 1 from if_pos rfl]
    decide
end CW
end
section
set_option maxRecDepth 100000
set_option maxHeartbeats 4000000
/-! walls: which rooms are beyond, which touch -/
namespace TX
open PySem PySem.Spec PyProof.Rows L2 SX CW
def spBeyond (C CR CL : Addr) : Sp := fun vs H Q _ => ∃ (a b x p q : Addr) (ks : List Nat) (X : Nat → Nat → Bool) (u n : List Nat) (d : Nat), vs = [.ref a, .ref b] ∧ WallAt C CR CL H a x p ks X u d ∧ RoomAt C CR H b q ks X n ∧ d ∈ ks ∧ (∀ c ∈ u, c ∈ ks) ∧ (∀ c ∈ n, c ∈ ks) ∧ u.length ≤ 2000 ∧ n.length ≤ 2000 ∧ Q (.bl (rd X (fol ks X u.reverse n) d)) H
section
variable {P : Program} {w : World} {K : PySem.W.Frag} {mg : Str → Option Value} {base : Heap} {C CR CL : Addr}
theorem sc_beyond : FnScope ["self", "room", "way"] ["self", "room"] (defScope s_Wall_beyond) := ⟨rfl, rfl, rfl, by decide +kernel, rfl, by decide +kernel, by decide +kernel⟩
theorem ok_beyond {f : Addr} {fd : FuncData} (F : FunD K "beyond" "Wall.beyond" (defArgs s_Wall_beyond) (defBody s_Wall_beyond) (defScope s_Wall_beyond) [] [] f fd) (TR : RoomT K CR) (TW : WallT K CL)
    (cS : C8.Cal P w K mg base 3 "check_same_plan" (spSameO K C) []) (cF : C8.Cal P w K mg base 2 "followed" (spFollowed C) []) (cT : C8.Cal P w K mg base 1 "starts_with" (spStarts C) []) : FnOk P w K mg base C8.CX0 4 f fd ["self", "room"] (spBeyond C CR CL) := by
  refine F.ok sc_beyond (fun vs H Q E h => ?_) (fun cdv A outer s H vs Q E hr h => ?_)
  · obtain ⟨a, b, x, p, q, ks, X, u, n, d, rfl, _⟩ := h
    rfl
  · obtain ⟨a, b, x, p, q, ks, X, u, n, d, rfl, ha, hb, hd, hu', hn, lu, ln, k⟩ := h
    refine ⟨_, PSs.nox (pss_cons (ps_expr (C8.pe_c cS hr (by decide) (by rfl) (pa_cons (pv 0) (pa_cons (pv 1) pa_nil))))
      (pss_cons (ps_set (i := 2) sc_beyond.nd rfl (.inl rfl) (C8.pe_c cF hr (by decide) (by rfl) (pa_cons (pe_fld (pv 0) rfl) (pa_cons (pe_revS (pe_fld (pe_fld (pv 0) rfl) rfl) (pe_un un_neg pe_int)) (pa_cons (pe_fld (pv 1) rfl) pa_nil)))))
      (pss_one (ps_ret (C8.pe_c cT hr (by decide) (by rfl) (pa_cons (pe_fld (pv 0) rfl) (pa_cons (pv 2) (pa_cons (pe_fld (pv 0) rfl) pa_nil)))))))), ?_⟩
    obtain ⟨dx, h1⟩ := ha.ex
    obtain ⟨dr, h2⟩ := ha.rm.ex
    obtain ⟨dy, g1⟩ := hb.ex
    refine ⟨_, rfl, _, rfl, a, b, CL, CR, dx, dy, p, q, _, _, ks, X, rfl, h1, g1, TW.cl, TR.cl, TW.np, TR.np, wf_plan _ _ _, rf_plan _ _, ha.rm.pl, hb.pl, ?_⟩
    refine ⟨_, rfl, a, CL, dx, _, _, rfl, h1, TW.cl, TW.np, wf_plan _ _ _, ?_⟩
    refine ⟨_, rfl, a, CL, dx, _, _, rfl, h1, TW.cl, TW.nr, wf_room _ _ _, x, CR, dr, _, _, rfl, h2, TR.cl, TR.nn, rf_nameV _ _, u, rfl, by omega, _, rfl, b, CR, dy, _, _, rfl, g1, TR.cl, TR.nn, rf_nameV _ _, ?_⟩
    have ir : ∀ c ∈ u.reverse, c ∈ ks := fun c hc => hu' c (List.mem_reverse.mp hc)
    have lf := fol_length ks X n u.reverse
    rw [List.length_reverse] at lf
    refine ⟨p, ks, X, u.reverse, n, rfl, ha.rm.pl, hn, by rw [List.length_reverse]; omega, ?_⟩
    refine ⟨_, rfl, a, CL, dx, _, _, rfl, h1, TW.cl, TW.np, wf_plan _ _ _, _, rfl, _, rfl, a, CL, dx, _, _, rfl, h1, TW.cl, TW.nk, wf_kind _ _ _, p, ks, X, _, d, rfl, ha.rm.pl, hd, fol_lets n u.reverse ir hn, by omega, k⟩
end
end TX
end
section
set_option maxRecDepth 100000
set_option maxHeartbeats 4000000
/-! zip of two texts -/
namespace TX
open PySem PySem.Spec PyProof.Rows L2
/-- the signs of two texts, in new pairs -/
def ItS (x y : Str) : It :=
  ⟨fun i _ => i < x.cps.size ∧ i < y.cps.size,
    fun i H v H' => ∃ (T : Addr) (c e : Nat), v = .ref T ∧ H T = none ∧ H' = upd H T (.tup [.str ⟨#[c]⟩, .str ⟨#[e]⟩]) ∧ x.cps[i]? = some c ∧ y.cps[i]? = some e,
    fun i _ => (i = x.cps.size ∧ i ≤ y.cps.size) ∨ (i = y.cps.size ∧ i ≤ x.cps.size)⟩
/-- the two iterators and the cells of the zip -/
def zSt (x y : Str) (tx ty : Tok) (z TI TO i1 i2 : Addr) (i : Nat) (h : Heap) : Prop :=
  IsZip h z TI TO .none ∧ IsTupOf2 h TI (.ref i1) (.ref i2) ∧ (∃ p q, IsTupOf2 h TO p q) ∧ h.IsStrIter i1 (strIterType x) x tx i ∧ h.IsStrIter i2 (strIterType y) y ty i
theorem mem5 {c z TI TO i1 i2 : Addr} (h : c ∈ [z, TI, TO, i1, i2]) : c = z ∨ c = TI ∨ c = TO ∨ c = i1 ∨ c = i2 := by simpa using h
theorem zSt.lt {x y : Str} {tx ty : Tok} {z TI TO i1 i2 c : Addr} {i : Nat} {h : Heap} (st : zSt x y tx ty z TI TO i1 i2 i h) (hc : c ∈ [z, TI, TO, i1, i2]) : c < h.objs.size := by
  obtain ⟨a1, a2, ⟨p, q, a3⟩, ⟨o4, a4, _⟩, ⟨o5, a5, _⟩⟩ := st
  rcases mem5 hc with e | e | e | e | e
  · exact e ▸ Heap.lt_size a1
  · exact e ▸ Heap.lt_size a2
  · exact e ▸ Heap.lt_size a3
  · exact e ▸ Heap.lt_size a4
  · exact e ▸ Heap.lt_size a5
theorem turn_zipS {P : Program} {w : World} {K : PySem.W.Frag} {es : List Expr} {n : Nat} {ps : Pos} {x y : Str} {tx ty : Tok} {z TI TO i1 i2 : Addr} (D : ZipSep2 z TI TO i1 i2 [i1] [i2]) :
    Turn P w K (.Tuple es n ps) (ItS x y) [z, TI, TO, i1, i2] z (zSt x y tx ty z TI TO i1 i2) := by
  refine ⟨by simp, fun i h st c hc => ?_, fun i h h' st k => ?_, ?_, ?_, fun A i s Q E st h => wpAny_pyIter_zip st.1 h⟩
  · obtain ⟨a1, a2, ⟨p, q, a3⟩, ⟨o4, a4, _, d4⟩, ⟨o5, a5, _, d5⟩⟩ := st
    rcases mem5 hc with e | e | e | e | e
    · exact ⟨_, e ▸ a1, fun v => by simp⟩
    · exact ⟨_, e ▸ a2, fun v => by simp⟩
    · exact ⟨_, e ▸ a3, fun v => by simp⟩
    · exact ⟨o4, e ▸ a4, fun v => by rw [d4]; simp⟩
    · exact ⟨o5, e ▸ a5, fun v => by rw [d5]; simp⟩
  · obtain ⟨a1, a2, ⟨p, q, a3⟩, ⟨o4, a4, r4⟩, ⟨o5, a5, r5⟩⟩ := st
    exact ⟨k z (by simp) _ a1, k TI (by simp) _ a2, ⟨p, q, k TO (by simp) _ a3⟩, ⟨o4, k i1 (by simp) _ a4, r4⟩, ⟨o5, k i2 (by simp) _ a5, r5⟩⟩
  · intro X eP ew eK calm i pins s σ H E I hf st hg
    subst eP
    subst ew
    subst eK
    have lts := fun c hc => zSt.lt (c := c) st hc
    obtain ⟨a1, a2, ⟨p, q, a3⟩, a4, a5⟩ := st
    have hh : X.A.in1.handled = none := I.ok.hd calm
    refine wpAny_pyNext_zipD2_item D (Draws.text hh i1 x tx) (Draws.text hh i2 y ty) a1 a2 a3 a4 a5 hg.1 hg.2 fun x1 x2 h' tk e1 e2 zz tt j4 j5 nw sz kp => ?_
    obtain ⟨c1, u1, g1, rfl⟩ := e1
    obtain ⟨c2, u2, g2, rfl⟩ := e2
    refine ⟨_, rfl, wpAny_letOwnedTupleGo_zip (s := { s with heap := h', toks := tk }) zz fun h2 z2 sb => ?_⟩
    have zl := lts z (by simp)
    have nT : h2.get? s.heap.objs.size = some { cls := .type "tuple", data := .seq #[.str ⟨#[c1]⟩ u1, .str ⟨#[c2]⟩ u2] } := (sb.2 _ (Nat.ne_of_gt zl)).trans nw
    have ok2 : ObjOk X.prog X.w (upd H s.heap.objs.size (.tup [.str ⟨#[c1]⟩, .str ⟨#[c2]⟩])) h2 s.heap.objs.size (.tup [.str ⟨#[c1]⟩, .str ⟨#[c2]⟩]) :=
      ⟨by show 2 ≤ sizeLine; decide, [.str ⟨#[c1]⟩ u1, .str ⟨#[c2]⟩ u2], .cons ⟨u1, rfl⟩ (.cons ⟨u2, rfl⟩ .nil), ⟨_, nT, rfl, _, rfl⟩⟩
    have kept : ∀ b o, b ∉ [z, TI, TO, i1, i2] → s.heap.get? b = some o → h2.get? b = some o := fun b o nb e => by
      rw [sb.2 b fun e' => nb (by rw [e']; simp)]
      exact kp b o (fun e' => nb (by rw [e']; simp)) (fun e' => nb (by rw [e']; simp)) (fun e' => nb (by rw [e']; simp)) (fun e' => nb (by rw [e']; simp)) e
    have I2 := I.turnedNew (t' := tk) kept hf (Nat.le_refl _) ok2
    refine ⟨.ref s.heap.objs.size, _, I2, rfl, ⟨_, c1, c2, rfl, I.hok.fresh (Nat.le_refl _), rfl, g1, g2⟩, ⟨z2, ?_, ⟨_, _, (sb.2 _ D.TOz).trans tt⟩, ?_, ?_⟩, fun c hc => ?_⟩
    · exact (sb.2 _ D.TIz).trans (kp _ _ D.TIz D.TITO D.TIi1 D.TIi2 a2)
    · obtain ⟨o, b1, b2⟩ := j4
      exact ⟨o, (sb.2 _ fun e => D.zi1 e.symm).trans b1, b2⟩
    · obtain ⟨o, b1, b2⟩ := j5
      exact ⟨o, (sb.2 _ fun e => D.zi2 e.symm).trans b1, b2⟩
    · rw [upd_ne (Nat.ne_of_lt (lts c hc))]
      exact (hf c hc).1
  · intro X eP ew eK calm i pins s σ H E I hf st hg
    subst eP
    subst ew
    subst eK
    obtain ⟨a1, a2, ⟨p, q, a3⟩, a4, a5⟩ := st
    have hh : X.A.in1.handled = none := I.ok.hd calm
    have le : i ≤ x.cps.size ∧ i ≤ y.cps.size := by
      rcases hg with ⟨e, l⟩ | ⟨e, l⟩
      · exact ⟨Nat.le_of_eq e, l⟩
      · exact ⟨l, Nat.le_of_eq e⟩
    refine wpAny_pyNext_zipD2_end D (Draws.text hh i1 x tx) (Draws.text hh i2 y ty) a1 a2 a3 a4 a5 le.1 le.2 (hg.imp And.left And.left) fun h' tk kp => ⟨rfl, ?_⟩
    exact I.turnedL (t' := tk) (ch := [z, TI, TO, i1, i2]) (fun b o nb e => kp b o (fun e' => nb (by rw [e']; simp)) (fun e' => nb (by rw [e']; simp)) (fun e' => nb (by rw [e']; simp)) (fun e' => nb (by rw [e']; simp)) e) hf
/-- zip(a, b) of two texts -/
def iZipS (ta : TA) : TI := fun σ H R => ta σ H fun vs H1 => ∃ x y : Str, vs = [.str x, .str y] ∧ R (ItS x y) H1
theorem sep5 (n : Nat) : ZipSep2 (n + 4) (n + 2) (n + 3) n (n + 1) [n] [n + 1] := by
  constructor <;> simp <;> omega
theorem pi_zipS {X : Cx} {a b : Expr} {ta : TA} {p1 p2 p3 : Pos} {es : List Expr} {n : Nat} (hg : Gl X "zip") (hm : X.mg "zip" = none) (ha : PA X [a, b] ta)
    (e1 : starEach [a, b] X.env = (false, eval a X.env) :: starEach [b] X.env := by rfl) (e2 : (backTo p2 (starEach [b] X.env)).any (·.1) = false := by rfl) :
    PI X (.Tuple es n p3) (.Call (.Name "zip" p1) [a, b] [] p2) (iZipS ta) := by
  constructor
  intro pins s σ H R I h
  refine Call_ (ld_blt I hg hm PyProof.Rows.boot_zip (PyProof.Rows.callWith_type1 (thn (ha.run p2 pins s σ H _ I h) fun us s1 hs => ?_) e1 e2))
  obtain ⟨vs, H1, I1, r1, x, y, ex, q⟩ := hs
  subst ex
  cases r1 with
  | cons ra rs =>
    cases rs with
    | cons rb rn =>
      cases rn
      obtain ⟨tx, rfl⟩ := ra
      obtain ⟨ty, rfl⟩ := rb
      refine zip_begins2 (begins_text x tx) (begins_text y ty) trivial trivial fun h' zz t1 t2 g1 g2 _ kp => wpAny_pyIter_zip zz ?_
      have I2 : Inv X pins σ H1 { s1 with heap := h' } := I1.kept (t' := s1.toks) kp
      refine ⟨s1.heap.objs.size + 4, _, _, _, H1, rfl, I2, turn_zipS (tx := tx) (ty := ty) (sep5 s1.heap.objs.size), ⟨zz, t1, ⟨_, _, t2⟩, ⟨_, g1, rfl, rfl⟩, ⟨_, g2, rfl, rfl⟩⟩, fun c hc => ?_, q⟩
      have le : s1.heap.objs.size ≤ c := by
        rcases mem5 hc with e | e | e | e | e <;> rw [e]
        · exact Nat.le_add_right _ _
        · exact Nat.le_add_right _ _
        · exact Nat.le_add_right _ _
        · exact Nat.le_refl _
        · exact Nat.le_add_right _ _
      exact I1.fpOk le (I1.hok.fresh le)
end TX
end
section
set_option maxRecDepth 100000
set_option maxHeartbeats 4000000
/-! the way between two names, without what they have in common -/
namespace CW
variable {X : Nat → Nat → Bool} {ks : List Nat}
theorem between_rest (cr : Crossing X) {a n m : List Nat} (kn : ∀ c ∈ a ++ n, c ∈ ks) (km : ∀ c ∈ a ++ m, c ∈ ks) : fol ks X [] (n.reverse ++ m) = fol ks X [] ((a ++ n).reverse ++ (a ++ m)) := by
  have k1 : ∀ c ∈ n, c ∈ ks := fun c h => kn c (List.mem_append_right _ h)
  have k2 : ∀ c ∈ m, c ∈ ks := fun c h => km c (List.mem_append_right _ h)
  refine fol_eq cr (in_app (in_rev k1) k2) (in_app (in_rev kn) km) ?_
  rw [List.reverse_append, List.append_assoc]
  have y := mr_back (X := X) m a.reverse
  rw [List.reverse_reverse] at y
  exact (mr_app y n.reverse).symm
end CW
namespace TX
open PySem PySem.Spec PyProof.Rows L2 SX CW
def spWayB (C : Addr) : Sp := fun vs H Q _ => ∃ (p : Addr) (ks : List Nat) (X : Nat → Nat → Bool) (n m : List Nat), vs = [.ref p, .str (S n), .str (S m)] ∧ PlanAt C H p ks X ∧ (∀ c ∈ n, c ∈ ks) ∧ (∀ c ∈ m, c ∈ ks) ∧ n.length ≤ 2000 ∧ m.length ≤ 2000 ∧
  ∀ H', L2.Same H H' → Q (.str (S (fol ks X [] (n.reverse ++ m)))) H'
theorem walk_zipS {x y : Str} : Walk (ItS x y) (min x.cps.size y.cps.size) (fun _ => True) (fun i H v H' => ∃ (T : Addr) (c e : Nat), v = .ref T ∧ H T = none ∧ H' = upd H T (.tup [.str ⟨#[c]⟩, .str ⟨#[e]⟩]) ∧ x.cps[i]? = some c ∧ y.cps[i]? = some e) :=
  ⟨fun i H hi _ => ⟨by omega, by omega⟩, fun H _ => by
    show (_ ∧ _) ∨ (_ ∧ _)
    rcases Nat.le_total x.cps.size y.cps.size with h | h
    · exact .inl ⟨Nat.min_eq_left h, by omega⟩
    · exact .inr ⟨Nat.min_eq_right h, by omega⟩, fun i H v H' _ _ q => q⟩
section
variable {P : Program} {w : World} {K : PySem.W.Frag} {mg : Str → Option Value} {base : Heap} {C : Addr}
abbrev nWayB : List Str := ["plan", "one", "other", "alike", "own", "strange"]
theorem sc_wayb : FnScope nWayB ["plan", "one", "other"] (defScope s_way_between) := ⟨rfl, rfl, rfl, by decide +kernel, rfl, by decide +kernel, by decide +kernel⟩
theorem wayb_ret (cF : C8.Cal P w K mg base 2 "followed" (spFollowed C) []) (f : Addr) (cdv : Value) (A : Around) (outer : List Env) (s0 : Shared) (H0 : Hp) (E0 : XK) (hr : L2.Room 2 (A.deeper (envOfC "way_between" (defScope s_way_between) s0.heap.objs.size f cdv))) :
    ∃ tt, PSs (cxOf C8.CX0 P w K mg base nWayB "way_between" (defScope s_way_between) f cdv A outer s0 H0 E0).nox ((defBody s_way_between).drop 2) tt ∧ ∀ (D : Ends) (p : Addr) (ks : List Nat) (X : Nat → Nat → Bool) (n m : List Nat) (i : Nat) (u4 u5 : Option V) (G : Hp),
      PlanAt C G p ks X → (∀ c ∈ n, c ∈ ks) → (∀ c ∈ m, c ∈ ks) → n.length ≤ 2000 → m.length ≤ 2000 → n.take i = m.take i → D.rt (.str (S (fol ks X [] (n.reverse ++ m)))) G →
      tt D [some (.ref p), some (.str (S n)), some (.str (S m)), some (.int (i : Int)), u4, u5] G := by
  refine ⟨_, (pss_one (ps_ret (C8.pe_c cF hr (by decide) (by rfl) (pa_cons (pv 0) (pa_cons pe_str (pa_cons (pe_op op_add_str (pe_revS (pe_slice sl_str (pv 1) (po_some (pv 3)) po_none) (pe_un un_neg pe_int)) (pe_slice sl_str (pv 2) (po_some (pv 3)) po_none)) pa_nil)))))), ?_⟩
  intro D p ks X n m i u4 u5 G hp kn km ln lm e q
  have l1 : (n.drop i).length ≤ n.length := by rw [List.length_drop]; omega
  have l2 : (m.drop i).length ≤ m.length := by rw [List.length_drop]; omega
  have lS1 : (S n).length ≤ sizeLine := by rw [S_len]; exact len_line (by omega)
  have lS2 : (S m).length ≤ sizeLine := by rw [S_len]; exact len_line (by omega)
  refine ⟨_, rfl, _, rfl, _, rfl, _, rfl, _, rfl, lS1, ?_⟩
  rw [S_cutFrom]
  refine ⟨n.drop i, rfl, by omega, _, rfl, _, rfl, _, rfl, _, rfl, lS2, ?_⟩
  rw [S_cutFrom]
  refine ⟨_, _, rfl, rfl, by rw [S_len, S_len, List.length_reverse]; exact len_line (by omega), ?_⟩
  rw [S_cat, empty_S]
  have kd1 : ∀ c ∈ n.drop i, c ∈ ks := fun c hc => kn c (List.mem_of_mem_drop hc)
  have kd2 : ∀ c ∈ m.drop i, c ∈ ks := fun c hc => km c (List.mem_of_mem_drop hc)
  refine ⟨p, ks, X, [], _, rfl, hp, in_app (in_rev kd1) kd2, by rw [List.length_append, List.length_reverse, List.length_nil]; omega, ?_⟩
  have en : n.take i ++ n.drop i = n := List.take_append_drop i n
  have em : n.take i ++ m.drop i = m := by rw [e]; exact List.take_append_drop i m
  rw [between_rest hp.cr (a := n.take i) (by rw [en]; exact kn) (by rw [em]; exact km), en, em]
  exact q
theorem ok_wayb (F : D K mg "way_between" s_way_between []) (zz : mg "zip" = none) (cF : C8.Cal P w K mg base 2 "followed" (spFollowed C) []) : C8.Cal P w K mg base 3 "way_between" (spWayB C) [] := by
  refine F.cal (ps := ["plan", "one", "other"]) sc_wayb (fun f fd F => F.bindsN fun _ _ _ _ _ _ us hl => match us, hl with | [_, _, _], _ => rfl) (fun vs H Q E h => ?_) (fun f cdv A outer s H vs Q E hr h => ?_)
  · obtain ⟨p, ks, X, n, m, rfl, _⟩ := h
    rfl
  · obtain ⟨p, ks, X, n, m, rfl, hp, kn, km, ln, lm, q⟩ := h
    obtain ⟨tR, hR, qR⟩ := wayb_ret cF f cdv A outer s H E hr
    refine ⟨_, pss_cons (ps_set (i := 3) sc_wayb.nd rfl (.inl rfl) pe_int)
      (pss_cons (ps_for PassesOwn.never rfl (pi_zipS rfl zz (pa_cons (pv 1) (pa_cons (pv 2) pa_nil))) (pg_tup (by rfl) (pgs_cons (pg_name (i := 4) sc_wayb.nd rfl (.inl rfl)) (pgs_cons (pg_name (i := 5) sc_wayb.nd rfl (.inl rfl)) pgs_nil)))
        (pss_cons (ps_if (pt_cmpR op_ne (pv 4) (pv 5) (nomark _)) (pss_one ps_break) pss_nil)
        (pss_one (ps_aug (i := 3) sc_wayb.nd rfl (.inl rfl) pe_int ip_add))))
      hR), ?_⟩
    refine ⟨_, rfl, _, rfl, S n, S m, rfl, ?_⟩
    have sz : ∀ l : List Nat, (S l).cps.size = l.length := fun l => by rw [← S_len l]; rfl
    refine for_it walk_zipS (fun i σ G => ∃ u4 u5 : Option V, σ = [some (.ref p), some (.str (S n)), some (.str (S m)), some (.int (i : Int)), u4, u5] ∧ n.take i = m.take i ∧ L2.Same H G) ⟨none, none, rfl, rfl, L2.Same.refl _⟩ (fun _ _ _ _ _ => trivial) ?_ ?_
    · rintro i v σ G G2 hi ⟨u4, u5, rfl, e, s1⟩ ⟨T, c, d, rfl, hT, rfl, hc, hd⟩
      have hc' := getS hc
      have hd' := getS hd
      have s2 := s1.trans (same_new (o := .tup [V.str ⟨#[c]⟩, V.str ⟨#[d]⟩]) hT)
      refine ⟨T, _, rfl, SqT.of upd_same, rfl, _, _, rfl, _, _, rfl, rfl, ?_⟩
      generalize (upd G T (.tup [V.str ⟨#[c]⟩, V.str ⟨#[d]⟩])) = G2 at s2 ⊢
      refine ⟨_, rfl, _, rfl, rfl, _, rfl, ?_⟩
      refine ite2 (fun _ => ?_) (fun ne => ?_)
      · exact qR _ p ks X n m _ _ _ G2 (hp.same s2) kn km ln lm e (q G2 s2)
      · have ecd : c = d := by
          have z : V.str ⟨#[c]⟩ = V.str ⟨#[d]⟩ := by simpa using ne
          injection z with z
          injection z with z
          simpa using z
        refine ⟨_, rfl, _, _, rfl, rfl, some (.str ⟨#[c]⟩), some (.str ⟨#[d]⟩), ?_, ?_, s2⟩
        · rfl
        · rw [take_one hc', take_one hd', e, ecd]
    · rintro σ G ⟨u4, u5, rfl, e, s1⟩
      exact qR _ p ks X n m _ u4 u5 G (hp.same s1) kn km ln lm e (q G s1)
end
end TX
end
section
set_option maxRecDepth 100000
set_option maxHeartbeats 4000000
/-! the doors that lead nearer -/
namespace TX
open PySem PySem.Spec PyProof.Rows L2 SX CW
def nearL (ks : List Nat) (X : Nat → Nat → Bool) (n : List Nat) : List Nat := ks.filter fun k => rd X n.reverse k
def spLeads (C : Addr) : Sp := fun vs H Q _ => ∃ (p : Addr) (ks : List Nat) (X : Nat → Nat → Bool) (n : List Nat) (k : Nat), vs = [.ref p, .str (S n), .str (S [k])] ∧ PlanAt C H p ks X ∧ k ∈ ks ∧ (∀ c ∈ n, c ∈ ks) ∧ n.length ≤ 100000 ∧ Q (.bl (rd X n.reverse k)) H
def spNearer (C CR : Addr) : Sp := fun vs H Q _ => ∃ (a p : Addr) (ks : List Nat) (X : Nat → Nat → Bool) (n : List Nat), vs = [.ref a] ∧ RoomAt C CR H a p ks X n ∧ (∀ c ∈ n, c ∈ ks) ∧ n.length ≤ 2000 ∧ ∀ H', L2.Same H H' → Q (.str (S (nearL ks X n))) H'
section
variable {P : Program} {w : World} {K : PySem.W.Frag} {mg : Str → Option Value} {base : Heap} {C CR : Addr}
theorem sc_leads : FnScope ["plan", "name", "kind"] ["plan", "name", "kind"] (defScope s_leads_nearer) := ⟨rfl, rfl, rfl, by decide +kernel, rfl, by decide +kernel, by decide +kernel⟩
theorem ok_leads (F : D K mg "leads_nearer" s_leads_nearer []) (T : PlanT K C) : C8.Cal P w K mg base 1 "leads_nearer" (spLeads C) [] := by
  refine F.cal (ps := ["plan", "name", "kind"]) sc_leads (fun f fd F => F.bindsN fun _ _ _ _ _ _ us hl => match us, hl with | [_, _, _], _ => rfl) (fun vs H Q E h => ?_) (fun f cdv A outer s H vs Q E hr h => ?_)
  · obtain ⟨p, ks, X, n, k, rfl, _⟩ := h
    rfl
  · obtain ⟨p, ks, X, n, k, rfl, hp, hk, hn, ln, q⟩ := h
    have hu := hu_of hr
    refine ⟨_, pss_one (ps_ret (pe_m1 PySem.F.slot_str_endswith PySem.F.type_str_endswith mt_endswith (pe_bm PySem.F.plainAttrs_str PySem.F.slot_str_rstrip PySem.F.type_str_rstrip mt_rstripChars (pv 1) (pa_cons (pe_dget hu (pe_fld (pv 0) rfl) (pv 2) (fun _ _ => rfl)) pa_nil)) (pv 2))), ?_⟩
    obtain ⟨dx, tp, da, dl, h1, h2, h3, h4⟩ := hp.ex
    have nl : ((S n : Str)).length ≤ sizeLine := by rw [S_len]; exact len_line (by omega)
    have g3 : DGet H da (.str (S [k])) (some (.str (S (acr ks X k)))) := h3.get hk
    have e : decide ((rstripL (fun c => (acr ks X k).contains c) n).getLast? = some k) = rd X n.reverse k := by
      rw [← drop_rd (ks := ks) hp.cr fun c hc => hn c (List.mem_reverse.mp hc)]
      unfold rstripL
      rw [List.getLast?_reverse, Bool.eq_iff_iff, decide_eq_true_iff, beq_iff_eq]
    refine ⟨_, rfl, rfl, _, rfl, p, C, dx, _, _, rfl, h1, T.cl, T.na, pf_across _ _ _ _, _, rfl, da, _, rfl, g3, _, _, rfl, rfl, nl, ?_⟩
    rw [S_rstrip]
    refine ⟨⟨_, rfl⟩, _, rfl, _, _, rfl, rfl, ?_⟩
    rw [S_ends, e]
    exact q
theorem sc_nearer : FnScope ["self", "kind"] ["self"] (defScope s_Room_nearer) := ⟨rfl, rfl, rfl, by decide +kernel, rfl, by decide +kernel, by decide +kernel⟩
theorem ok_nearer {f : Addr} {fd : FuncData} (F : FunD K "nearer" "Room.nearer" (defArgs s_Room_nearer) (defBody s_Room_nearer) (defScope s_Room_nearer) [] [] f fd) (T : PlanT K C) (TR : RoomT K CR) (cL : C8.Cal P w K mg base 1 "leads_nearer" (spLeads C) []) :
    FnOk P w K mg base C8.CX0 2 f fd ["self"] (spNearer C CR) := by
  refine F.ok sc_nearer (fun vs H Q E h => ?_) (fun cdv A outer s H vs Q E hr h => ?_)
  · obtain ⟨a, p, ks, X, n, rfl, _⟩ := h
    rfl
  · obtain ⟨a, p, ks, X, n, rfl, ha, hn, ln, q⟩ := h
    refine ⟨_, PSs.nox (pss_one (ps_ret (pe_join pe_str (pe_lc (own := [("kind", 1)]) (g := gName 1) (tt := tB (tCall (spLeads C) [] C8.E0 (tCons (tFld K (tVar 0) "plan") (tCons (tFld K (tVar 0) "name") (tCons (tVar 1) tNil))))) rfl sc_nearer.nd (pi_str (pe_fld (pe_fld (pv 0) rfl) rfl)) (blkOk_by (own := [("kind", 1)]) (N := ["self", "kind"]) (sc := defScope s_Room_nearer) (by decide +kernel))
      (fun _ _ _ _ _ => pg_name (i := 1) sc_nearer.nd rfl (.inl rfl)) (fun _ _ _ _ _ => by exact pts_one (pt_val (C8.pe_c cL hr (by decide) (by rfl) (pa_cons (pe_fld (pv 0) rfl) (pa_cons (pe_fld (pv 0) rfl) (pa_cons (pv 1) pa_nil)))))) (fun _ _ _ _ _ => pv 1))))), ?_⟩
    obtain ⟨ex, g1⟩ := ha.ex
    obtain ⟨dx, tp, da, dl, h1, h2, h3, h4⟩ := ha.pl.ex
    generalize hf : (fun k => rd X n.reverse k) = fl at q
    refine ⟨⟨_, rfl⟩, _, rfl, a, CR, ex, _, _, rfl, g1, TR.cl, TR.np, rf_plan _ _, p, C, dx, _, _, rfl, h1, T.cl, T.nk, pf_kinds _ _ _ _, _, rfl, fun D hD => ?_⟩
    refine lc_it walk_str (fun i H' => H' D = some (.lst (((ks.take i).filter fl).map fun c => V.str (S [c]))) ∧ L2.Same H H') ⟨upd_same, fun b o e => ?_⟩ (fun _ _ _ _ => trivial) ?_ ?_
    · rw [upd_ne (ne_of_none e hD)]
      exact e
    · rintro i x H' H2 hi ⟨hl, sm⟩ ⟨rfl, c, hc, rfl⟩
      have hc' := getS hc
      have hin : c ∈ ks := List.mem_of_getElem? hc'
      have hlen := ha.pl.few
      have g1' := sm _ _ g1
      refine ⟨rfl, _, rfl, a, CR, ex, _, _, rfl, g1', TR.cl, TR.np, rf_plan _ _, _, rfl, a, CR, ex, _, _, rfl, g1', TR.cl, TR.nn, rf_nameV _ _, _, rfl, p, ks, X, n, c, rfl, ha.pl.same sm, hin, hn, by omega, _, rfl, ?_⟩
      have ef : rd X n.reverse c = fl c := congrFun hf c
      rw [ef]
      have et : (ks.take (i + 1)).filter fl = (ks.take i).filter fl ++ (if fl c = true then [c] else []) := by
        rw [take_one hc', List.filter_append]
        congr 1
        by_cases z : fl c = true <;> simp [List.filter, z]
      cases e1 : fl c
      · refine iteF ⟨?_, sm⟩
        rw [et, e1]
        simpa using hl
      · refine iteT ?_
        refine ⟨_, rfl, _, hl, ?_, ?_, fun b o e => ?_⟩
        · rw [List.length_map]
          have z := List.length_filter_le fl (ks.take i)
          rw [List.length_take] at z
          exact len_lt (by omega)
        · rw [upd_same, et, e1]
          simp
        · rw [upd_ne (ne_of_none e hD)]
          exact sm b o e
    · rintro H' ⟨hl, sm⟩
      rw [sizeS, List.take_length] at hl
      have z := List.length_filter_le fl ks
      have hlen := ha.pl.few
      refine ⟨_, _, (ks.filter fl).map fun c => S [c], rfl, rfl, .inl ?_, ?_, ?_⟩
      · rw [List.map_map]
        exact SqL.of hl
      · rw [List.length_map, List.map_map]
        have e : ∀ l : List Nat, (l.map ((fun x : Str => x.length) ∘ fun c => S [c])).sum = l.length := by
          intro l
          induction l with
          | nil => rfl
          | cons a l ih =>
            rw [List.map_cons, List.sum_cons, ih, List.length_cons]
            show (S [a]).length + l.length = _
            rw [S_len]
            simp only [List.length_cons, List.length_nil]
            omega
        have e0 : (("" : Str)).length = 0 := by decide +kernel
        rw [e, e0]
        omega
      · have e0 : (("" : Str)) = S [] := by decide +kernel
        rw [e0, S_join1, ← hf]
        exact q H' sm
end
end TX
end
section
set_option maxRecDepth 100000
set_option maxHeartbeats 2000000
/-! X(): an exception of an own class without an __init__, its context None -/
namespace TX
open PySem PySem.Spec PyProof.Rows L2
theorem pmkN_own0 {X : Cx} {C : Addr} {bmB : List Value} {B newId initId : String} {x : Str} {p pos : Pos} (F : ExcBaseFacts B newId initId bmB) (q : PySem.W.excIn X.K C bmB newId = true) (gC : X.mg x = some (.ref C)) (kC : PySem.W.keepIn X.K (.ref C) = true) (r : Raises X (.ref C)) (hg : Gl X x)
    (hdb : (x == ("__debug__" : Str)) = false := by decide) : L2N.PMk X (.Call (.Name x p) [] [] pos) (fun _ H Q => Q (.ref C) none H) := by
  intro pins s σ H Q I h
  refine wpAny_Call_Name_kw (ld_glob I hg gC ?_ hdb)
  refine PySem.W.callWith_K0 I.kIn kC ?_
  show wpAny _ _ (call (.ref C) []) _ _ _
  obtain ⟨bm, N, nm, qn, bs, hdct, sn, sub, ab, col, dd, k0, k1, k2, k3, k5, mN, hC, hN, hni, T⟩ := exc_obj I.kIn q
  refine wpAny_call_exc_subT F T hC hN hni (fun h' e hm => ?_) (Nat.zero_le _)
  exact L2N.mk_of I hm r h (I.hok.gone hm.new)
end TX
end
section
set_option maxRecDepth 100000
set_option maxHeartbeats 4000000
/-! texts in order: by the alphabet, then by their lengths -/
namespace TX
open PySem PySem.Spec PyProof.Rows L2 SX CW
def rSortedSA (K : PySem.W.Frag) : List V → Hp → VK → Prop := fun vs H Q => ∃ (a : Addr) (xs : List Str), vs = [V.ref a] ∧ SqL K H a (xs.map V.str) ∧ xs.length ≤ sizeLine ∧
  ∀ (ys : List Str) (p : Addr), ys.Perm xs → sortedS ys = true → H p = none → Q (.ref p) (upd H p (.lst (ys.map V.str)))
theorem cr_sortedSA {X : Cx} : CallR X (.builtin "sorted") (rSortedSA X.K) := by
  intro pins s σ H vs us Q I r h
  obtain ⟨a, xs, rfl, hs, h64, q⟩ := h
  obtain ⟨its, rv, hl, _⟩ := I.list hs
  rw [Vals.ref1 r]
  have hlen0 := rv.length
  rw [List.length_map] at hlen0
  refine PyProof.Rows.sorted_strsAny hl.isList rv.strs (by rw [← hlen0]; exact h64) fun out ys h1 h2 h3 => ?_
  obtain ⟨ep, he'⟩ := PyProof.Rows.sortedAll_at s.heap its out
  have hlen : (ys.map V.str).length ≤ sizeLine := by rw [List.length_map, h2.length_eq]; exact h64
  exact ⟨.ref _, upd H (s.heap.objs.size + 1) (.lst (ys.map V.str)), I.laid (t' := s.toks) (fun _ _ => PyProof.Rows.sortedAll_old) (Nat.le_succ _) ⟨hlen, out.toList, ep, vals_of_strs h1, he'⟩, rfl, q ys _ h2 h3 (I.hok.fresh (Nat.le_succ _))⟩
def lenLe (x y : Str) : Bool := decide ((x.length : Int) ≤ (y.length : Int))
theorem each_strs : ∀ {xs : List Str} {its : List Value}, Vals (xs.map V.str) its → PySem.W.EachIs (fun v x => ∃ t, v = Value.str x t) its xs
  | [], _, h => by cases h; exact .nil
  | x :: xs, _, h => by
    cases h with
    | cons r t => exact .cons r (each_strs t)
theorem strs_each : ∀ {xs : List Str} {its : List Value}, PySem.W.EachIs (fun v x => ∃ t, v = Value.str x t) its xs → Vals (xs.map V.str) its
  | _, _, .nil => .nil
  | _, _, .cons r t => .cons r (strs_each t)
theorem pe_sortedLen {X : Cx} {e : Expr} {te' : TA} {p p2 pos kpos : Pos} (hg : Gl X "sorted") (hm : X.mg "sorted" = none) (hgl : Gl X "len") (hml : X.mg "len" = none) (hu : X.A.units + 64 < cLine) (ha : PA X [e] te')
    (he : backTo pos (starEach [e] X.env) = (false, eval e X.env) :: backTo pos (starEach [] X.env) := by rfl) (hpl : (backTo pos (starEach [e] X.env)).any (·.1) = false := by rfl)
    (hall : (backToKw pos (keywordEach [⟨some "key", .Name "len" p2, kpos⟩] X.env)).all (·.1.isSome) = true := by rfl) (hnone : (backToKw pos (keywordEach [⟨some "key", .Name "len" p2, kpos⟩] X.env)).any (·.1.isNone) = false := by rfl) (hks : (backToKw pos (keywordEach [⟨some "key", .Name "len" p2, kpos⟩] X.env)).filterMap (·.1) = [("key" : Str)] := by rfl) :
    PE X (.Call (.Name "sorted" p) [e] [⟨some "key", .Name "len" p2, kpos⟩] pos) (fun σ H Q => te' σ H fun vs H1 => ∃ (a : Addr) (xs : List Str), vs = [V.ref a] ∧ SqL X.K H1 a (xs.map V.str) ∧ xs.length ≤ 1000000 ∧ (∀ x ∈ xs, x.length ≤ sizeLine) ∧ ∀ p, H1 p = none → Q (.ref p) (upd H1 p (.lst ((xs.mergeSort lenLe).map V.str)))) := by
  refine ⟨fun pins s σ H Q I h => ?_⟩
  refine wpAny_Call_Name_kw (ld_blt I hg hm (by decide +kernel : bootBuiltins "sorted" = some (.builtin "sorted")) ?_)
  refine PyProof.Rows.callWith_kw (thn (ha.run pos pins s σ H _ I h) fun us s1 ⟨vs, H1, I1, r1, q1⟩ => ?_) he hpl hall hnone
  show wpAny _ _ (evalAll [do let v ← eval (.Name "len" p2) X.env; standAt pos; pure v]) _ _ s1
  refine wpAny_evalAll_cons (wpAny_bind (ld_blt I1 hgl hml PySem.boot_len (wpAny_bind (wpAny_standAt (wpAny_pure ?_)))))
  refine wpAny_evalAll_nil ?_
  rw [hks]
  obtain ⟨a, xs, rfl, hs, hx, hlx, q⟩ := q1
  rw [Vals.ref1 r1]
  obtain ⟨its, rv, hl, hz⟩ := I1.list hs
  have ei := each_strs rv
  have hsl : xs.length ≤ sizeLine := len_line (by omega)
  show wpAny (model X.prog X.w) X.A (call (.builtin "sorted") [.ref a] [(Str.ofString "key", .builtin "len")]) (EP X pins σ Q) X.xe s1
  refine PySem.W.sorted_key_data (b := false) (fun x : Str => .int (x.length : Int)) hl.isList ei (PySem.W.AllAlike.of fun _ _ => by simp [PySem.W.alike]) (PySem.W.Sortable.others fun _ => ⟨(fun z => by cases z), fun _ z => by cases z⟩) hsl (fun x _ => ?_) (PyProof.Rows.ksk_s1 _ _) (fun _ => PyProof.Rows.ksk_l1 _ _) (fun _ => PyProof.Rows.ksk_t4 _ _) ?_ ?_
  · have hd : (PyData.int (x.length : Int)).depth = 0 := by simp [PyData.depth]
    omega
  · rintro v x ⟨t, rfl⟩ hxm h tk kp
    have hn := line63
    have hl := hlx x hxm
    exact len_str (by omega) ⟨h, tk + 1 + 1, rfl, fun _ _ e => e, .int _ _⟩
  · intro out c h' tk kp fr hD hl2 eo
    rw [PySem.W.dataLe_int (β := Str) (fun x => (x.length : Int))] at eo
    have vo := strs_each eo
    have hlen : ((xs.mergeSort lenLe).map V.str).length ≤ sizeLine := by rw [List.length_map, List.length_mergeSort]; exact hsl
    exact ⟨.ref _, upd H1 (s1.heap.objs.size + 1) (.lst ((xs.mergeSort lenLe).map V.str)), I1.laid (t' := tk) (fun b o e => kp b o e) (Nat.le_succ _) ⟨hlen, out, c, vo, hD⟩, rfl, q _ (I1.hok.fresh (Nat.le_succ _))⟩
end TX
end
section
set_option maxRecDepth 100000
set_option maxHeartbeats 4000000
/-! texts in order: shorter ones first, then by the alphabet -/
namespace TX
open PySem PySem.Spec PyProof.Rows L2 SX CW
def ltA (a b : List Nat) : Prop := a.length < b.length ∨ (a.length = b.length ∧ a < b)
theorem ltA_irr (a : List Nat) : ¬ ltA a a := fun h => h.elim (fun z => Nat.lt_irrefl _ z) fun z => List.lt_irrefl _ z.2
theorem ltA_asym {a b : List Nat} (h : ltA a b) : ¬ ltA b a := by
  rintro (z | ⟨z1, z2⟩)
  · rcases h with y | ⟨y, _⟩ <;> omega
  · rcases h with y | ⟨_, y⟩
    · omega
    · exact List.lt_asymm y z2
theorem uniqR {α : Type} {R : α → α → Prop} (irr : ∀ a, ¬ R a a) (asym : ∀ {a b}, R a b → ¬ R b a) : ∀ {l m : List α}, l.Pairwise R → m.Pairwise R → (∀ x, x ∈ l ↔ x ∈ m) → l = m
  | [], m, _, _, h => by
    cases m with
    | nil => rfl
    | cons a m => cases (h a).mpr List.mem_cons_self
  | a :: l, [], _, _, h => by cases (h a).mp List.mem_cons_self
  | a :: l, b :: m, hl, hm, h => by
    rw [List.pairwise_cons] at hl hm
    have e : a = b := by
      rcases List.mem_cons.mp ((h a).mp List.mem_cons_self) with z | z
      · exact z
      · rcases List.mem_cons.mp ((h b).mpr List.mem_cons_self) with y | y
        · exact y.symm
        · exact absurd (hl.1 b y) (asym (hm.1 a z))
    subst e
    rw [uniqR irr asym hl.2 hm.2 fun x => ?_]
    have hx := h x
    rw [List.mem_cons, List.mem_cons] at hx
    constructor
    · intro z
      rcases hx.mp (.inr z) with y | y
      · subst y
        exact absurd (hl.1 x z) (irr x)
      · exact y
    · intro z
      rcases hx.mpr (.inr z) with y | y
      · subst y
        exact absurd (hm.1 x z) (irr x)
      · exact y
theorem rising_pw : ∀ (l : List (List Nat)) (p : List Nat), risingS (S p) (l.map S) = true → (p :: l).Pairwise fun a b => ¬ b < a
  | [], p, _ => List.pairwise_singleton _ _
  | x :: r, p, h => by
    have h' : (!ltCps x p && risingS (S x) (r.map S)) = true := h
    rw [Bool.and_eq_true] at h'
    obtain ⟨h1, h2⟩ := h'
    rw [ltCps_eq] at h1
    have h3 : ¬ x < p := by simpa using h1
    have ih := rising_pw r x h2
    refine List.pairwise_cons.mpr ⟨fun y hy => ?_, ih⟩
    rcases List.mem_cons.mp hy with e | e
    · rw [e]; exact h3
    · have h4 := (List.pairwise_cons.mp ih).1 y e
      exact fun z => h3 (List.lt_of_le_of_lt (List.not_lt.mp h4) z)
theorem sorted_pw {l : List (List Nat)} (h : sortedS (l.map S) = true) : l.Pairwise fun a b => ¬ b < a := by
  cases l with
  | nil => exact List.Pairwise.nil
  | cons p l => exact rising_pw l p h
theorem pair_some {α : Type} {a b : α} : ∀ {l : List α}, a ∈ l → b ∈ l → a ≠ b → [a, b].Sublist l ∨ [b, a].Sublist l
  | [], h, _, _ => by cases h
  | c :: l, ha, hb, ne => by
    rcases List.mem_cons.mp ha with rfl | ha
    · rcases List.mem_cons.mp hb with e | hb
      · exact absurd e.symm ne
      · exact .inl ((List.singleton_sublist.mpr hb).cons_cons _)
    · rcases List.mem_cons.mp hb with e | hb
      · exact .inr (by rw [e]; exact (List.singleton_sublist.mpr ha).cons_cons _)
      · exact (pair_some ha hb ne).imp (fun z => z.cons _) fun z => z.cons _
theorem pair_one {α : Type} {a b : α} : ∀ {l : List α}, l.Nodup → [a, b].Sublist l → [b, a].Sublist l → False
  | [], _, h, _ => by cases h
  | c :: l, nd, h1, h2 => by
    rw [List.nodup_cons] at nd
    cases h1 with
    | cons _ h1 =>
      cases h2 with
      | cons _ h2 => exact pair_one nd.2 h1 h2
      | cons_cons _ h2 => exact nd.1 (h1.subset (List.mem_cons_of_mem _ List.mem_cons_self))
    | cons_cons _ h1 =>
      cases h2 with
      | cons _ h2 => exact nd.1 (h2.subset (List.mem_cons_of_mem _ List.mem_cons_self))
      | cons_cons _ h2 => exact nd.1 (h1.subset List.mem_cons_self)
def lenN (a b : List Nat) : Bool := decide ((a.length : Int) ≤ (b.length : Int))
theorem asc_pw {zs : List (List Nat)} (nd : zs.Nodup) (h : zs.Pairwise fun a b => ¬ b < a) : (zs.mergeSort lenN).Pairwise ltA := by
  have tr : ∀ a b c : List Nat, lenN a b = true → lenN b c = true → lenN a c = true := fun a b c h1 h2 => by
    have := of_decide_eq_true h1
    have := of_decide_eq_true h2
    exact decide_eq_true (by omega)
  have to : ∀ a b : List Nat, (lenN a b || lenN b a) = true := fun a b => by
    unfold lenN
    rw [Bool.or_eq_true, decide_eq_true_iff, decide_eq_true_iff]
    omega
  have le := List.pairwise_mergeSort (le := lenN) tr to zs
  have pm := List.mergeSort_perm zs lenN
  have nd2 : (zs.mergeSort lenN).Nodup := pm.symm.nodup nd
  rw [List.pairwise_iff_forall_sublist] at le h ⊢
  intro a b s
  have l1 := of_decide_eq_true (le s)
  by_cases e : a.length < b.length
  · exact .inl e
  · have el : a.length = b.length := by omega
    have ne : a ≠ b := fun z => by
      subst z
      have := List.Sublist.nodup s nd2
      simp at this
    refine .inr ⟨el, ?_⟩
    have ha := pm.mem_iff.mp (s.subset List.mem_cons_self)
    have hb := pm.mem_iff.mp (s.subset (List.mem_cons_of_mem _ List.mem_cons_self))
    rcases pair_some ha hb ne with z | z
    · have y := h z
      rcases List.le_iff_lt_or_eq.mp (List.not_lt.mp y) with w | w
      · exact w
      · exact absurd w ne
    · have y := List.pair_sublist_mergeSort (le := lenN) tr to (decide_eq_true (by omega)) z
      exact (pair_one nd2 s y).elim
theorem asc_map (zs : List (List Nat)) : (zs.map S).mergeSort lenLe = (zs.mergeSort lenN).map S :=
  (List.map_mergeSort fun a _ b _ => by unfold lenN lenLe; rw [S_len, S_len]).symm
end TX
end
section
/-! a list in another order, seen through a map -/
namespace TX
theorem perm_unmap {α β : Type} {f : α → β} {ys zs : List β} (h : ys.Perm zs) : ∀ {l : List α}, zs = l.map f → ∃ l' : List α, ys = List.map f l' ∧ l'.Perm l := by
  induction h with
  | nil =>
    intro l e
    exact ⟨[], rfl, by rw [List.map_eq_nil_iff.mp e.symm]⟩
  | cons x _ ih =>
    intro l e
    cases l with
    | nil => cases e
    | cons a l =>
      rw [List.map_cons] at e
      injection e with e1 e2
      obtain ⟨l', h1, h2⟩ := ih e2
      exact ⟨a :: l', by rw [List.map_cons, ← h1, e1], h2.cons a⟩
  | swap x y r =>
    intro l e
    match l, e with
    | a :: b :: l, e =>
      rw [List.map_cons, List.map_cons] at e
      injection e with e1 e2
      injection e2 with e2 e3
      exact ⟨b :: a :: l, by rw [List.map_cons, List.map_cons, ← e1, ← e2, ← e3], .swap _ _ _⟩
  | trans _ _ ih1 ih2 =>
    intro l e
    obtain ⟨l2, h1, h2⟩ := ih2 e
    obtain ⟨l1, h3, h4⟩ := ih1 h1
    exact ⟨l1, h3, h4.trans h2⟩
end TX
end
section
set_option maxRecDepth 100000
set_option maxHeartbeats 4000000
/-! enumerate of a text -/
namespace TX
open PySem PySem.Spec PyProof.Rows L2 SX
/-- the signs of a text, each with its place, in new pairs -/
def ItE (x : Str) : It :=
  ⟨fun i _ => i < x.cps.size, fun i H v H' => ∃ (T : Addr) (c : Nat), v = .ref T ∧ H T = none ∧ H' = upd H T (.tup [.int (i : Nat), .str ⟨#[c]⟩]) ∧ x.cps[i]? = some c, fun i _ => i = x.cps.size⟩
theorem turn_enumS {P : Program} {w : World} {K : PySem.W.Frag} {elts : List Expr} {kk : Nat} {tpos : Pos} (x : Str) (tx : Tok) (e it : Addr) :
    Turn P w K (.Tuple elts kk tpos) (ItE x) [e, it] e (fun i h => (∃ old, IsEnum h e it ((i : Nat) : Int) old) ∧ h.IsStrIter it (strIterType x) x tx i ∧ e ≠ it) where
  mem := by simp
  obj := fun i h st b hb => by
    obtain ⟨⟨old, he⟩, ⟨o, ho, hc, hd⟩, _⟩ := st
    have e' : b = e ∨ b = it := by simpa using hb
    rcases e' with z | z
    · rw [z]; exact ⟨_, he, fun v q => nomatch q⟩
    · rw [z]; exact ⟨o, ho, fun v q => by rw [hd] at q; cases q⟩
  keep := fun i h h' st k => by
    obtain ⟨⟨old, he⟩, ⟨o, ho, r⟩, hne⟩ := st
    exact ⟨⟨old, k e (by simp) _ he⟩, ⟨o, k it (by simp) _ ho, r⟩, hne⟩
  item := by
    intro X hP hw hK hc i pins s σ H E I hf st hg
    subst hP hw hK
    obtain ⟨⟨old, he⟩, hit, hne⟩ := st
    have hh : X.A.in1.handled = none := I.ok.hd hc
    have hel : e < s.heap.objs.size := Heap.lt_size he
    have hil : it < s.heap.objs.size := by obtain ⟨_, q, _⟩ := hit; exact Heap.lt_size q
    refine wpAny_pyNext_enum_itemD (Draws.text hh it x tx) he hit hg hne (by simpa using hne) fun v h' tk hv ho hit' hT hsz hk => ?_
    obtain ⟨c, u, g1, rfl⟩ := hv
    refine ⟨_, rfl, wpAny_letOwnedTupleGo_enum (s := { s with heap := h', toks := tk + 1 }) ho fun h'' he' sb => ?_⟩
    have hT2 : h''.get? s.heap.objs.size = some { cls := .type "tuple", data := .seq #[.int i tk, .str ⟨#[c]⟩ u] } := (sb.2 _ (Nat.ne_of_gt hel)).trans hT
    have new : ObjOk X.prog X.w (upd H s.heap.objs.size (.tup [.int (i : Nat), .str ⟨#[c]⟩])) h'' s.heap.objs.size (.tup [.int (i : Nat), .str ⟨#[c]⟩]) :=
      ⟨by show 2 ≤ sizeLine; decide, [.int i tk, .str ⟨#[c]⟩ u], .cons ⟨_, rfl⟩ (.cons ⟨u, rfl⟩ .nil), ⟨_, hT2, rfl, _, rfl⟩⟩
    have I1 : Inv X pins σ (upd H s.heap.objs.size (.tup [.int (i : Nat), .str ⟨#[c]⟩])) { s with heap := h'', toks := tk + 1 } :=
      I.turnedNew (ch := [e, it]) (fun b ob hb q => (sb.2 b (fun z => hb (by simp [z]))).trans (hk b ob (fun z => hb (by simp [z])) (fun z => hb (by simp [z])) q)) hf (Nat.le_refl _) new
    refine ⟨.ref s.heap.objs.size, _, I1, rfl, ⟨_, c, rfl, I.hok.fresh (Nat.le_refl _), rfl, g1⟩, ⟨⟨.str ⟨#[c]⟩ u, ?_⟩, ?_, hne⟩, fun b hb => ?_⟩
    · have e1 : ((i + 1 : Nat) : Int) = (i : Int) + 1 := by omega
      rw [e1]; exact he'
    · obtain ⟨o, b1, b2⟩ := hit'
      exact ⟨o, (sb.2 it (Ne.symm hne)).trans b1, b2⟩
    · have hb' : b < s.heap.objs.size := by
        have e' : b = e ∨ b = it := by simpa using hb
        rcases e' with z | z
        · rw [z]; exact hel
        · rw [z]; exact hil
      rw [upd_ne (Nat.ne_of_lt hb')]
      exact (hf b hb).1
  done := by
    intro X hP hw hK hc i pins s σ H E I hf st hg
    subst hP hw hK
    obtain ⟨⟨old, he⟩, hit, hne⟩ := st
    have hh : X.A.in1.handled = none := I.ok.hd hc
    have hi : i = x.cps.size := hg
    subst hi
    obtain ⟨f0, f1, f2, f3, f4, f5⟩ := hf it (by simp)
    exact wpAny_pyNext_enum_endD (Draws.text hh it x tx) he hit fun h' eb => ⟨rfl, I.turned (t' := s.toks) (fun b o hb q => eb b o hb q) f0 f1 f3 f4 f5⟩
  self := fun A i s Q E st h => let ⟨⟨_, he⟩, _⟩ := st; wpAny_pyIter_enum he h
def iEnumS (ta : TA) : TI := fun σ H R => ta σ H fun vs H1 => ∃ x : Str, vs = [.str x] ∧ R (ItE x) H1
theorem pi_enumS {X : Cx} {e : Expr} {ta : TA} {p pos tpos : Pos} {elts : List Expr} {kk : Nat} (hg : Gl X "enumerate") (hm : X.mg "enumerate" = none) (ha : PA X [e] ta) (hs : starEach [e] X.env = [(false, eval e X.env)] := by rfl) :
    PI X (.Tuple elts kk tpos) (.Call (.Name "enumerate" p) [e] [] pos) (iEnumS ta) := by
  refine ⟨fun pins s σ H R I h => ?_⟩
  refine Call_ (ld_blt I hg hm boot_enumerate (PyProof.Rows.callWith_type1 (thn (ha.run pos pins s σ H _ I h) fun us s1 ⟨vs, H1, I1, r1, q1⟩ => ?_) hs rfl))
  obtain ⟨x, ex, q⟩ := q1
  subst ex
  cases r1 with
  | cons r rr =>
    cases rr
    obtain ⟨tx, rfl⟩ := r
    refine call_enumerate_str fun h' he hit hsz hk => wpAny_pyIter_enum he ?_
    have I2 : Inv X pins σ H1 { s1 with heap := h' } := I1.kept (t' := s1.toks) hk
    refine ⟨s1.heap.objs.size + 1, [s1.heap.objs.size + 1, s1.heap.objs.size], _, _, H1, rfl, I2, turn_enumS x tx (s1.heap.objs.size + 1) s1.heap.objs.size, ⟨⟨.none, he⟩, hit, Nat.succ_ne_self _⟩, fun b hb => ?_, q⟩
    have e' : b = s1.heap.objs.size + 1 ∨ b = s1.heap.objs.size := by simpa using hb
    have hle : s1.heap.objs.size ≤ b := by
      rcases e' with z | z
      · rw [z]; exact Nat.le_add_right _ _
      · rw [z]; exact Nat.le_refl _
    exact I1.fpOk hle (I1.hok.fresh hle)
end TX
end
section
set_option maxRecDepth 100000
set_option maxHeartbeats 8000000
/-! drawn ways; the plain table -/
namespace TX
open PySem PySem.Spec PyProof.Rows L2 SX CW
def spWalk : Sp := fun vs H Q _ => ∃ (p c t : Addr) (m n : Nat) (ks : List Nat) (X : Nat → Nat → Bool), vs = [.ref p, .ref t, .int n] ∧ PenAt H p c m ∧ m ≤ 900000 ∧ TabAt H t ks X ∧
  ∀ (v : List Nat) (H' : Hp), v.length ≤ n → v.length ≤ 1000 → (∀ k ∈ v, k ∈ ks) → PenAt H' p c (m + 100) → But p H H' → Q (.str (S v)) H'
theorem ones_idx {ks : List Nat} {i : Nat} {x : V} (h : (ones ks)[i]? = some x) : ∃ a, a ∈ ks ∧ x = .str (S [a]) := by
  unfold ones at h
  rw [List.getElem?_map] at h
  cases e : ks[i]? with
  | none => rw [e] at h; cases h
  | some a =>
    rw [e] at h
    exact ⟨a, List.mem_of_getElem? e, (Option.some.inj h).symm⟩
theorem ones_len (ks : List Nat) : (ones ks).length = ks.length := List.length_map ..
section
variable {P : Program} {w : World} {K : PySem.W.Frag} {mg : Str → Option Value} {base : Heap}
abbrev nWalk : List Str := ["_law_pen_here", "_law_table", "_law_number", "_law_letters", "_law_found", "_law_turn", "_law_item", "_law_peer", "_law_sort", "_law_k"]
end
end TX
end
section
set_option maxRecDepth 100000
set_option maxHeartbeats 8000000
/-! the law's vectors -/
namespace TX
open PySem PySem.Spec PyProof.Rows L2 SX CW
def kvG (ks : List Nat) (g : Nat → V) : List (Key × V) := ks.map fun k => (Sum.inr (S [k]), g k)
def tupV (ks : List Nat) (v : Vec) : List V := ks.map fun j => V.int (v j)
theorem valV_kvG {g : Nat → V} {k : Nat} : ∀ {ks : List Nat}, k ∈ ks → valV (kvG ks g) (Sum.inr (S [k])) = some (g k)
  | [], h => nomatch h
  | a :: ks, h => by
    show valV ((Sum.inr (S [a]), g a) :: kvG ks g) (Sum.inr (S [k])) = _
    rw [valV_cons]
    by_cases c : a = k
    · subst c
      rw [if_pos rfl]
    · rw [if_neg fun z => c (sk_inj z)]
      exact valV_kvG ((List.mem_cons.mp h).resolve_left fun z => c z.symm)
theorem kvG_more {ks : List Nat} {g : Nat → V} {i c : Nat} {v : V} (hc : ks[i]? = some c) (nd : ks.Nodup) : putK (kvG (ks.take i) g) (Sum.inr (S [c])) v = kvG (ks.take (i + 1)) (fun k => if k = c then v else g k) := by
  have out : c ∉ ks.take i := fun z => by
    obtain ⟨j, hj, e⟩ := List.getElem_of_mem z
    rw [List.length_take] at hj
    rw [List.getElem_take] at e
    have := idx_inj nd (List.getElem?_eq_some_iff.mpr ⟨by omega, e⟩) hc
    omega
  unfold putK
  have e : ((kvG (ks.take i) g).any fun kv => decide (kv.1 = Sum.inr (S [c]))) = false := by
    rw [List.any_eq_false]
    intro kv hkv
    obtain ⟨k, hk, rfl⟩ := List.mem_map.mp hkv
    simp only [decide_eq_true_eq]
    intro z
    exact out (sk_inj z ▸ hk)
  rw [e, take_one hc]
  show kvG (ks.take i) g ++ [(Sum.inr (S [c]), v)] = kvG (ks.take i ++ [c]) _
  unfold kvG
  rw [List.map_append]
  congr 1
  · refine List.map_congr_left fun k hk => ?_
    have : k ≠ c := fun z => out (z ▸ hk)
    simp [this]
  · simp
structure MarkAt (H : Hp) (t : Addr) (ks : List Nat) (m : Nat → Vec) : Prop where
  ex : ∃ g : Nat → Addr, H t = some (.dK (kvG ks fun k => .ref (g k))) ∧ ∀ k ∈ ks, H (g k) = some (.tup (tupV ks (m k)))
theorem MarkAt.same {H H' : Hp} {t : Addr} {ks : List Nat} {m : Nat → Vec} (h : MarkAt H t ks m) (s : L2.Same H H') : MarkAt H' t ks m := by
  obtain ⟨g, h1, h2⟩ := h.ex
  exact ⟨g, s _ _ h1, fun k hk => s _ _ (h2 k hk)⟩
theorem get_kvG {G : Hp} {t : Addr} {ks : List Nat} {g : Nat → V} {k : Nat} (h : Rd G t (.dK (kvG ks g))) (hk : k ∈ ks) : DGet G t (.str (S [k])) (some (g k)) :=
  .inl ⟨kvG ks g, Sum.inr (S [k]), h, rfl, (valV_kvG hk).symm⟩
theorem tupV_len (ks : List Nat) (v : Vec) : (tupV ks v).length = ks.length := List.length_map ..
theorem tupV_more {ks : List Nat} {v : Vec} {i j : Nat} (hj : ks[i]? = some j) : tupV (ks.take (i + 1)) v = tupV (ks.take i) v ++ [V.int (v j)] := by
  unfold tupV
  rw [take_one hj, List.map_append]
  rfl
theorem mark_step {G : Hp} {fo tp : Addr} {g : Nat → Addr} {ks : List Nat} {i c : Nat} {F : Nat → List V} {kvs kvs' : List (Key × V)} (hc : ks[i]? = some c) (gfo : G fo = some (.dK kvs)) (gt : ∀ k ∈ ks.take i, G (g k) = some (.tup (F k))) (gtp : G tp = some (.tup (F c))) :
    ∀ k ∈ ks.take (i + 1), (upd G fo (.dK kvs')) (if k = c then tp else g k) = some (.tup (F k)) := by
  intro k hk
  rw [take_one hc] at hk
  by_cases z : k = c
  · subst z
    rw [if_pos rfl, upd_ne (ne_of gtp gfo (by intro z; cases z))]
    exact gtp
  · rw [if_neg z]
    have hk2 : k ∈ ks.take i := (List.mem_append.mp hk).resolve_right fun h => z (List.mem_singleton.mp h)
    have gk := gt k hk2
    rw [upd_ne (ne_of gk gfo (by intro z; cases z))]
    exact gk
theorem kvG_idx {ks : List Nat} {g : Nat → V} {i : Nat} {k : Key} {v : V} (h : (kvG ks g)[i]? = some (k, v)) : ∃ a, ks[i]? = some a ∧ k = Sum.inr (S [a]) ∧ v = g a := by
  unfold kvG at h
  rw [List.getElem?_map] at h
  cases e : ks[i]? with
  | none => rw [e] at h; cases h
  | some a =>
    rw [e] at h
    have z := Option.some.inj h
    exact ⟨a, rfl, (congrArg Prod.fst z).symm, (congrArg Prod.snd z).symm⟩
theorem kvG_len (ks : List Nat) (g : Nat → V) : (kvG ks g).length = ks.length := List.length_map ..
theorem tupV_at {ks : List Nat} {v : Vec} {j c : Nat} (h : ks[j]? = some c) : (tupV ks v)[j]? = some (.int (v c)) := by
  unfold tupV
  rw [List.getElem?_map, h]
  rfl
theorem tupV_idx {ks : List Nat} {v : Vec} {j : Nat} {x : V} (h : (tupV ks v)[j]? = some x) : ∃ c, ks[j]? = some c ∧ x = .int (v c) := by
  unfold tupV at h
  rw [List.getElem?_map] at h
  cases e : ks[j]? with
  | none => rw [e] at h; cases h
  | some c =>
    rw [e] at h
    exact ⟨c, rfl, (Option.some.inj h).symm⟩
theorem kvK_ne_kvG {ks : List Nat} {f : Nat → List Nat} {g : Nat → Addr} (l0 : 0 < ks.length) : (.dK (kvK ks f) : HO) ≠ .dK (kvG ks fun k => .ref (g k)) := fun e => by
  have e2 := HO.dK.inj e
  cases ks with
  | nil => exact absurd l0 (by simp)
  | cons k ks =>
    have e3 : V.str (S (f k)) = V.ref (g k) := congrArg Prod.snd (List.cons.inj e2).1
    cases e3
theorem ref_if (g : Nat → Addr) (c : Nat) (a : Addr) : (fun k => if k = c then V.ref a else V.ref (g k)) = fun k => V.ref (if k = c then a else g k) := by
  funext k
  split <;> rfl
theorem ones_at {ks : List Nat} {i : Nat} {x : V} (h : (ones ks)[i]? = some x) : ∃ c, ks[i]? = some c ∧ x = .str (S [c]) := by
  unfold ones at h
  rw [List.getElem?_map] at h
  cases e : ks[i]? with
  | none => rw [e] at h; cases h
  | some a =>
    rw [e] at h
    exact ⟨a, rfl, (Option.some.inj h).symm⟩
theorem unit_eq (c d : Nat) : (if decide (V.str (S [c]) = V.str (S [d])) = true then (1 : Int) else 0) = unitV c d := by
  rw [eq_one]
  unfold unitV
  by_cases h : c = d <;> simp [h]
def spUnits : Sp := fun vs H Q _ => ∃ (t : Addr) (ks : List Nat) (X : Nat → Nat → Bool), vs = [.ref t] ∧ TabAt H t ks X ∧ ∀ (r : Addr) (H' : Hp), MarkAt H' r ks unitV → L2.Same H H' → Q (.ref r) H'
def spThrough : Sp := fun vs H Q _ => ∃ (t r : Addr) (ks : List Nat) (X : Nat → Nat → Bool) (m : Nat → Vec) (d : Nat), vs = [.ref t, .ref r, .str (S [d])] ∧ TabAt H t ks X ∧ MarkAt H r ks m ∧ d ∈ ks ∧
  ∀ (r' : Addr) (H' : Hp), MarkAt H' r' ks (thr X m d) → L2.Same H H' → Q (.ref r') H'
section
variable {P : Program} {w : World} {K : PySem.W.Frag} {mg : Str → Option Value} {base : Heap}
abbrev nUnits : List Str := ["_law_table", "_law_letters", "_law_found", "_law_item", "_law_each"]
abbrev nThr : List Str := ["_law_table", "_law_marks_here", "_law_door", "_law_own", "_law_found", "_law_each", "_law_number", "_law_at"]
end
end TX
end
section
set_option maxRecDepth 100000
set_option maxHeartbeats 8000000
/-! the law's marks, backs, names -/
namespace TX
open PySem PySem.Spec PyProof.Rows L2 SX CW
theorem TabAt.same' {H H' : Hp} {t : Addr} {ks : List Nat} {X : Nat → Nat → Bool} (h : TabAt H t ks X) (s : L2.Same H H') : TabAt H' t ks X := ⟨h.l0, h.l8, h.up, h.abc, h.cr, s _ _ h.at_⟩
def backsL (ks : List Nat) (m : Nat → Vec) : List Nat := ks.filter fun k => ks.any fun j => decide (m k j < 0)
def spMarks : Sp := fun vs H Q _ => ∃ (t : Addr) (ks : List Nat) (X : Nat → Nat → Bool) (way : List Nat), vs = [.ref t, .str (S way)] ∧ TabAt H t ks X ∧ (∀ c ∈ way, c ∈ ks) ∧ ∀ (r : Addr) (H' : Hp), MarkAt H' r ks (mr X way.reverse) → L2.Same H H' → Q (.ref r) H'
def spBacks : Sp := fun vs H Q _ => ∃ (r : Addr) (ks : List Nat) (m : Nat → Vec), vs = [.ref r] ∧ MarkAt H r ks m ∧ 0 < ks.length ∧ ks.length ≤ 8 ∧ ∀ (l : Addr) (H' : Hp), H' l = some (.lst (ones (backsL ks m))) → L2.Same H H' → Q (.ref l) H'
def spName : Sp := fun vs H Q _ => ∃ (t : Addr) (ks : List Nat) (X : Nat → Nat → Bool) (way : List Nat), vs = [.ref t, .str (S way)] ∧ TabAt H t ks X ∧ (∀ c ∈ way, c ∈ ks) ∧ way.length ≤ 5000 ∧ ∀ H', L2.Same H H' → Q (.str (S (fol ks X [] way))) H'
theorem backs_rd {ks : List Nat} {X : Nat → Nat → Bool} (cr : Crossing X) {r : List Nat} (h : red X r = true) : backsL ks (mr X r) = ks.filter fun k => rd X r k := by
  refine List.filter_congr fun k hk => ?_
  rw [Bool.eq_iff_iff, List.any_eq_true]
  constructor
  · rintro ⟨j, hj, lt⟩
    exact (back_iff cr h hk).mp ⟨j, hj, of_decide_eq_true lt⟩
  · intro z
    obtain ⟨j, hj, lt⟩ := (back_iff cr h hk).mpr z
    exact ⟨j, hj, decide_eq_true lt⟩
theorem isName_back {X : Nat → Nat → Bool} {b : List Nat} : ∀ {a : List Nat}, isName X (a ++ b) = true → isName X b = true
  | [], h => h
  | _ :: a, h => isName_back (a := a) (isName_tail h)
theorem filter_first {p : Nat → Bool} {b : Nat} (hb : p b = true) (hm : ∀ k, p k = true → b ≤ k) : ∀ {ks : List Nat}, ks.Pairwise (· < ·) → b ∈ ks → ∃ r, ks.filter p = b :: r
  | [], _, h => by cases h
  | a :: ks, up, h => by
    by_cases z : a = b
    · subst z
      exact ⟨ks.filter p, List.filter_cons_of_pos hb⟩
    · have hin : b ∈ ks := (List.mem_cons.mp h).resolve_left fun e => z e.symm
      have lt : a < b := (List.pairwise_cons.mp up).1 b hin
      have pa : ¬ p a = true := fun e => by have := hm a e; omega
      rw [List.filter_cons_of_neg pa]
      exact filter_first hb hm (List.pairwise_cons.mp up).2 hin
section
variable {P : Program} {w : World} {K : PySem.W.Frag} {mg : Str → Option Value} {base : Heap}
end
end TX
end
section
set_option maxRecDepth 100000
set_option maxHeartbeats 4000000
namespace TX
open PySem PySem.Spec PyProof.Rows L2 SX CW
abbrev rInt1 : List V → Hp → VK → Prop := fun xs H Q => (∃ i, xs = [V.int i] ∧ Q (V.int i) H) ∨ ∃ k, xs = [V.bl k] ∧ Q (V.int (if k = true then 1 else 0)) H
abbrev tBack (K : PySem.W.Frag) : TT := tTest (tOp (rI0 fun i j => V.bl (decide (i < j))) (tCB (rMin K) (tCons (tLc (iTup K (tDGet (tVar 0) (tVar 1))) (gName 2) tYes (tCB rInt1 (tCons (tVar 2) tNil)) [2]) tNil)) (tC (.int 0)))
abbrev scB1 : Scope := { kind := .function, names := [(".0", .local), ("_law_item", .local), ("min", .globalImplicit), ("_law_marks_here", .free)], isGenerator := false, isCoroutine := false }
theorem blk_any {N : List Str} {sc sc' scope : Scope} {own : List (Str × Nat)} (z : BlkOk N sc scope own) (nf : (scope.names.all fun y => decide (y.2 ≠ NameKind.free)) = true) : BlkOk N sc' scope own :=
  ⟨z.kind, z.uniq, z.ix, fun y h1 h2 => absurd h2 (of_decide_eq_true (List.all_eq_true.mp nf y h1)), z.own⟩
abbrev scB2 : Scope := { kind := .function, names := [(".0", .local), ("_law_number", .local), ("int", .globalImplicit)], isGenerator := false, isCoroutine := false }
section
variable {P : Program} {w : World} {K : PySem.W.Frag} {mg : Str → Option Value} {base : Heap}
abbrev nBacks : List Str := ["_law_marks_here", "_law_item", "_law_number"]
end
end TX
end
section
set_option maxRecDepth 100000
set_option maxHeartbeats 8000000
/-! names by vectors -/
namespace TX
open PySem PySem.Spec PyProof.Rows L2 SX CW
section
variable {P : Program} {w : World} {K : PySem.W.Frag} {mg : Str → Option Value} {base : Heap}
def left3 (L : Nat) (σ : L2.St) : Nat := match σ[3]? with
  | some (some (V.str x)) => L - x.length
  | _ => 0
end
end TX
end
section
set_option maxRecDepth 100000
set_option maxHeartbeats 2000000
/-! sep.join(d), d a dict from texts -/
namespace JnD
open PySem PySem.Spec PyProof.Rows
theorem nolen_dk : typeLookup (.type "dict_keyiterator") "__len__" = pure none := by rw [typeLookup_type, builtinLookup_eq_fast]; kernel_rfl
theorem hint_dk : typeLookup (.type "dict_keyiterator") "__length_hint__" = pure (some (.builtin "dict_keyiterator.__length_hint__")) := by rw [typeLookup_type, builtinLookup_eq_fast]; kernel_rfl
section
variable {prog : Program} {w : World} {A : Around} {E : Value → Shared → Prop} {s : Shared} {I : Addr} {fp wr : List Addr} {G : Array GenState → Array GenState → Prop} {n : Nat} {P : Nat → Value → Prop} {St : Nat → Shared → Prop}
theorem collect_dk {Q : List Value → Shared → Prop}
    (W : WalksS prog w A.in1 I fp wr G n P St) (hT : ∀ i s, St i s → s.TypeIs (.ref I) "dict_keyiterator") (hst : St 0 s) (hfp : ∀ b ∈ fp, b < s.heap.objs.size) (hI : I ∈ fp)
    (hQ : ∀ s' acc, Moved wr G s s' → ItemsOf P acc n → Q acc.toList s') (hn : n ≤ sizeLine) : wpAny (model prog w) A (collect (.ref I)) Q E s := by
  have hSf : s.heap.objs.size ∉ fp := fun hm => Nat.lt_irrefl _ (hfp _ hm)
  have hSI : s.heap.objs.size ≠ I := fun e => hSf (e ▸ hI)
  unfold collect
  refine wpAny_bind (wpAny_runValue (codeAny_builtin F.entry_proto_collect ?_))
  rw [Around.under_plainId F.plain_proto_collect _]
  show wpAny _ A.in1 (newList [] >>= fun l => again (.builtin "list.__iadd__" ⟨[l, .ref I], []⟩)) _ _ s
  refine wpAny_bind (wpAny_newObj_type ?_)
  refine wpAny_pure ⟨plainId_quiet F.plain_list_iadd _, codeAny_builtin F.entry_list_iadd ?_⟩
  rw [Around.under_plainId F.plain_list_iadd _]
  have hst₁ := W.frame 0 s (s.heap.push { cls := .type "list", data := .seq ([] : List Value).toArray }) s.toks hst (Nat.le_refl _) fun b _ o e => Heap.get?_push_of_some _ e
  have hS₁ : (s.heap.push { cls := .type "list", data := .seq ([] : List Value).toArray }).get? s.heap.objs.size = some { cls := .type "list", data := .seq ([] : List Value).toArray } := Heap.get?_push_size _ rfl
  have h1 : Builtin.List.listSameRef (.ref s.heap.objs.size) (.ref I) = false := by simp [Builtin.List.listSameRef, hSI]
  show wpAny _ A.in1 (Builtin.List.listExtendWith (.ref s.heap.objs.size) (.ref I) (.ref s.heap.objs.size)) _ _ _
  unfold Builtin.List.listExtendWith
  refine wpAny_bind (wpAny_typeOf (hT 0 _ hst₁) ?_)
  rw [if_neg (by rw [h1]; decide)]
  refine wpAny_bind (W.self 0 _ _ _ hst₁ ?_)
  refine wpAny_bind (wpAny_holding ?_)
  unfold Builtin.List.listLengthHint
  refine wpAny_bind (wpAny_specialOf (hT 0 _ hst₁) nolen_dk ?_)
  show wpAny _ A.in1 (specialOf (Value.ref I) (Str.ofString "__length_hint__") >>= _) _ _ _
  refine wpAny_bind (wpAny_specialOf (hT 0 _ hst₁) hint_dk ?_)
  generalize hid : ("dict_keyiterator.__length_hint__" : String) = id0
  wp_delta
  rw [show splitId id0 = some ("dict_keyiterator", "__length_hint__") from by subst hid; decide +kernel]
  subst hid
  refine wpAny_bind (wpAny_isInstance (b := true) (hT 0 _ hst₁) (by rw [isSubtype_type]; kernel_rfl) ?_)
  refine wpAny_pure ?_
  rw [if_neg (by decide)]
  refine wpAny_pure ⟨plainId_quiet F.plain_extend_loop _, codeAny_extend_loopS W hn _ hSf _ n 0 _ _ _ rfl (Nat.zero_le _) hst₁ hS₁ (ItemsOf.nil P) fun s' acc' c' hm hS' hacc => ?_⟩
  show wpAny _ A (load s.heap.objs.size >>= _) _ _ s'
  refine wpAny_bind (wpAny_load hS' ?_)
  exact wpAny_pure (hQ s' acc' (Moved.drop_new (o := { cls := .type "list", data := .seq ([] : List Value).toArray }) (tk := s.toks) hm (Nat.le_refl _)) hacc)
end
section
variable {prog : Program} {w : World} {A : Around} {E : Value → Shared → Prop} {s : Shared} {K : Type} [DecidableEq K] {knd : KeyKind prog w K}
open Builtin Builtin.Str Builtin.Int
theorem join_dict {x : Str} {t : Tok} {d : Addr} {kvs : List (K × Value)} {ep : Nat} {ys : List Str} {Q : Value → Shared → Prop} (hh : A.handled = none) (lo : (d == sysModules) = false) (hm : s.heap.DictAt knd d kvs ep)
    (hP : ∀ acc : Array Value, ItemsOf (fun i v => ∃ k x, kvs[i]? = some (k, x) ∧ knd.is k v = true) acc kvs.length → StrsAre acc.toList ys) (hok : (ys.map (·.length)).sum + ys.length * x.length ≤ 16777216)
    (hq : ∀ h' k, (∀ b o, s.heap.get? b = some o → h'.get? b = some o) → ∀ t', Q (.str (Txt.join x ys) t') { s with heap := h', toks := k }) (hsz : kvs.length ≤ sizeLine) :
    wpAny (model prog w) A (call (.builtin "str.join") [.str x t, .ref d]) Q E s := by
  refine wpAny_call (codeAny_call_builtin F.slot_str_join.plain F.entry_str_join (F.slot_str_join.check _ _ _ _ _ _ _ _ (typeIs_str _ _ _) (F.args_str_join_2 _ _) ?_))
  rw [join_tree_other]
  refine wpAny_bind (wpAny_typeOf hm.dictOf.typeIs ?_)
  show wpAny _ A.in1 ((pyIter (.ref d)).tryCatch _ >>= fun it => collect it >>= fun items => joinTail x items) _ _ s
  refine wpAny_bind (wpAny_tryCatch (wpAny_pyIter_dict lo hm ?_))
  have hlt : d < s.heap.objs.size := hm.lt_size
  have W := (Walks.dictKeys (prog := prog) (w := w) (A := A.in1.in1) (knd := knd) hh s.heap.objs.size d (Nat.ne_of_lt hlt) kvs ep).toS
  refine wpAny_bind (collect_dk W (fun i s' st => st.1.typeIs) ⟨⟨_, Heap.get?_push_size _ rfl, rfl, rfl⟩, hm.push _⟩ (fun b hb => ?_) (by simp) (fun s' acc hmv hacc => ?_) hsz)
  · rcases List.mem_cons.mp hb with e | hb
    · rw [e]; show _ < (s.heap.push _).objs.size; rw [Heap.size_push]; exact Nat.lt_succ_self _
    · rw [List.mem_singleton.mp hb]; show _ < (s.heap.push _).objs.size; rw [Heap.size_push]; exact Nat.lt_succ_of_lt hlt
  obtain ⟨l, hl, ht⟩ := strsAre_values (hP acc hacc)
  subst ht
  rw [hl]
  have hok' := joinOk_of hok
  unfold JoinOk at hok'
  rw [Bool.not_eq_true'] at hok'
  have g : Gives (joinTail x (strValues l)) (joinMade x l) := by
    have g0 := gives_joinTail x l hok'
    cases l with
    | nil => exact g0
    | cons p r => cases r with
      | nil => exact g0
      | cons q r' => exact g0
  have hk : ∀ b o, s.heap.get? b = some o → s'.heap.get? b = some o := fun b o e =>
    hmv.heap b o (fun hI => absurd (Heap.lt_size e) (by rw [List.mem_singleton.mp hI]; exact Nat.lt_irrefl _)) (Heap.get?_push_of_some _ e)
  refine g prog w A (wants Q E) s' (post_join l ⟨joinFit_length hok', fun t' k => ?_⟩)
  have e := Moved.eq_with hmv
  have z := hq s'.heap k hk t'
  rw [e]
  exact z
end
end JnD
namespace L2
open PySem PySem.Spec PyProof.Rows
section
variable {X : Cx}
/-- sep.join(d): the keys of a dict, all texts -/
theorem mt_joinD (hcalm : X.calm = true) : MtR X "str.join" (fun x xs H Q => ∃ (a : Str) (d : Addr) (kvs : List (Key × V)) (ys : List Str), x = .str a ∧ xs = [.ref d] ∧ Rd H d (.dK kvs) ∧ kvs.map (·.1) = ys.map Sum.inr ∧
    (ys.map (·.length)).sum + ys.length * a.length ≤ 16777216 ∧ Q (.str (Txt.join a ys)) H) := by
  intro pins s σ H x xs v us Q I rx rs h
  obtain ⟨a, d, kvs, ys, rfl, rfl, hd, hk, hz, q⟩ := h
  obtain ⟨t, rfl⟩ := rx
  cases rs with
  | cons r1 rs =>
    cases rs
    cases r1
    obtain ⟨z, lo, vs, rel, dd⟩ := dk_rd I.hok hd
    obtain ⟨ep, hat⟩ := dd.dictAt
    refine JnD.join_dict (knd := mixKind X.prog X.w) (kvs := vs) (ep := ep) (ys := ys) (I.ok.hd hcalm) lo hat (fun acc hacc => ?_) hz (fun h' k hk' t' => ⟨.str _, H, I.kept (t' := k) hk', ⟨t', rfl⟩, q⟩) (by rw [← rel.length]; exact z)
    have hv : Vals (vs.map fun p => kV p.1) acc.toList := keys_at (by rw [Array.length_toList]; exact hacc.1) fun j v e => hacc.2 j v (by rw [← Array.getElem?_toList]; exact e)
    have ek : (vs.map fun p => kV p.1) = ys.map V.str := by
      have e := congrArg (List.map kV) rel.keys
      rw [List.map_map, List.map_map] at e
      have e2 : (vs.map fun p => kV p.1) = (kvs.map (·.1)).map kV := by
        rw [List.map_map]
        exact e.symm
      rw [e2, hk, List.map_map]
      rfl
    rw [ek] at hv
    exact strs_of_vals hv
end
end L2
end
section
set_option maxRecDepth 100000
set_option maxHeartbeats 8000000
/-! the law's walls that a way goes through; the plain plan -/
namespace TX
open PySem PySem.Spec PyProof.Rows L2 SX CW
def wsV (ws : List (List Nat)) : List V := ws.map fun v => V.str (S v)
theorem wsV_idx {ws : List (List Nat)} {i : Nat} {x : V} (h : (wsV ws)[i]? = some x) : ∃ v, ws[i]? = some v ∧ x = .str (S v) := by
  unfold wsV at h
  rw [List.getElem?_map] at h
  cases e : ws[i]? with
  | none => rw [e] at h; cases h
  | some v => rw [e] at h; exact ⟨v, rfl, (Option.some.inj h).symm⟩
theorem wsV_len (ws : List (List Nat)) : (wsV ws).length = ws.length := List.length_map ..
theorem crsA_snoc (X : Nat → Nat → Bool) (k : Nat) : ∀ (l p : List Nat), crsA X p (l ++ [k]) = crsA X p l ++ [mr X (l.reverse ++ p) k]
  | [], p => rfl
  | a :: l, p => by
    show mr X p a :: crsA X (a :: p) (l ++ [k]) = mr X p a :: (crsA X (a :: p) l ++ _)
    rw [crsA_snoc X k l (a :: p), List.reverse_cons, List.append_assoc]
    rfl
theorem crsA_len (X : Nat → Nat → Bool) : ∀ (l p : List Nat), (crsA X p l).length = l.length
  | [], _ => rfl
  | a :: l, p => by
    show (mr X p a :: crsA X (a :: p) l).length = _
    rw [List.length_cons, List.length_cons, crsA_len X l]
/-- a list of vectors -/
structure VsAt (H : Hp) (l : Addr) (ks : List Nat) (vs : List Vec) : Prop where
  ex : ∃ va : List Addr, H l = some (.lst (va.map V.ref)) ∧ va.length = vs.length ∧ ∀ (i : Nat) (a : Addr) (v : Vec), va[i]? = some a → vs[i]? = some v → H a = some (.tup (tupV ks v))
theorem VsAt.same {H H' : Hp} {l : Addr} {ks : List Nat} {vs : List Vec} (h : VsAt H l ks vs) (s : L2.Same H H') : VsAt H' l ks vs := by
  obtain ⟨va, h1, h2, h3⟩ := h.ex
  exact ⟨va, s _ _ h1, h2, fun i a v e1 e2 => s _ _ (h3 i a v e1 e2)⟩
theorem dp_tupV {K : PySem.W.Frag} {G : Hp} {a : Addr} {ks : List Nat} {v : Vec} (h : G a = some (.tup (tupV ks v))) : L2.Dp K G (.ref a) (.tuple ((ks.map v).map PyData.int)) := by
  have e : tupV ks v = (ks.map v).map V.int := by
    unfold tupV
    rw [List.map_map]
    rfl
  rw [e] at h
  exact .tup (SqT.of h) (dp_ints _)
theorem eqv_tupV (ks : List Nat) (u v : Vec) : PyData.eqv (.tuple ((ks.map u).map PyData.int)) (.tuple ((ks.map v).map PyData.int)) = decide (∀ j ∈ ks, u j = v j) := by
  have : ∀ l : List Nat, PyData.eqvAll ((l.map u).map PyData.int) ((l.map v).map PyData.int) = decide (∀ j ∈ l, u j = v j) := by
    intro l
    induction l with
    | nil => rfl
    | cons a l ih =>
      show (PyData.eqv (.int (u a)) (.int (v a)) && PyData.eqvAll _ _) = _
      rw [ih]
      show ((u a == v a) && _) = _
      rw [Bool.eq_iff_iff, Bool.and_eq_true, beq_iff_eq, decide_eq_true_iff, decide_eq_true_iff, List.forall_mem_cons]
  exact this ks
theorem VsAt.dp {K : PySem.W.Frag} {G : Hp} {l : Addr} {ks : List Nat} {vs : List Vec} (h : VsAt G l ks vs) : L2.Dp K G (.ref l) (.list (vs.map fun v => .tuple ((ks.map v).map PyData.int))) := by
  obtain ⟨va, h1, h2, h3⟩ := h.ex
  refine .lst (SqL.of h1) ?_
  clear h1
  have gen : ∀ (va : List Addr) (vs : List Vec), va.length = vs.length → (∀ (i : Nat) (a : Addr) (v : Vec), va[i]? = some a → vs[i]? = some v → G a = some (.tup (tupV ks v))) → DpAll K G (va.map V.ref) (vs.map fun v => .tuple ((ks.map v).map PyData.int)) := by
    intro va
    induction va with
    | nil =>
      intro vs e _
      cases vs with
      | nil => exact .nil
      | cons _ _ => cases e
    | cons a va ih =>
      intro vs e h
      cases vs with
      | nil => cases e
      | cons v vs => exact .cons (dp_tupV (h 0 a v rfl rfl)) (ih vs (by simpa using e) fun i a' v' e1 e2 => h (i + 1) a' v' e1 e2)
  exact gen va vs h2 h3
theorem lay_ints (cs : List Int) : PyData.canLay0 (.tuple (cs.map PyData.int)) = true ∧ PyData.depth (.tuple (cs.map PyData.int)) ≤ 60 := by
  constructor
  · have b : PySem.SeqAt.shaped (.tuple (cs.map PyData.int)) = true := sh_ints cs
    unfold PySem.SeqAt.shaped at b
    rw [Bool.and_eq_true] at b
    exact b.1
  · have e : PyData.depthAll (cs.map PyData.int) = 0 := by
      induction cs with
      | nil => rfl
      | cons a cs ih =>
        show max (PyData.depth (.int a)) (PyData.depthAll (cs.map PyData.int)) = 0
        rw [ih]
        rfl
    show PyData.depthAll (cs.map PyData.int) + 1 ≤ 60
    rw [e]
    omega
theorem sh_vecs (ks : List Nat) (vs : List Vec) : PySem.SeqAt.shaped (.list (vs.map fun v => .tuple ((ks.map v).map PyData.int))) = true := by
  refine sh_flat _ fun d hd => ?_
  obtain ⟨v, _, rfl⟩ := List.mem_map.mp hd
  exact lay_ints _
theorem any_vecs (ks : List Nat) (vs : List Vec) (u : Vec) : ((vs.map fun v => PyData.tuple ((ks.map v).map PyData.int)).any fun z => PyData.eqv z (.tuple ((ks.map u).map PyData.int))) = decide (∃ v ∈ vs, ∀ j ∈ ks, v j = u j) := by
  rw [List.any_map, Bool.eq_iff_iff, List.any_eq_true, decide_eq_true_iff]
  constructor
  · rintro ⟨v, hv, e⟩
    refine ⟨v, hv, ?_⟩
    have e' : PyData.eqv (.tuple ((ks.map v).map PyData.int)) (.tuple ((ks.map u).map PyData.int)) = true := e
    rw [eqv_tupV] at e'
    exact of_decide_eq_true e'
  · rintro ⟨v, hv, e⟩
    refine ⟨v, hv, ?_⟩
    show PyData.eqv (.tuple ((ks.map v).map PyData.int)) (.tuple ((ks.map u).map PyData.int)) = true
    rw [eqv_tupV]
    exact decide_eq_true e
def spCrossed : Sp := fun vs H Q _ => ∃ (t : Addr) (ks : List Nat) (X : Nat → Nat → Bool) (n : List Nat), vs = [.ref t, .str (S n)] ∧ TabAt H t ks X ∧ (∀ c ∈ n, c ∈ ks) ∧ n.length ≤ 100000 ∧ ∀ (l : Addr) (H' : Hp), VsAt H' l ks (crsA X [] n) → L2.Same H H' → Q (.ref l) H'
section
variable {P : Program} {w : World} {K : PySem.W.Frag} {mg : Str → Option Value} {base : Heap} {C CR CL : Addr}
abbrev nCrossed : List Str := ["_law_table", "_law_name_here", "_law_marks_here", "_law_found", "_law_item"]
end
end TX
end
section
set_option maxRecDepth 100000
set_option maxHeartbeats 8000000
/-! texts in order; the walls on a way -/
namespace CW
/-- the texts of the walls that a way goes through -/
def txL (ks : List Nat) (X : Nat → Nat → Bool) : List Nat → List Nat → List (List Nat)
  | _, [] => []
  | n, k :: w => (toD ks X n k ++ [k]) :: txL ks X (beh ks X n k) w
theorem txL_len {ks : List Nat} {X : Nat → Nat → Bool} : ∀ (w n : List Nat), (txL ks X n w).length = w.length
  | [], _ => rfl
  | k :: w, n => by
    show (txL ks X (beh ks X n k) w).length + 1 = w.length + 1
    rw [txL_len w]
theorem txL_snoc {ks : List Nat} {X : Nat → Nat → Bool} (k : Nat) : ∀ (w n : List Nat), txL ks X n (w ++ [k]) = txL ks X n w ++ [toD ks X (fol ks X n w) k ++ [k]]
  | [], n => rfl
  | c :: w, n => by
    show (toD ks X n c ++ [c]) :: txL ks X (beh ks X n c) (w ++ [k]) = (toD ks X n c ++ [c]) :: (txL ks X (beh ks X n c) w ++ _)
    rw [txL_snoc k w]
    rfl
end CW
namespace TX
open PySem PySem.Spec PyProof.Rows L2 SX CW
theorem at_last {u : List Nat} {k : Nat} : atI (u ++ [k]) (-1) = some k := by
  unfold atI ixN
  rw [List.length_append]
  simp only [List.length_cons, List.length_nil]
  rw [if_neg (by decide), if_pos (by omega)]
  have e : ((-1 : Int) + ((u.length + (0 + 1) : Nat) : Int)).toNat = u.length := by omega
  show (u ++ [k])[((-1 : Int) + ((u.length + (0 + 1) : Nat) : Int)).toNat]? = some k
  rw [e]
  simp
theorem wsV_S (ws : List (List Nat)) : wsV ws = (ws.map S).map V.str := by
  unfold wsV
  rw [List.map_map]
  rfl
theorem rg_has {n i : Nat} (h : i < n) : inV (.int (i : Int)) (rgV 0 (n : Int)) = true := by
  unfold inV
  rw [List.any_eq_true]
  refine ⟨.int (i : Int), List.mem_map.mpr ⟨i, List.mem_range.mpr (by omega), by rw [Int.zero_add]⟩, ?_⟩
  show ((i : Int) == (i : Int)) = true
  exact beq_self_eq_true _
theorem rg_flat (n : Int) : (rgV 0 n).all flatV = true := by
  rw [List.all_eq_true]
  intro x hx
  obtain ⟨i, _, rfl⟩ := List.mem_map.mp hx
  rfl
def spAsc (K : PySem.W.Frag) : Sp := fun vs H Q _ => ∃ (l : Addr) (ws : List (List Nat)), vs = [.ref l] ∧ SqL K H l (wsV ws) ∧ ws.Nodup ∧ ws.length ≤ 100000 ∧ (∀ v ∈ ws, v.length ≤ 100000) ∧
  ∀ (p : Addr) (ys : List (List Nat)) (H' : Hp), ys.Perm ws → ys.Pairwise ltA → H' p = some (.lst (wsV ys)) → L2.Same H H' → Q (.ref p) H'
/-- walls, one for each text -/
structure WlL (C CR CL : Addr) (H : Hp) (ks : List Nat) (X : Nat → Nat → Bool) (rs : List Addr) (ys : List (List Nat)) : Prop where
  len : rs.length = ys.length
  at_ : ∀ (i : Nat) (r : Addr) (y : List Nat), rs[i]? = some r → ys[i]? = some y → ∃ (x q : Addr) (m : List Nat) (d : Nat), y = m ++ [d] ∧ WallAt C CR CL H r x q ks X m d ∧ d ∈ ks ∧ (∀ c ∈ m, c ∈ ks) ∧ m.length ≤ 2000
theorem WlL.nil {C CR CL : Addr} {H : Hp} {ks : List Nat} {X : Nat → Nat → Bool} : WlL C CR CL H ks X [] [] := ⟨rfl, fun _ _ _ e => by cases e⟩
theorem WlL.same {C CR CL : Addr} {H H' : Hp} {ks : List Nat} {X : Nat → Nat → Bool} {rs : List Addr} {ys : List (List Nat)} (h : WlL C CR CL H ks X rs ys) (s : L2.Same H H') : WlL C CR CL H' ks X rs ys :=
  ⟨h.len, fun i r y e1 e2 => by obtain ⟨x, q, m, d, a, b, c⟩ := h.at_ i r y e1 e2; exact ⟨x, q, m, d, a, b.same s, c⟩⟩
theorem WlL.lst {C CR CL : Addr} {H : Hp} {ks : List Nat} {X : Nat → Nat → Bool} {rs : List Addr} {ys : List (List Nat)} {D : Addr} {zs : List V} {o : HO} (h : WlL C CR CL H ks X rs ys) (hD : H D = some (.lst zs)) : WlL C CR CL (upd H D o) ks X rs ys :=
  ⟨h.len, fun i r y e1 e2 => by obtain ⟨x, q, m, d, a, b, c⟩ := h.at_ i r y e1 e2; exact ⟨x, q, m, d, a, b.lst hD, c⟩⟩
theorem WlL.more {C CR CL : Addr} {H : Hp} {ks : List Nat} {X : Nat → Nat → Bool} {rs : List Addr} {ys : List (List Nat)} {r x q : Addr} {m : List Nat} {d : Nat} (h : WlL C CR CL H ks X rs ys) (w : WallAt C CR CL H r x q ks X m d) (hd : d ∈ ks) (km : ∀ c ∈ m, c ∈ ks) (lm : m.length ≤ 2000) : WlL C CR CL H ks X (rs ++ [r]) (ys ++ [m ++ [d]]) := by
  refine ⟨by rw [List.length_append, List.length_append, h.len]; rfl, fun i r' y' e1 e2 => ?_⟩
  by_cases c : i < rs.length
  · rw [List.getElem?_append_left c] at e1
    rw [List.getElem?_append_left (by rw [← h.len]; exact c)] at e2
    exact h.at_ i r' y' e1 e2
  · rw [List.getElem?_append_right (by omega)] at e1
    rw [List.getElem?_append_right (by rw [← h.len]; omega), ← h.len] at e2
    have e0 : i - rs.length = 0 := by
      have := (List.getElem?_eq_some_iff.mp e1).1
      simp only [List.length_cons, List.length_nil] at this
      omega
    rw [e0] at e1 e2
    cases e1
    cases e2
    exact ⟨x, q, m, d, rfl, w, hd, km, lm⟩
def spWallsOn (K : PySem.W.Frag) (C CR CL : Addr) : Sp := fun vs H Q _ => ∃ (p l : Addr) (ks : List Nat) (X : Nat → Nat → Bool) (n way : List Nat), vs = [.ref p, .str (S n), .str (S way), .ref l] ∧ PlanAt C H p ks X ∧ (∀ c ∈ n, c ∈ ks) ∧ (∀ c ∈ way, c ∈ ks) ∧ n.length ≤ 400 ∧ way.length ≤ 800 ∧ SqL K H l (rgV 0 (way.length : Int)) ∧ (txL ks X n way).Nodup ∧
  ∀ (D : Addr) (rs : List Addr) (ys : List (List Nat)) (H' : Hp), ys.Perm (txL ks X n way) → ys.Pairwise ltA → H' D = some (.lst (rs.map V.ref)) → WlL C CR CL H' ks X rs ys → H D = none → L2.Same H H' → Q (.ref D) H'
section
variable {P : Program} {w : World} {K : PySem.W.Frag} {mg : Str → Option Value} {base : Heap} {C CR CL : Addr}
end
end TX
end
section
set_option maxRecDepth 100000
set_option maxHeartbeats 8000000
/-! texts of walls; a wall made at a room -/
namespace TX
open PySem PySem.Spec PyProof.Rows L2 SX CW
theorem walk_enumS {x : Str} : Walk (ItE x) x.cps.size (fun _ => True) (fun i H v H' => ∃ (T : Addr) (c : Nat), v = .ref T ∧ H T = none ∧ H' = upd H T (.tup [.int (i : Nat), .str ⟨#[c]⟩]) ∧ x.cps[i]? = some c) :=
  ⟨fun _ _ hi _ => hi, fun _ _ => rfl, fun _ _ _ _ _ _ y => y⟩
theorem fol_lettersA {ks : List Nat} {X : Nat → Nat → Bool} : ∀ (w n : List Nat), (∀ c ∈ n, c ∈ ks) → (∀ c ∈ w, c ∈ ks) → ∀ c ∈ fol ks X n w, c ∈ ks
  | [], _, kn, _ => kn
  | k :: w, n, kn, kw => fol_lettersA w (beh ks X n k) (beh_letters kn (kw k List.mem_cons_self)) fun c hc => kw c (List.mem_cons_of_mem _ hc)
theorem txL_ok {ks : List Nat} {X : Nat → Nat → Bool} : ∀ (w n : List Nat), (∀ c ∈ n, c ∈ ks) → (∀ c ∈ w, c ∈ ks) → ∀ y ∈ txL ks X n w, ∃ m d, y = toD ks X m d ++ [d] ∧ d ∈ ks ∧ (∀ c ∈ m, c ∈ ks) ∧ m.length ≤ n.length + w.length
  | [], _, _, _, y, h => by cases h
  | k :: w, n, kn, kw, y, h => by
    have hk := kw k List.mem_cons_self
    rcases List.mem_cons.mp h with e | h
    · exact ⟨n, k, e, hk, kn, by omega⟩
    · have lb := beh_length ks X n k
      obtain ⟨m, d, a, b, c, l⟩ := txL_ok w (beh ks X n k) (beh_letters kn hk) (fun c hc => kw c (List.mem_cons_of_mem _ hc)) y h
      exact ⟨m, d, a, b, c, by rw [List.length_cons]; omega⟩
theorem mk_wallS {C CR CL : Addr} {H : Hp} {x dx b p : Addr} {ks : List Nat} {X : Nat → Nat → Bool} {n : List Nat} {d : Nat} {Q : VK} (hx : H x = none) (hdx : H dx = none) (hb : RoomAt C CR H b p ks X n) (hd : d ∈ ks) (hn : ∀ c ∈ n, c ∈ ks) (ln : n.length ≤ 2000)
    (q : ∀ H' y, WallAt C CR CL H' x y p ks X (toD ks X n d) d → L2.Same H H' → Q .non H') : spWallInit C CR CL [.ref x, .ref b, .str (S [d])] (upd (upd H dx (.own x)) x (.ins CL dx [])) Q C8.E0 :=
  ⟨x, dx, b, p, ks, X, n, d, rfl, upd_same, hb.same (same_born hx hdx), hd, hn, ln, fun H' y bt hw => q H' y hw (born_same hx hdx bt)⟩
end TX
end
section
/-! How two walls lie: the product of their vectors. -/
namespace CW
variable {X : Nat → Nat → Bool} {ks : List Nat}
/-- the product of two doors of home -/
def gB (X : Nat → Nat → Bool) (i j : Nat) : Int := if i = j then 1 else if X i j = true then 0 else -1
theorem gB_sym (cr : Crossing X) (i j : Nat) : gB X i j = gB X j i := by
  unfold gB
  rw [cr.sym i j]
  by_cases h : i = j
  · rw [if_pos h, if_pos h.symm]
  · rw [if_neg h, if_neg (fun z : j = i => h z.symm)]
/-- the product of a door of home and a vector -/
def bf (ks : List Nat) (X : Nat → Nat → Bool) (d : Nat) (v : Vec) : Int := (ks.map fun j => gB X d j * v j).sum
theorem sum_sub2 {x z y : Nat → Int} (c : Int) : ∀ l : List Nat, (l.map fun i => y i * (x i - c * z i)).sum = (l.map fun i => y i * x i).sum - c * (l.map fun i => y i * z i).sum
  | [] => by simp
  | a :: l => by
    rw [List.map_cons, List.sum_cons, List.map_cons, List.sum_cons, List.map_cons, List.sum_cons, sum_sub2 c l, Int.mul_sub, Int.mul_add, Int.mul_left_comm c (y a) (z a)]
    omega
theorem sum_ext {x y : Nat → Int} {l : List Nat} (h : ∀ i ∈ l, x i = y i) : (l.map x).sum = (l.map y).sum := by
  rw [List.map_congr_left h]
/-- one door more -/
theorem mr_snoc (cr : Crossing X) (nd : ks.Nodup) {r : List Nat} {k c : Nat} (hk : k ∈ ks) (hc : c ∈ ks) (hr : ∀ x ∈ r, x ∈ ks) (j : Nat) : mr X (r ++ [c]) k j = mr X r k j - 2 * bf ks X c (mr X r k) * unitV c j := by
  have e : ∀ i, mr X [c] i j = unitV i j - (2 * unitV c j) * gB X c i := fun i => by
    show (if i = c then -(unitV c j) else if X c i = true then unitV i j else unitV i j + 2 * unitV c j) = _
    unfold gB
    by_cases h : i = c
    · subst h
      rw [if_pos rfl, if_pos rfl]
      omega
    · rw [if_neg h, if_neg (fun z : c = i => h z.symm)]
      by_cases x : X c i = true
      · rw [if_pos x, if_pos x]
        omega
      · rw [if_neg x, if_neg x]
        omega
  rw [mr_lin nd [c] r k hk hr j, sum_ext (fun i _ => by rw [e i]), sum_sub2 (2 * unitV c j) ks]
  have e1 : (ks.map fun i => mr X r k i * unitV i j).sum = mr X r k j := by
    by_cases hj : j ∈ ks
    · exact sum_unitR nd hj
    · rw [mr_supp r k hk hr j hj]
      have : ∀ l : List Nat, (∀ i ∈ l, i ∈ ks) → (l.map fun i => mr X r k i * unitV i j).sum = 0 := by
        intro l
        induction l with
        | nil => intro _; rfl
        | cons a l ih =>
          intro h
          rw [List.map_cons, List.sum_cons, ih fun i hi => h i (List.mem_cons_of_mem _ hi), show unitV a j = 0 from if_neg fun z => hj (by rw [← z]; exact h a List.mem_cons_self)]
          omega
      exact this ks fun _ h => h
  have e2 : (ks.map fun i => mr X r k i * gB X c i).sum = bf ks X c (mr X r k) := by
    unfold bf
    exact sum_ext fun i _ => Int.mul_comm _ _
  rw [e1, e2, Int.mul_assoc, Int.mul_assoc, Int.mul_comm (unitV c j)]
theorem bf_unit (nd : ks.Nodup) {c d : Nat} (hc : c ∈ ks) : bf ks X d (unitV c) = gB X d c := by
  unfold bf
  rw [sum_ext (fun j _ => Int.mul_comm _ _)]
  exact sum_unit (f := fun j => gB X d j) nd hc
theorem bf_ext {d : Nat} {v w : Vec} (h : ∀ j ∈ ks, v j = w j) : bf ks X d v = bf ks X d w := sum_ext fun j hj => by rw [h j hj]
theorem bf_neg {d : Nat} {v w : Vec} (h : ∀ j ∈ ks, v j = -(w j)) : bf ks X d v = -(bf ks X d w) := by
  unfold bf
  rw [sum_ext (fun j hj => by rw [h j hj])]
  have : ∀ l : List Nat, (l.map fun j => gB X d j * -(w j)).sum = -(l.map fun j => gB X d j * w j).sum := by
    intro l
    induction l with
    | nil => rfl
    | cons a l ih =>
      rw [List.map_cons, List.sum_cons, List.map_cons, List.sum_cons, ih, Int.neg_add, Int.mul_neg]
  exact this ks
theorem bf_snoc (cr : Crossing X) (nd : ks.Nodup) {r : List Nat} {k c d : Nat} (hk : k ∈ ks) (hc : c ∈ ks) (hr : ∀ x ∈ r, x ∈ ks) : bf ks X d (mr X (r ++ [c]) k) = bf ks X d (mr X r k) - 2 * bf ks X c (mr X r k) * gB X d c := by
  unfold bf
  rw [sum_ext (fun j _ => by rw [mr_snoc cr nd hk hc hr j]), sum_sub2 _ ks]
  have e := bf_unit (X := X) (d := d) nd hc
  unfold bf at e
  rw [e]
  rfl
theorem red_pre {m : List Nat} : ∀ {l : List Nat}, red X (l ++ m) = true → red X l = true
  | [], _ => rfl
  | a :: l, h => by
    have h' : (!rd X (l ++ m) a && red X (l ++ m)) = true := h
    rw [Bool.and_eq_true, Bool.not_eq_true'] at h'
    show (!rd X l a && red X l) = true
    rw [rd_left h'.1, red_pre h'.2]
    rfl
theorem red_rev (cr : Crossing X) : ∀ {w : List Nat}, red X w = true → red X w.reverse = true
  | [], _ => rfl
  | c :: w, h => by
    have h' : (!rd X w c && red X w) = true := h
    rw [Bool.and_eq_true, Bool.not_eq_true'] at h'
    rw [List.reverse_cons]
    exact red_in cr (q := []) (fun c h => by cases h) (by rw [List.reverse_reverse]; exact h'.1) (by rw [List.append_nil]; exact red_rev cr h'.2)
theorem red_front (cr : Crossing X) {u : List Nat} {a : Nat} (h : red X (a :: u).reverse = true) : rd X u a = false ∧ red X u.reverse = true := by
  have z := red_rev cr h
  rw [List.reverse_reverse] at z
  have z' : (!rd X u a && red X u) = true := z
  rw [Bool.and_eq_true, Bool.not_eq_true'] at z'
  exact ⟨z'.1, red_rev cr z'.2⟩
theorem rd_more {k : Nat} {m : List Nat} : ∀ {l : List Nat}, rd X l k = true → rd X (l ++ m) k = true
  | [], h => by cases h
  | o :: l, h => by
    have z : ((o == k) || (X o k && rd X l k)) = true := h
    show ((o == k) || (X o k && rd X (l ++ m) k)) = true
    rw [Bool.or_eq_true, Bool.and_eq_true] at z ⊢
    exact z.imp id fun ⟨z1, z2⟩ => ⟨z1, rd_more z2⟩
/-- a door of a wall that is told least is told by no letter along it -/
def lst (ks : List Nat) (X : Nat → Nat → Bool) (u : List Nat) (k : Nat) : Prop := ∀ c ∈ alo ks X k, rd X u.reverse c = false
theorem lst_tail {u : List Nat} {a k : Nat} (h : lst ks X (a :: u) k) : lst ks X u k := fun c hc => by
  have z := h c hc
  rw [List.reverse_cons] at z
  exact rd_left z
theorem lst_one {a k : Nat} (h : lst ks X [a] k) (ha : a ∈ alo ks X k) : False := by
  have z := h a ha
  rw [show [a].reverse = [a] from rfl, first_rd] at z
  cases z
theorem cross_zero (cr : Crossing X) (nd : ks.Nodup) {k d : Nat} (hk : k ∈ ks) (xd : X d k = true) : ∀ u : List Nat, (∀ c ∈ u, c ∈ ks) → (∀ c ∈ u, X d c = true) → bf ks X d (mr X u.reverse k) = 0
  | [], _, _ => by
    show bf ks X d (unitV k) = 0
    rw [bf_unit nd hk]
    unfold gB
    rw [if_neg (cr.ne xd), if_pos xd]
  | a :: u, h, x => by
    rw [List.reverse_cons, bf_snoc cr nd hk (h a List.mem_cons_self) fun c hc => h c (List.mem_cons_of_mem _ (List.mem_reverse.mp hc))]
    rw [cross_zero cr nd hk xd u (fun c hc => h c (List.mem_cons_of_mem _ hc)) fun c hc => x c (List.mem_cons_of_mem _ hc)]
    have xa := x a List.mem_cons_self
    unfold gB
    rw [if_neg (cr.ne xa), if_pos xa]
    omega
/-- the products of a wall and the doors of a room from which it is not seen behind the door -/
theorem lie_one (cr : Crossing X) (nd : ks.Nodup) {k : Nat} (hk : k ∈ ks) : ∀ u : List Nat, (∀ c ∈ u, c ∈ ks) → red X u.reverse = true → lst ks X u k →
    (∀ d ∈ ks, rd X u d = false → (u = [] ∧ d = k ∧ bf ks X d (mr X u.reverse k) = 1) ∨ ((∀ c ∈ u, X d c = true) ∧ X d k = true ∧ bf ks X d (mr X u.reverse k) = 0) ∨ bf ks X d (mr X u.reverse k) ≤ -1) ∧
    (∀ a ∈ ks, ∀ d ∈ ks, a ≠ d → X a d = false → bf ks X a (mr X u.reverse k) + bf ks X d (mr X u.reverse k) ≤ 0)
  | [], _, _, _ => by
    have e : ∀ d, bf ks X d (mr X [] k) = gB X d k := fun d => bf_unit nd hk
    constructor
    · intro d hd _
      show _ ∨ _ ∨ bf ks X d (mr X [] k) ≤ -1
      by_cases z : d = k
      · refine .inl ⟨rfl, z, ?_⟩
        show bf ks X d (mr X [] k) = 1
        rw [e]
        exact if_pos z
      · by_cases x : X d k = true
        · refine .inr (.inl ⟨(fun c h => by cases h), x, ?_⟩)
          show bf ks X d (mr X [] k) = 0
          rw [e]
          unfold gB
          rw [if_neg z, if_pos x]
        · refine .inr (.inr ?_)
          rw [e]
          unfold gB
          rw [if_neg z, if_neg x]
          omega
    · intro a ha d hd ne x
      show bf ks X a (mr X [] k) + bf ks X d (mr X [] k) ≤ 0
      rw [e, e]
      unfold gB
      by_cases za : a = k
      · subst za
        rw [if_pos rfl, if_neg (fun z => ne z.symm), cr.sym, x]
        simp
      · rw [if_neg za]
        by_cases zd : d = k
        · subst zd
          rw [if_pos rfl, x]
          simp
        · rw [if_neg zd]
          split <;> split <;> omega
  | a :: u, h, r, l => by
    have ha := h a List.mem_cons_self
    have hu := fun c hc => h c (List.mem_cons_of_mem _ hc)
    have hur : ∀ c ∈ u.reverse, c ∈ ks := fun c hc => hu c (List.mem_reverse.mp hc)
    obtain ⟨ra, ru⟩ := red_front cr r
    have lu := lst_tail l
    obtain ⟨I, II⟩ := lie_one cr nd hk u hu ru lu
    have st : ∀ d, bf ks X d (mr X (a :: u).reverse k) = bf ks X d (mr X u.reverse k) - 2 * bf ks X a (mr X u.reverse k) * gB X d a := fun d => by
      rw [List.reverse_cons]
      exact bf_snoc cr nd hk ha hur
    -- behind its first letter
    have ba : bf ks X a (mr X u.reverse k) ≤ -1 := by
      rcases I a ha ra with ⟨e1, e2, _⟩ | ⟨e1, e2, _⟩ | z
      · subst e1
        exact absurd (lst_one l (by rw [e2]; exact List.mem_cons_self)) id
      · have z := l a (List.mem_cons_of_mem _ (List.mem_filter.mpr ⟨ha, by rw [cr.sym]; exact e2⟩))
        rw [List.reverse_cons, rd_end cr fun c hc => by rw [cr.sym]; exact e1 c (List.mem_reverse.mp hc)] at z
        cases z
      · exact z
    have gx : ∀ d, X d a = true → bf ks X d (mr X (a :: u).reverse k) = bf ks X d (mr X u.reverse k) := fun d x => by
      rw [st d]
      unfold gB
      rw [if_neg (cr.ne x), if_pos x]
      omega
    have gn : ∀ d, d ≠ a → X d a = false → bf ks X d (mr X (a :: u).reverse k) = bf ks X d (mr X u.reverse k) + 2 * bf ks X a (mr X u.reverse k) := fun d n x => by
      rw [st d]
      unfold gB
      rw [if_neg n, x, if_neg (by simp)]
      omega
    have gs : bf ks X a (mr X (a :: u).reverse k) = -(bf ks X a (mr X u.reverse k)) := by
      rw [st a]
      unfold gB
      rw [if_pos rfl]
      omega
    constructor
    · intro d hd q
      have q' : ((a == d) || (X a d && rd X u d)) = false := q
      rw [Bool.or_eq_false_iff, beq_eq_false_iff_ne] at q'
      obtain ⟨n, q2⟩ := q'
      cases x : X a d with
      | true =>
        have x' : X d a = true := by rw [cr.sym]; exact x
        rw [x, Bool.true_and] at q2
        rw [gx d x']
        rcases I d hd q2 with ⟨e1, e2, _⟩ | ⟨e1, e2, e3⟩ | z
        · subst e1
          subst e2
          exact absurd (lst_one l (List.mem_cons_of_mem _ (List.mem_filter.mpr ⟨ha, x'⟩))) id
        · refine .inr (.inl ⟨fun c hc => ?_, e2, e3⟩)
          rcases List.mem_cons.mp hc with z | z
          · rw [z]; exact x'
          · exact e1 c z
        · exact .inr (.inr z)
      | false =>
        have x' : X d a = false := by rw [cr.sym]; exact x
        rw [gn d (fun z => n z.symm) x']
        have := II a ha d hd n x
        refine .inr (.inr ?_)
        omega
    · intro p hp d hd ne x
      by_cases zp : p = a
      · subst zp
        rw [gs, gn d (fun z => ne z.symm) (by rw [cr.sym]; exact x)]
        have := II p hp d hd ne x
        omega
      · by_cases zd : d = a
        · subst zd
          rw [gs, gn p zp x]
          have := II p hp d hd ne x
          omega
        · have i2 := II p hp d hd ne x
          cases xp : X p a with
          | true =>
            rw [gx p xp]
            cases xd : X d a with
            | true => rw [gx d xd]; exact i2
            | false => rw [gn d zd xd]; omega
          | false =>
            rw [gn p zp xp]
            cases xd : X d a with
            | true => rw [gx d xd]; omega
            | false => rw [gn d zd xd]; omega
end CW
end
section
namespace CW
variable {X : Nat → Nat → Bool} {ks : List Nat}
theorem bf_pass (cr : Crossing X) (nd : ks.Nodup) {k d : Nat} (hk : k ∈ ks) {r : List Nat} (hr : ∀ c ∈ r, c ∈ ks) : ∀ p : List Nat, (∀ c ∈ p, c ∈ ks) → (∀ c ∈ p, X c d = true) → bf ks X d (mr X (r ++ p.reverse) k) = bf ks X d (mr X r k)
  | [], _, _ => by rw [List.reverse_nil, List.append_nil]
  | a :: p, h, x => by
    have hp := fun c hc => h c (List.mem_cons_of_mem a hc)
    have xa : X d a = true := by rw [cr.sym]; exact x a List.mem_cons_self
    rw [List.reverse_cons, ← List.append_assoc, bf_snoc cr nd hk (h a List.mem_cons_self) (in_app hr (in_rev hp)), bf_pass cr nd hk hr p hp fun c hc => x c (List.mem_cons_of_mem _ hc)]
    unfold gB
    rw [if_neg (cr.ne xa), if_pos xa]
    omega
theorem lie4 (cr : Crossing X) (nd : ks.Nodup) {k d : Nat} (hk : k ∈ ks) (hd : d ∈ ks) {u : List Nat} (h : ∀ c ∈ u, c ∈ ks) (r : red X u.reverse = true) (l : lst ks X u k) :
    ((∀ c ∈ u, X d c = true) ∧ X d k = true ∧ bf ks X d (mr X u.reverse k) = 0) ∨ (u = [] ∧ d = k ∧ bf ks X d (mr X u.reverse k) = 1) ∨ (rd X u d = true ∧ 1 ≤ bf ks X d (mr X u.reverse k)) ∨ (rd X u d = false ∧ bf ks X d (mr X u.reverse k) ≤ -1) := by
  cases e : rd X u d with
  | false =>
    rcases (lie_one cr nd hk u h r l).1 d hd e with z | z | z
    · exact .inr (.inl z)
    · exact .inl z
    · exact .inr (.inr (.inr ⟨rfl, z⟩))
  | true =>
    obtain ⟨p, q, rfl, xp⟩ := rd_split e
    have hp : ∀ c ∈ p, c ∈ ks := fun c hc => h c (List.mem_append_left _ hc)
    have hq : ∀ c ∈ q, c ∈ ks := fun c hc => h c (List.mem_append_right _ (List.mem_cons_of_mem _ hc))
    have er : (p ++ d :: q).reverse = (d :: q).reverse ++ p.reverse := List.reverse_append
    have hdq : ∀ c ∈ (d :: q).reverse, c ∈ ks := in_rev fun c hc => (List.mem_cons.mp hc).elim (fun z => by rw [z]; exact hd) (hq c)
    have r2 : red X (d :: q).reverse = true := by rw [er] at r; exact red_pre r
    obtain ⟨rq, r3⟩ := red_front cr r2
    have lq : lst ks X q k := lst_tail (a := d) fun c hc => by
      have z := l c hc
      rw [er] at z
      exact rd_left z
    have e1 : bf ks X d (mr X (p ++ d :: q).reverse k) = -(bf ks X d (mr X q.reverse k)) := by
      rw [er, bf_pass cr nd hk hdq p hp xp, List.reverse_cons, bf_snoc cr nd hk hd (in_rev hq)]
      unfold gB
      rw [if_pos rfl]
      omega
    refine .inr (.inr (.inl ⟨rfl, ?_⟩))
    rw [e1]
    rcases (lie_one cr nd hk q hq r3 lq).1 d hd rq with ⟨z1, z2, _⟩ | ⟨z1, z2, _⟩ | z
    · exfalso
      subst z1
      have z := l d (by rw [z2]; exact List.mem_cons_self)
      rw [er, show [d].reverse = [d] from rfl, rd_more first_rd] at z
      cases z
    · exfalso
      have z := l d (List.mem_cons_of_mem _ (List.mem_filter.mpr ⟨hd, by rw [cr.sym]; exact z2⟩))
      rw [er, List.reverse_cons, rd_more (rd_end cr fun c hc => by rw [cr.sym]; exact z1 c (List.mem_reverse.mp hc))] at z
      cases z
    · omega
theorem along_cross (cr : Crossing X) {k d : Nat} (hd : d ∈ ks) (x : X d k = true) : ∀ u : List Nat, lst ks X u k → (∀ c ∈ u, c ∈ alo ks X d) → ∀ c ∈ u, X d c = true
  | [], _, _ => fun c h => by cases h
  | a :: u, l, h => by
    have ih := along_cross cr hd x u (lst_tail l) fun c hc => h c (List.mem_cons_of_mem _ hc)
    intro c hc
    rcases List.mem_cons.mp hc with z | z
    · subst z
      rcases List.mem_cons.mp (h c List.mem_cons_self) with y | y
      · exfalso
        subst y
        have w := l c (List.mem_cons_of_mem _ (List.mem_filter.mpr ⟨hd, by rw [cr.sym]; exact x⟩))
        rw [List.reverse_cons, rd_end cr fun b hb => by rw [cr.sym]; exact ih b (List.mem_reverse.mp hb)] at w
        cases w
      · exact (List.mem_filter.mp y).2
    · exact ih c z
theorem letters_cross (cr : Crossing X) (nd : ks.Nodup) {k d : Nat} (hk : k ∈ ks) (hd : d ∈ ks) {u : List Nat} (h : ∀ c ∈ u, c ∈ ks) (r : red X u.reverse = true) (l : lst ks X u k) : (X d k = true ∧ ∀ c ∈ u, c ∈ alo ks X d) ↔ bf ks X d (mr X u.reverse k) = 0 := by
  constructor
  · rintro ⟨x, g⟩
    exact cross_zero cr nd hk x u h (along_cross cr hd x u l g)
  · intro z
    rcases lie4 cr nd hk hd h r l with ⟨x1, x2, _⟩ | ⟨_, _, y⟩ | ⟨_, y⟩ | ⟨_, y⟩
    · exact ⟨x2, fun c hc => List.mem_cons_of_mem _ (List.mem_filter.mpr ⟨h c hc, x1 c hc⟩)⟩
    all_goals omega
theorem rd_snoc {k a : Nat} : ∀ {l : List Nat}, rd X (l ++ [a]) k = true → rd X l k = true ∨ (a = k ∧ ∀ c ∈ l, X c k = true)
  | [], h => by
    have z : ((a == k) || (X a k && false)) = true := h
    rw [Bool.and_false, Bool.or_false, beq_iff_eq] at z
    exact .inr ⟨z, fun c h => by cases h⟩
  | o :: l, h => by
    have z : ((o == k) || (X o k && rd X (l ++ [a]) k)) = true := h
    show ((o == k) || (X o k && rd X l k)) = true ∨ _
    rw [Bool.or_eq_true, Bool.and_eq_true] at z ⊢
    rcases z with z | ⟨z1, z2⟩
    · exact .inl (.inl z)
    · rcases rd_snoc z2 with w | ⟨w1, w2⟩
      · exact .inl (.inr ⟨z1, w⟩)
      · refine .inr ⟨w1, fun c hc => ?_⟩
        rcases List.mem_cons.mp hc with y | y
        · rw [y]; exact z1
        · exact w2 c y
theorem rd_par {x : Nat} : ∀ (r lo : List Nat), (∀ c ∈ lo, X c x = true) → rd X r x = false → rd X (par X lo r) x = false
  | [], lo, _, h => by unfold par; exact h
  | a :: r, lo, hl, h => by
    have z : ((a == x) || (X a x && rd X r x)) = false := h
    rw [Bool.or_eq_false_iff] at z
    cases e : lo.contains a with
    | true =>
      rw [par_cons_in e]
      have z2 := z.2
      rw [hl a (List.contains_iff_mem.mp e), Bool.true_and] at z2
      exact rd_par r lo hl z2
    | false =>
      rw [par_cons_out e]
      show ((a == x) || (X a x && rd X (par X (lo.filter (X a)) r) x)) = false
      rw [z.1, Bool.false_or]
      cases xx : X a x with
      | false => rfl
      | true =>
        have z2 := z.2
        rw [xx, Bool.true_and] at z2
        rw [rd_par r _ (fun c hc => hl c (List.mem_filter.mp hc).1) z2]
        rfl
theorem par_red (cr : Crossing X) : ∀ (r lo : List Nat), red X r = true → red X (par X lo r) = true
  | [], lo, h => by unfold par; exact h
  | a :: r, lo, h => by
    have z : (!rd X r a && red X r) = true := h
    rw [Bool.and_eq_true, Bool.not_eq_true'] at z
    cases e : lo.contains a with
    | true =>
      rw [par_cons_in e]
      exact par_red cr r lo z.2
    | false =>
      rw [par_cons_out e]
      show (!rd X (par X (lo.filter (X a)) r) a && red X (par X (lo.filter (X a)) r)) = true
      rw [par_red cr r _ z.2, rd_par r _ (fun c hc => by rw [cr.sym]; exact (List.mem_filter.mp hc).2) z.1]
      rfl
/-- what is kept or may be moved -/
theorem par_or : ∀ (r lo : List Nat), ∀ c ∈ r, c ∈ lo ∨ c ∈ par X lo r
  | [], _, c, h => by cases h
  | a :: r, lo, c, h => by
    cases e : lo.contains a with
    | true =>
      rw [par_cons_in e]
      rcases List.mem_cons.mp h with z | z
      · rw [z]; exact .inl (List.contains_iff_mem.mp e)
      · exact par_or r lo c z
    | false =>
      rw [par_cons_out e]
      rcases List.mem_cons.mp h with z | z
      · rw [z]; exact .inr List.mem_cons_self
      · rcases par_or r (lo.filter (X a)) c z with y | y
        · exact .inl (List.mem_filter.mp y).1
        · exact .inr (List.mem_cons_of_mem _ y)
theorem par_front (cr : Crossing X) {d : Nat} : ∀ (r lo : List Nat), rd X (par X lo r).reverse d = true → rd X r.reverse d = true
  | [], lo, h => by unfold par at h; exact h
  | c :: r, lo, h => by
    rw [List.reverse_cons]
    cases e : lo.contains c with
    | true =>
      rw [par_cons_in e] at h
      exact rd_more (par_front cr r lo h)
    | false =>
      rw [par_cons_out e, List.reverse_cons] at h
      rcases rd_snoc h with z | ⟨z1, z2⟩
      · exact rd_more (par_front cr r _ z)
      · subst z1
        refine rd_end cr fun b hb => ?_
        rcases par_or r (lo.filter (X c)) b (List.mem_reverse.mp hb) with y | y
        · rw [cr.sym]; exact (List.mem_filter.mp y).2
        · exact z2 b (List.mem_reverse.mpr y)
theorem par_front2 (cr : Crossing X) {d : Nat} : ∀ (r lo : List Nat), rd X r.reverse d = true → rd X (par X lo r).reverse d = true ∨ (d ∈ lo ∧ ∀ c ∈ par X lo r, X c d = true)
  | [], lo, h => by unfold par; exact .inl h
  | c :: r, lo, h => by
    rw [List.reverse_cons] at h
    cases e : lo.contains c with
    | true =>
      rw [par_cons_in e]
      rcases rd_snoc h with z | ⟨z1, z2⟩
      · exact par_front2 cr r lo z
      · subst z1
        exact .inr ⟨List.contains_iff_mem.mp e, fun b hb => z2 b (List.mem_reverse.mpr (par_in _ _ b hb))⟩
    | false =>
      rw [par_cons_out e, List.reverse_cons]
      rcases rd_snoc h with z | ⟨z1, z2⟩
      · rcases par_front2 cr r (lo.filter (X c)) z with y | ⟨y1, y2⟩
        · exact .inl (rd_more y)
        · obtain ⟨m1, m2⟩ := List.mem_filter.mp y1
          refine .inr ⟨m1, fun b hb => ?_⟩
          rcases List.mem_cons.mp hb with q | q
          · rw [q]; exact m2
          · exact y2 b q
      · subst z1
        exact .inl (rd_end cr fun b hb => z2 b (List.mem_reverse.mpr (par_in _ _ b (List.mem_reverse.mp hb))))
/-- the product of two vectors -/
def prodB (ks : List Nat) (X : Nat → Nat → Bool) (v w : Vec) : Int := (ks.map fun i => v i * bf ks X i w).sum
theorem sum_add2 {x y : Nat → Int} : ∀ l : List Nat, (l.map fun i => x i + y i).sum = (l.map x).sum + (l.map y).sum
  | [] => rfl
  | a :: l => by
    rw [List.map_cons, List.sum_cons, List.map_cons, List.sum_cons, List.map_cons, List.sum_cons, sum_add2 l]
    omega
theorem sum_mul {x : Nat → Int} (c : Int) : ∀ l : List Nat, c * (l.map x).sum = (l.map fun i => c * x i).sum
  | [] => by simp
  | a :: l => by
    rw [List.map_cons, List.sum_cons, List.map_cons, List.sum_cons, Int.mul_add, sum_mul c l]
theorem sum_swap (f : Nat → Nat → Int) (m : List Nat) : ∀ l : List Nat, (l.map fun i => (m.map fun j => f i j).sum).sum = (m.map fun j => (l.map fun i => f i j).sum).sum
  | [] => by
    rw [List.map_nil, List.sum_nil]
    induction m with
    | nil => rfl
    | cons a m ih => rw [List.map_cons, List.sum_cons, ← ih]; rfl
  | a :: l => by
    rw [List.map_cons, List.sum_cons, sum_swap f m l, ← sum_add2]
    exact sum_ext fun j _ => by rw [List.map_cons, List.sum_cons]
theorem prod_sym (cr : Crossing X) (v w : Vec) : prodB ks X v w = prodB ks X w v := by
  unfold prodB bf
  rw [sum_ext fun i _ => sum_mul (v i) ks, sum_swap]
  refine sum_ext fun j _ => ?_
  rw [sum_mul]
  refine sum_ext fun i _ => ?_
  rw [gB_sym cr i j, Int.mul_left_comm, Int.mul_comm (v i), ← Int.mul_assoc, Int.mul_comm (gB X j i), Int.mul_assoc]
theorem bf_col (cr : Crossing X) (c : Nat) (m : Vec) : (ks.map fun i => m i * gB X i c).sum = bf ks X c m := by
  unfold bf
  exact sum_ext fun i _ => by rw [gB_sym cr, Int.mul_comm]
/-- the product of the vectors of two walls, seen from a room of the one -/
theorem prod_mr (cr : Crossing X) (nd : ks.Nodup) {k d : Nat} (hk : k ∈ ks) (hd : d ∈ ks) : ∀ (U r : List Nat), (∀ c ∈ U, c ∈ ks) → (∀ c ∈ r, c ∈ ks) → prodB ks X (mr X U.reverse d) (mr X r k) = bf ks X d (mr X (r ++ U) k)
  | [], r, _, _ => by
    rw [List.append_nil]
    exact sum_unit (f := fun i => bf ks X i (mr X r k)) nd hd
  | c :: U, r, hU, hr => by
    have hc := hU c List.mem_cons_self
    have hU' := fun x hx => hU x (List.mem_cons_of_mem c hx)
    have hrc : ∀ x ∈ r ++ [c], x ∈ ks := in_app hr fun x hx => by rw [List.mem_singleton.mp hx]; exact hc
    have ih := prod_mr cr nd hk hd U (r ++ [c]) hU' hrc
    rw [List.append_assoc] at ih
    show _ = bf ks X d (mr X (r ++ ([c] ++ U)) k)
    rw [← ih]
    have e1 : (ks.map fun i => bf ks X i (mr X r k) * unitV c i).sum = bf ks X c (mr X r k) := by
      rw [sum_ext fun i _ => Int.mul_comm _ _]
      exact sum_unit (f := fun i => bf ks X i (mr X r k)) nd hc
    have a1 : (ks.map fun i => mr X (c :: U).reverse d i * bf ks X i (mr X r k)).sum = (ks.map fun i => bf ks X i (mr X r k) * mr X U.reverse d i).sum - 2 * bf ks X c (mr X U.reverse d) * bf ks X c (mr X r k) := by
      rw [sum_ext fun i _ => by rw [List.reverse_cons, mr_snoc cr nd hd hc (in_rev hU') i, Int.mul_comm], sum_sub2, e1]
    have a2 : (ks.map fun i => mr X U.reverse d i * bf ks X i (mr X (r ++ [c]) k)).sum = (ks.map fun i => mr X U.reverse d i * bf ks X i (mr X r k)).sum - 2 * bf ks X c (mr X r k) * bf ks X c (mr X U.reverse d) := by
      rw [sum_ext (x := fun i => mr X U.reverse d i * bf ks X i (mr X (r ++ [c]) k)) (y := fun i => mr X U.reverse d i * (bf ks X i (mr X r k) - (2 * bf ks X c (mr X r k)) * gB X i c)) (fun i _ => by rw [bf_snoc cr nd hk hc hr]), sum_sub2, bf_col cr]
    show (ks.map fun i => mr X (c :: U).reverse d i * bf ks X i (mr X r k)).sum = (ks.map fun i => mr X U.reverse d i * bf ks X i (mr X (r ++ [c]) k)).sum
    rw [a1, a2, sum_ext fun i _ => Int.mul_comm (bf ks X i (mr X r k)) _, Int.mul_assoc, Int.mul_assoc, Int.mul_comm (bf ks X c (mr X U.reverse d))]
end CW
end
section
namespace CW
variable {X : Nat → Nat → Bool} {ks : List Nat}
theorem root_odd {r : List Nat} {k : Nat} : mr X r k k % 2 = 1 := by
  have := mr_odd (X := X) r k k
  rw [show unitV k k = 1 from if_pos rfl] at this
  omega
theorem root_kind {r s : List Nat} {k d : Nat} (h : mr X r d k = mr X s k k ∨ mr X r d k = -(mr X s k k)) : d = k := by
  have h1 := mr_odd (X := X) r d k
  have h2 := root_odd (X := X) (r := s) (k := k)
  by_cases e : d = k
  · exact e
  · exfalso
    rw [show unitV d k = 0 from if_neg e] at h1
    omega
/-- what is beyond a wall, told by signs -/
theorem bey_sign (cr : Crossing X) {V z : List Nat} {k : Nat} (hk : k ∈ ks) (kV : ∀ c ∈ V, c ∈ ks) (kz : ∀ c ∈ z, c ∈ ks) (rV : red X V.reverse = true) : rd X (fol ks X V.reverse z) k = true ↔ ∃ j ∈ ks, mr X (V.reverse ++ z) k j < 0 := by
  rw [← mr_fol0 (ks := ks) cr z V.reverse]
  exact (back_iff cr (fol_red cr z V.reverse (in_rev kV) kz rV) hk).symm
/-- a wall's side does not change along another one that it does not cross -/
theorem along_sign (cr : Crossing X) (nd : ks.Nodup) {k d : Nat} (hk : k ∈ ks) (hd : d ∈ ks) : ∀ (t r : List Nat), (∀ c ∈ r, c ∈ ks) → (∀ c ∈ t, c ∈ alo ks X d) → bf ks X d (mr X r k) ≠ 0 → ¬ (∀ j ∈ ks, mr X r k j = unitV d j) → ¬ (∀ j ∈ ks, mr X r k j = -(unitV d j)) →
    ((∃ j ∈ ks, mr X (r ++ t) k j < 0) ↔ ∃ j ∈ ks, mr X r k j < 0)
  | [], r, _, _, _, _, _ => by rw [List.append_nil]
  | c :: t, r, hr, ht, b0, n1, n2 => by
    have ca := ht c List.mem_cons_self
    have hc : c ∈ ks := by
      rcases List.mem_cons.mp ca with z | z
      · rw [z]; exact hd
      · exact (List.mem_filter.mp z).1
    have hrc : ∀ x ∈ r ++ [c], x ∈ ks := in_app hr fun x hx => by rw [List.mem_singleton.mp hx]; exact hc
    have g0 : c = d ∨ gB X d c = 0 := by
      rcases List.mem_cons.mp ca with z | z
      · exact .inl z
      · have x := (List.mem_filter.mp z).2
        refine .inr ?_
        unfold gB
        rw [if_neg (cr.ne x), if_pos x]
    have b1 : bf ks X d (mr X (r ++ [c]) k) ≠ 0 := by
      rw [bf_snoc cr nd hk hc hr]
      rcases g0 with z | z
      · subst z
        unfold gB
        rw [if_pos rfl]
        omega
      · rw [z]
        omega
    have stp := fun j => mr_snoc (k := k) cr nd hk hc hr j
    have stp2 : ∀ j, mr X r k j = mr X (r ++ [c]) k j - 2 * bf ks X c (mr X (r ++ [c]) k) * unitV c j := fun j => by
      rw [← mr_snoc cr nd hk hc hrc j, List.append_assoc]
      have y := mr_back (X := X) [] [c]
      rw [List.append_nil] at y
      rw [show [c] ++ [c] = [c] ++ [c].reverse from rfl, mr_app y, List.append_nil]
    -- a vector that is a door of home stays one
    have unit_c : ∀ w : Vec, (∀ j ∈ ks, w j = unitV d j) → bf ks X c w = gB X c d := fun w h => by
      rw [bf_ext h, bf_unit nd hd]
    have unit_n : ∀ w : Vec, (∀ j ∈ ks, w j = -(unitV d j)) → bf ks X c w = -(gB X c d) := fun w h => by
      rw [bf_neg (w := unitV d) h, bf_unit nd hd]
    have m1 : ¬ (∀ j ∈ ks, mr X (r ++ [c]) k j = unitV d j) := fun h => by
      have e := stp2
      rw [unit_c _ h] at e
      rcases g0 with z | z
      · subst z
        rw [show gB X c c = 1 from if_pos rfl] at e
        refine n2 fun j hj => ?_
        rw [e, h j hj]
        omega
      · rw [gB_sym cr, z] at e
        refine n1 fun j hj => ?_
        rw [e, h j hj]
        omega
    have m2 : ¬ (∀ j ∈ ks, mr X (r ++ [c]) k j = -(unitV d j)) := fun h => by
      have e := stp2
      rw [unit_n _ h] at e
      rcases g0 with z | z
      · subst z
        rw [show gB X c c = 1 from if_pos rfl] at e
        refine n1 fun j hj => ?_
        rw [e, h j hj]
        omega
      · rw [gB_sym cr, z] at e
        refine n2 fun j hj => ?_
        rw [e, h j hj]
        omega
    have ih := along_sign cr nd hk hd t (r ++ [c]) hrc (fun x hx => ht x (List.mem_cons_of_mem _ hx)) b1 m1 m2
    rw [List.append_assoc] at ih
    rw [show r ++ c :: t = r ++ ([c] ++ t) from rfl, ih]
    -- the two signs
    have sg : ∀ m : List Nat, (∀ x ∈ m, x ∈ ks) → (∀ j, 0 ≤ mr X m k j) ∨ ∀ j, mr X m k j ≤ 0 := fun m km => by
      have z := mr_sign cr (isName_red (fol_isName (ks := ks) cr km)) hk
      rw [mr_fol0 cr, List.nil_append] at z
      exact z
    have nz : ∀ m : List Nat, mr X m k k ≠ 0 := fun m z => by
      have := root_odd (X := X) (r := m) (k := k)
      omega
    rcases sg r hr with p | p <;> rcases sg (r ++ [c]) hrc with q | q
    · constructor
      · rintro ⟨j, _, l⟩
        have := q j
        omega
      · rintro ⟨j, _, l⟩
        have := p j
        omega
    · exfalso
      have f := flip_unit cr nd hr hk hc p q
      rcases g0 with z | z
      · subst z
        exact n1 f
      · refine b0 ?_
        rw [bf_ext f, bf_unit nd hc, z]
    · exfalso
      have q' : ∀ j, mr X (r ++ [c] ++ [c]) k j ≤ 0 := fun j => by
        rw [mr_snoc cr nd hk hc hrc j, ← stp2 j]
        exact p j
      have f := flip_unit cr nd hrc hk hc q q'
      rcases g0 with z | z
      · subst z
        exact m1 f
      · refine b1 ?_
        rw [bf_ext f, bf_unit nd hc, z]
    · constructor
      · intro _
        refine ⟨k, hk, ?_⟩
        have := p k
        have := nz r
        omega
      · intro _
        refine ⟨k, hk, ?_⟩
        have := q k
        have := nz (r ++ [c])
        omega
/-- what is asked of the two walls -/
structure TwoW (ks : List Nat) (X : Nat → Nat → Bool) (U V : List Nat) (d k : Nat) : Prop where
  cr : Crossing X
  nd : ks.Nodup
  hd : d ∈ ks
  hk : k ∈ ks
  nU : isName X U = true
  nV : isName X V = true
  kU : ∀ c ∈ U, c ∈ ks
  kV : ∀ c ∈ V, c ∈ ks
  lU : lst ks X U d
  lV : lst ks X V k
namespace TwoW
variable {U V : List Nat} {d k : Nat} (T : TwoW ks X U V d k)
include T
theorem swap : TwoW ks X V U k d := ⟨T.cr, T.nd, T.hk, T.hd, T.nV, T.nU, T.kV, T.kU, T.lV, T.lU⟩
theorem posU (j : Nat) : 0 ≤ mr X U.reverse d j := (mr_pos T.cr _ (name_red T.nU)).1 d (T.lU d List.mem_cons_self) j
theorem posV' (j : Nat) : 0 ≤ mr X V.reverse k j := (mr_pos T.cr _ (name_red T.nV)).1 k (T.lV k List.mem_cons_self) j
theorem prod_at : prodB ks X (mr X U.reverse d) (mr X V.reverse k) = bf ks X d (mr X (V.reverse ++ U) k) := prod_mr T.cr T.nd T.hk T.hd U V.reverse T.kU (in_rev T.kV)
theorem kw : ∀ c ∈ fol ks X U.reverse V, c ∈ ks := fol_lets V U.reverse (in_rev T.kU) T.kV
theorem redw : red X (fol ks X U.reverse V) = true := fol_red T.cr V U.reverse (in_rev T.kU) T.kV (name_red T.nU)
theorem mrw : mr X (fol ks X U.reverse V).reverse = mr X (V.reverse ++ U) := by
  have z := mr_inv (X := X) (n := fol ks X U.reverse V) (w := U.reverse ++ V) (fun t => by rw [mr_fol T.cr V U.reverse t, List.append_assoc]) []
  rw [List.append_nil, List.append_nil, back_way] at z
  exact z
/-- walls cross just if the product of their vectors is nought -/
theorem cross_iff : (X d k = true ∧ ∀ c ∈ toD ks X (fol ks X U.reverse V) k, c ∈ alo ks X d) ↔ prodB ks X (mr X U.reverse d) (mr X V.reverse k) = 0 := by
  have r2 : red X (toD ks X (fol ks X U.reverse V) k).reverse = true := by
    unfold toD
    rw [List.reverse_reverse]
    exact par_red T.cr _ _ (red_rev T.cr T.redw)
  rw [letters_cross T.cr T.nd T.hk T.hd (toD_in T.kw) r2 fun c hc => toD_rd hc, T.prod_at, ← T.mrw]
  rcases toD_vec T.cr (ks := ks) (fol ks X U.reverse V) k with z | z
  · rw [bf_ext fun j _ => z j]
  · rw [bf_neg fun j _ => z j]
    constructor <;> intro h <;> omega
theorem same_iff : (∀ j ∈ ks, mr X U.reverse d j = mr X V.reverse k j) ↔ (d = k ∧ U = V) := by
  constructor
  · intro h
    have e := root_kind (.inl (h k T.hk))
    have lV := T.lV
    subst e
    refine ⟨rfl, toD_inj T.cr T.nd T.hd T.nU T.nV T.kU T.kV T.lU lV fun j => ?_⟩
    by_cases z : j ∈ ks
    · exact h j z
    · rw [mr_supp _ d T.hd (in_rev T.kU) j z, mr_supp _ d T.hd (in_rev T.kV) j z]
  · rintro ⟨rfl, rfl⟩ j _
    rfl
theorem same_prod (h : d = k ∧ U = V) : prodB ks X (mr X U.reverse d) (mr X V.reverse k) = 1 := by
  obtain ⟨rfl, rfl⟩ := h
  rw [T.prod_at]
  have y := mr_back (X := X) [] U.reverse
  rw [List.reverse_reverse, List.append_nil] at y
  rw [y]
  show bf ks X d (unitV d) = 1
  rw [bf_unit T.nd T.hd]
  exact if_pos rfl
/-- seen from the one room, the other wall's vector is a door's just if the walls are one -/
theorem unit_same (h : (∀ j ∈ ks, mr X (V.reverse ++ U) k j = unitV d j) ∨ ∀ j ∈ ks, mr X (V.reverse ++ U) k j = -(unitV d j)) : ∀ j ∈ ks, mr X U.reverse d j = mr X V.reverse k j := by
  have e : ∀ j, mr X V.reverse k j = (ks.map fun i => mr X (V.reverse ++ U) k i * mr X U.reverse i j).sum := fun j => by
    rw [← mr_lin T.nd U.reverse (V.reverse ++ U) k T.hk (in_app (in_rev T.kV) T.kU) j, List.append_assoc]
    have y := mr_back (X := X) [] U
    rw [List.append_nil] at y
    rw [mr_app y, List.append_nil]
  rcases h with h | h
  · intro j _
    rw [e j, sum_ext (y := fun i => unitV d i * mr X U.reverse i j) fun i hi => by rw [h i hi]]
    exact (sum_unit (f := fun i => mr X U.reverse i j) T.nd T.hd).symm
  · exfalso
    have e2 : ∀ j, mr X V.reverse k j = -(mr X U.reverse d j) := fun j => by
      rw [e j, sum_ext (y := fun i => -(unitV d i) * mr X U.reverse i j) fun i hi => by rw [h i hi], sum_neg]
      rw [sum_unit (f := fun i => mr X U.reverse i j) T.nd T.hd]
    have h1 := T.posU k
    have h2 := T.posV' k
    have h3 := root_odd (X := X) (r := V.reverse) (k := k)
    have := e2 k
    omega
/-- the middle name -/
theorem mid : ∃ A : List Nat, isName X A = true ∧ (∀ c ∈ A, c ∈ ks) ∧ lst ks X A k ∧
    (rd X (fol ks X V.reverse U) k = false → ∀ j, mr X (V.reverse ++ U) k j = mr X A.reverse k j) ∧
    (rd X (fol ks X V.reverse U) k = true → ∀ j, mr X (V.reverse ++ U) k j = -(mr X A.reverse k j)) ∧
    (rd X A d = true → rd X (fol ks X U.reverse V) d = true) ∧
    (rd X (fol ks X U.reverse V) d = true → rd X A d = true ∨ (d ∈ alo ks X k ∧ ∀ c ∈ A, X c d = true)) := by
  have kz : ∀ c ∈ U.reverse ++ V, c ∈ ks := in_app (in_rev T.kU) T.kV
  have kN := fol_in T.cr kz
  have nN := fol_isName T.cr kz
  have e1 : mr X (fol ks X [] (U.reverse ++ V)).reverse = mr X (V.reverse ++ U) := by
    rw [← mr_revs T.cr, back_way]
  have nA := toD_name T.cr (ks := ks) (d := k) nN
  have pA := toD_pos T.cr (ks := ks) (d := k) nN
  have od := root_odd (X := X) (r := (toD ks X (fol ks X [] (U.reverse ++ V)) k).reverse) (k := k)
  have bs := bey_sign (ks := ks) T.cr (V := V) (z := U) T.hk T.kV T.kU (name_red T.nV)
  have fr : rd X (fol ks X U.reverse V) d = rd X (fol ks X [] (U.reverse ++ V)) d := by
    have b1 := back_iff T.cr (ks := ks) (k := d) T.redw T.hd
    have b2 := back_iff T.cr (ks := ks) (k := d) (isName_red nN) T.hd
    rw [mr_fol0 T.cr] at b1
    rw [mr_fol0 T.cr, List.nil_append] at b2
    rw [Bool.eq_iff_iff]
    exact b1.symm.trans b2
  refine ⟨toD ks X (fol ks X [] (U.reverse ++ V)) k, nA, toD_in kN, fun c hc => toD_rd hc, fun h => ?_, fun h => ?_, fun h => ?_, fun h => ?_⟩
  · rcases toD_vec T.cr (ks := ks) (fol ks X [] (U.reverse ++ V)) k with z | z
    · rw [e1] at z
      exact z
    · rw [e1] at z
      exfalso
      have : rd X (fol ks X V.reverse U) k = true := bs.mpr ⟨k, T.hk, by
        have := z k
        have := pA k
        omega⟩
      rw [h] at this
      cases this
  · rcases toD_vec T.cr (ks := ks) (fol ks X [] (U.reverse ++ V)) k with z | z
    · rw [e1] at z
      exfalso
      obtain ⟨j, _, l⟩ := bs.mp h
      have := z j
      have := pA j
      omega
    · rw [e1] at z
      exact z
  · rw [fr]
    unfold toD at h
    have z := par_front T.cr _ _ h
    rw [List.reverse_reverse] at z
    exact z
  · rw [fr] at h
    have z := par_front2 T.cr (d := d) (fol ks X [] (U.reverse ++ V)).reverse (alo ks X k) (by rw [List.reverse_reverse]; exact h)
    unfold toD
    rcases z with z | ⟨z1, z2⟩
    · exact .inl z
    · exact .inr ⟨z1, fun c hc => z2 c (List.mem_reverse.mp hc)⟩
end TwoW
end CW
end
section
/-! Gates: the room to which all shortest ways begin alike. -/
namespace CW
variable {X : Nat → Nat → Bool} {ks : List Nat}
/-- is the door's vector turned about behind the way? -/
def ng (X : Nat → Nat → Bool) (z : List Nat) (d : Nat) : Bool := decide (mr X z d d < 0)
theorem word_sign (cr : Crossing X) {m : List Nat} {d : Nat} (hd : d ∈ ks) (km : ∀ x ∈ m, x ∈ ks) : (∀ j, 0 ≤ mr X m d j) ∨ ∀ j, mr X m d j ≤ 0 := by
  have z := mr_sign cr (isName_red (fol_isName (ks := ks) cr km)) hd
  rw [mr_fol0 cr, List.nil_append] at z
  exact z
theorem ng_false (cr : Crossing X) {m : List Nat} {d : Nat} (hd : d ∈ ks) (km : ∀ x ∈ m, x ∈ ks) (h : ng X m d = false) : ∀ j, 0 ≤ mr X m d j := by
  rcases word_sign cr hd km with z | z
  · exact z
  · have a := of_decide_eq_false h
    have b := z d
    have c := root_odd (X := X) (r := m) (k := d)
    omega
theorem ng_true (cr : Crossing X) {m : List Nat} {d : Nat} (hd : d ∈ ks) (km : ∀ x ∈ m, x ∈ ks) (h : ng X m d = true) : ∀ j, mr X m d j ≤ 0 := by
  rcases word_sign cr hd km with z | z
  · have a := of_decide_eq_true h
    have b := z d
    omega
  · exact z
theorem ng_iff (cr : Crossing X) {m : List Nat} {d : Nat} (hd : d ∈ ks) (km : ∀ x ∈ m, x ∈ ks) : (∃ j ∈ ks, mr X m d j < 0) ↔ ng X m d = true := by
  constructor
  · rintro ⟨j, _, l⟩
    cases e : ng X m d with
    | true => rfl
    | false =>
      have := ng_false cr hd km e j
      omega
  · intro h
    exact ⟨d, hd, of_decide_eq_true h⟩
theorem ng_mr {z z' : List Nat} (h : mr X z = mr X z') (d : Nat) : ng X z d = ng X z' d := by
  unfold ng
  rw [h]
theorem ng_red (cr : Crossing X) {z : List Nat} {d : Nat} (hd : d ∈ ks) (kz : ∀ c ∈ z, c ∈ ks) (r : red X z = true) : ng X z d = rd X z d := by
  rw [Bool.eq_iff_iff, ← ng_iff (ks := ks) cr hd kz]
  exact back_iff cr r hd
theorem bey_ng (cr : Crossing X) {V z : List Nat} {k : Nat} (hk : k ∈ ks) (kV : ∀ c ∈ V, c ∈ ks) (kz : ∀ c ∈ z, c ∈ ks) (rV : red X V.reverse = true) : rd X (fol ks X V.reverse z) k = ng X (V.reverse ++ z) k := by
  rw [Bool.eq_iff_iff, bey_sign (ks := ks) cr hk kV kz rV]
  exact ng_iff cr hk (in_app (in_rev kV) kz)
theorem mr_there (z : List Nat) (a : List Nat) : mr X (z ++ a ++ a.reverse) = mr X z := by
  have y := mr_back (X := X) [] a
  rw [List.append_nil] at y
  rw [List.append_assoc, mr_app y, List.append_nil]
/-- where the sign changes, there is the wall -/
theorem ng_turn (cr : Crossing X) (nd : ks.Nodup) {h a : List Nat} {d c : Nat} (hd : d ∈ ks) (hc : c ∈ ks) (kh : ∀ x ∈ h, x ∈ ks) (ka : ∀ x ∈ a, x ∈ ks) (t : ng X (h ++ a) d ≠ ng X (h ++ a ++ [c]) d) :
    (∀ j ∈ ks, mr X h d j = mr X a.reverse c j) ∨ ∀ j ∈ ks, mr X h d j = -(mr X a.reverse c j) := by
  have k1 : ∀ x ∈ h ++ a, x ∈ ks := in_app kh ka
  have k0 : ∀ x ∈ [c], x ∈ ks := fun x hx => by rw [List.mem_singleton.mp hx]; exact hc
  have k2 : ∀ x ∈ h ++ a ++ [c], x ∈ ks := in_app k1 k0
  cases e1 : ng X (h ++ a) d with
  | false =>
    have e2 : ng X (h ++ a ++ [c]) d = true := by
      cases e : ng X (h ++ a ++ [c]) d with
      | true => rfl
      | false => exact absurd (e1.trans e.symm) t
    have f := flip_unit cr nd k1 hd hc (ng_false cr hd k1 e1) (ng_true cr hd k2 e2)
    refine .inl fun j hj => ?_
    rw [← mr_there h a, mr_lin nd a.reverse (h ++ a) d hd k1 j, sum_ext (y := fun i => unitV c i * mr X a.reverse i j) fun i hi => by rw [f i hi]]
    exact sum_unit (f := fun i => mr X a.reverse i j) nd hc
  | true =>
    have e2 : ng X (h ++ a ++ [c]) d = false := by
      cases e : ng X (h ++ a ++ [c]) d with
      | false => rfl
      | true => exact absurd (e1.trans e.symm) t
    have f := flip_unit cr nd k2 hd hc (ng_false cr hd k2 e2) (fun j => by
      have z := mr_there (X := X) (h ++ a) [c]
      rw [show [c].reverse = [c] from rfl] at z
      rw [z]
      exact ng_true cr hd k1 e1 j)
    refine .inr fun j hj => ?_
    have z := mr_there (X := X) h (a ++ [c])
    rw [← List.append_assoc] at z
    rw [← z, mr_lin nd (a ++ [c]).reverse (h ++ a ++ [c]) d hd k2 j, sum_ext (y := fun i => unitV c i * mr X (a ++ [c]).reverse i j) fun i hi => by rw [f i hi], sum_unit (f := fun i => mr X (a ++ [c]).reverse i j) nd hc, List.reverse_append]
    show thr X (mr X a.reverse) c c j = _
    unfold thr
    rw [if_pos rfl]
/-- the walls on a way that can't be made shorter -/
theorem crs_pos (cr : Crossing X) {a b : List Nat} {c : Nat} (r : red X (a ++ c :: b) = true) : ∀ j, 0 ≤ mr X a.reverse c j := by
  have e : a ++ c :: b = (a ++ [c]) ++ b := by simp
  rw [e] at r
  have z := red_rev cr (red_pre r)
  rw [List.reverse_append] at z
  have z' : (!rd X a.reverse c && red X a.reverse) = true := z
  rw [Bool.and_eq_true, Bool.not_eq_true'] at z'
  exact (mr_pos cr _ z'.2).1 c z'.1
theorem crs_apart (cr : Crossing X) (nd : ks.Nodup) {a m b : List Nat} {k k' : Nat} (r : red X (a ++ k :: (m ++ k' :: b)) = true) (kz : ∀ c ∈ a ++ k :: (m ++ k' :: b), c ∈ ks) : ¬ (∀ j ∈ ks, mr X a.reverse k j = mr X (a ++ k :: m).reverse k' j) := by
  intro h
  have hk : k ∈ ks := kz k (by simp)
  have hk' : k' ∈ ks := kz k' (by simp)
  have ka : ∀ c ∈ a, c ∈ ks := fun c hc => kz c (List.mem_append_left _ hc)
  have km : ∀ c ∈ m, c ∈ ks := fun c hc => kz c (by simp [hc])
  have kam : ∀ c ∈ a ++ k :: m, c ∈ ks := in_app ka fun c hc => (List.mem_cons.mp hc).elim (fun z => by rw [z]; exact hk) (km c)
  have r1 : red X (k :: (m ++ k' :: b)) = true := red_suf r
  have r2 : (!rd X (m ++ k' :: b) k && red X (m ++ k' :: b)) = true := r1
  rw [Bool.and_eq_true, Bool.not_eq_true'] at r2
  have pm := (mr_pos cr m (red_pre r2.2)).1 k (rd_left r2.1) k'
  have e1 := mr_lin (X := X) nd (a ++ k :: m) a.reverse k hk (in_rev ka) k'
  have e2 := mr_lin (X := X) nd (a ++ k :: m) (a ++ k :: m).reverse k' hk' (in_rev kam) k'
  rw [sum_ext (y := fun i => mr X (a ++ k :: m).reverse k' i * mr X (a ++ k :: m) i k') fun i hi => by rw [h i hi], ← e2] at e1
  have y1 := mr_back (X := X) (k :: m) a.reverse
  rw [List.reverse_reverse] at y1
  have y2 := mr_back (X := X) [] (a ++ k :: m).reverse
  rw [List.reverse_reverse, List.append_nil] at y2
  rw [y1, y2] at e1
  have e3 : mr X (k :: m) k k' = -(mr X m k k') := by
    show thr X (mr X m) k k k' = _
    unfold thr
    rw [if_pos rfl]
  have e4 : mr X [] k' k' = 1 := if_pos rfl
  rw [e3, e4] at e1
  omega
theorem at_split {z : List Nat} {i c : Nat} (h : z[i]? = some c) : z = z.take i ++ c :: z.drop (i + 1) := by
  have hi := (List.getElem?_eq_some_iff.mp h).1
  have e := List.take_append_drop (i + 1) z
  rw [List.take_add_one, h] at e
  simpa using e.symm
/-- a way that can't be made shorter goes through a wall once -/
theorem flip_one (cr : Crossing X) (nd : ks.Nodup) {g x y : List Nat} {d : Nat} (hd : d ∈ ks) (kg : ∀ c ∈ g, c ∈ ks) (kx : ∀ c ∈ x, c ∈ ks) (ky : ∀ c ∈ y, c ∈ ks) (r : red X (x.reverse ++ y) = true) : ng X (g ++ x) d = ng X g d ∨ ng X (g ++ y) d = ng X g d := by
  by_cases h1 : ng X (g ++ x) d = ng X g d
  · exact .inl h1
  by_cases h2 : ng X (g ++ y) d = ng X g d
  · exact .inr h2
  exfalso
  have kh : ∀ c ∈ g ++ x, c ∈ ks := in_app kg kx
  have kz : ∀ c ∈ x.reverse ++ y, c ∈ ks := in_app (in_rev kx) ky
  have b0 : mr X (g ++ x ++ x.reverse) = mr X g := mr_there g x
  have b1 : mr X (g ++ x ++ (x.reverse ++ y)) = mr X (g ++ y) := by
    have y' := mr_back (X := X) y x
    rw [List.append_assoc]
    exact mr_app y' g
  have lz : (x.reverse ++ y).length = x.length + y.length := by rw [List.length_append, List.length_reverse]
  have t0 : (x.reverse ++ y).take x.length = x.reverse := by
    rw [← List.length_reverse (as := x), List.take_left]
  have tn : (x.reverse ++ y).take (x.length + y.length) = x.reverse ++ y := by rw [← lz, List.take_length]
  generalize x.reverse ++ y = z at *
  -- a turn
  have turn : ∀ i, i < z.length → ng X (g ++ x ++ z.take i) d ≠ ng X (g ++ x ++ z.take (i + 1)) d → ∃ c, z[i]? = some c ∧ ((∀ j ∈ ks, mr X (g ++ x) d j = mr X (z.take i).reverse c j) ∨ ∀ j ∈ ks, mr X (g ++ x) d j = -(mr X (z.take i).reverse c j)) := fun i hi t => by
    have e : z[i]? = some z[i] := List.getElem?_eq_getElem hi
    refine ⟨z[i], e, ?_⟩
    have hc := kz _ (List.mem_of_getElem? e)
    have et : z.take (i + 1) = z.take i ++ [z[i]] := by
      rw [List.take_add_one, e]
      rfl
    rw [et, ← List.append_assoc] at t
    exact ng_turn cr nd hd hc kh (fun c hc => kz c (List.mem_of_mem_take hc)) t
  obtain ⟨p, hp, p1, p2⟩ := turn_at (p := fun i => ng X (g ++ x ++ z.take i) d = ng X (g ++ x) d) (fun i => Classical.em _) x.length (by rw [List.take_zero, List.append_nil]) (fun e => by
    rw [t0, ng_mr b0] at e
    exact h1 e.symm)
  obtain ⟨q, hq, q1, q2⟩ := turn_at (p := fun i => ng X (g ++ x ++ z.take (x.length + i)) d = ng X g d) (fun i => Classical.em _) y.length (by rw [Nat.add_zero, t0, ng_mr b0]) (fun e => by
    rw [tn, ng_mr b1] at e
    exact h2 e)
  obtain ⟨c, ec, rc⟩ := turn p (by omega) fun e => p2 (e.symm.trans p1)
  obtain ⟨c', ec', rc'⟩ := turn (x.length + q) (by omega) fun e => q2 (e.symm.trans q1)
  -- both are the same wall
  have sp := at_split ec
  have sp' := at_split ec'
  have pc := crs_pos cr (by rw [← sp]; exact r) (a := z.take p) (c := c) (b := z.drop (p + 1))
  have pc' := crs_pos cr (by rw [← sp']; exact r) (a := z.take (x.length + q)) (c := c') (b := z.drop (x.length + q + 1))
  have hc := kz c (List.mem_of_getElem? ec)
  have o1 := root_odd (X := X) (r := (z.take p).reverse) (k := c)
  have same : ∀ j ∈ ks, mr X (z.take p).reverse c j = mr X (z.take (x.length + q)).reverse c' j := by
    rcases rc with u | u <;> rcases rc' with v | v
    · intro j hj
      rw [← u j hj, v j hj]
    · exfalso
      have a1 := u c hc
      have a2 := v c hc
      have a3 := pc c
      have a4 := pc' c
      omega
    · exfalso
      have a1 := u c hc
      have a2 := v c hc
      have a3 := pc c
      have a4 := pc' c
      omega
    · intro j hj
      have a1 := u j hj
      have a2 := v j hj
      omega
  -- but they are two
  have hm : (z.take (x.length + q))[p]? = some c := by
    rw [List.getElem?_take, if_pos (by omega)]
    exact ec
  have sm := at_split hm
  rw [List.take_take, Nat.min_eq_left (by omega)] at sm
  generalize (z.take (x.length + q)).drop (p + 1) = m at sm
  rw [sm] at sp' same
  rw [List.append_assoc, List.cons_append] at sp'
  rw [sp'] at r kz
  exact crs_apart cr nd r kz same
end CW
end
section
namespace CW
variable {X : Nat → Nat → Bool} {ks : List Nat}
theorem rd_swap (cr : Crossing X) {a b k : Nat} (h : X a b = true) (r : List Nat) : ∀ l : List Nat, rd X (l ++ a :: b :: r) k = rd X (l ++ b :: a :: r) k
  | [] => by
    have h2 : X b a = true := by rw [cr.sym]; exact h
    show ((a == k) || (X a k && ((b == k) || (X b k && rd X r k)))) = ((b == k) || (X b k && ((a == k) || (X a k && rd X r k))))
    by_cases ea : a = k
    · subst ea
      simp [h2]
    · by_cases eb : b = k
      · subst eb
        simp [h]
      · rw [beq_eq_false_iff_ne.mpr ea, beq_eq_false_iff_ne.mpr eb]
        cases X a k <;> cases X b k <;> simp
  | o :: l => by
    show ((o == k) || (X o k && rd X (l ++ a :: b :: r) k)) = ((o == k) || (X o k && rd X (l ++ b :: a :: r) k))
    rw [rd_swap cr h r l]
theorem red_swap (cr : Crossing X) {a b : Nat} (h : X a b = true) (r : List Nat) : ∀ l : List Nat, red X (l ++ a :: b :: r) = red X (l ++ b :: a :: r)
  | [] => by
    have h2 : X b a = true := by rw [cr.sym]; exact h
    show (!((b == a) || (X b a && rd X r a)) && (!rd X r b && red X r)) = (!((a == b) || (X a b && rd X r b)) && (!rd X r a && red X r))
    rw [beq_eq_false_iff_ne.mpr (cr.ne h), beq_eq_false_iff_ne.mpr (cr.ne h2), h, h2]
    cases rd X r a <;> cases rd X r b <;> simp
  | o :: l => by
    show (!rd X (l ++ a :: b :: r) o && red X (l ++ a :: b :: r)) = (!rd X (l ++ b :: a :: r) o && red X (l ++ b :: a :: r))
    rw [rd_swap cr h r l, red_swap cr h r l]
theorem Rch.red (cr : Crossing X) {a b : List Nat} (h : Rch X a b) : CW.red X b = CW.red X a := by
  induction h with
  | refl => rfl
  | step u x y s _ hx ih => rw [← ih, red_swap cr hx]
theorem Rch.rd (cr : Crossing X) {a b : List Nat} (h : Rch X a b) (k : Nat) : CW.rd X b k = CW.rd X a k := by
  induction h with
  | refl => rfl
  | step u x y s _ hx ih => rw [← ih, rd_swap cr hx]
theorem rd_cat {a : Nat} {r : List Nat} : ∀ {l : List Nat}, rd X (l ++ r) a = true → rd X l a = true ∨ ((∀ c ∈ l, X c a = true) ∧ rd X r a = true)
  | [], h => .inr ⟨(fun c h => by cases h), h⟩
  | o :: l, h => by
    have z : ((o == a) || (X o a && rd X (l ++ r) a)) = true := h
    show ((o == a) || (X o a && rd X l a)) = true ∨ _
    rw [Bool.or_eq_true, Bool.and_eq_true] at z ⊢
    rcases z with z | ⟨z1, z2⟩
    · exact .inl (.inl z)
    · rcases rd_cat z2 with w | ⟨w1, w2⟩
      · exact .inl (.inr ⟨z1, w⟩)
      · refine .inr ⟨fun c hc => ?_, w2⟩
        rcases List.mem_cons.mp hc with y | y
        · rw [y]; exact z1
        · exact w1 c y
/-- two ways without a common first letter -/
theorem red_cat (cr : Crossing X) {r : List Nat} (hr : red X r = true) : ∀ {l : List Nat}, red X l = true → (∀ c, rd X l.reverse c = true → rd X r c = true → False) → red X (l ++ r) = true
  | [], _, _ => hr
  | a :: l, h, n => by
    have h' : (!rd X l a && red X l) = true := h
    rw [Bool.and_eq_true, Bool.not_eq_true'] at h'
    have n' : ∀ c, rd X l.reverse c = true → rd X r c = true → False := fun c e1 e2 => n c (by rw [List.reverse_cons]; exact rd_more e1) e2
    show (!rd X (l ++ r) a && red X (l ++ r)) = true
    rw [red_cat cr hr h'.2 n']
    cases e : rd X (l ++ r) a with
    | false => rfl
    | true =>
      exfalso
      rcases rd_cat e with z | ⟨z1, z2⟩
      · rw [h'.1] at z
        cases z
      · exact n a (by rw [List.reverse_cons]; exact rd_end cr fun c hc => z1 c (List.mem_reverse.mp hc)) z2
theorem red_join (cr : Crossing X) {u v : List Nat} (hu : red X u = true) (hv : red X v = true) (n : ∀ c, rd X u c = true → rd X v c = true → False) : red X (u.reverse ++ v) = true :=
  red_cat cr hv (red_rev cr hu) fun c e1 e2 => n c (by rw [List.reverse_reverse] at e1; exact e1) e2
/-- a way that can't be made shorter is as long as its name -/
theorem red_len (cr : Crossing X) : ∀ (r : List Nat), (∀ c ∈ r, c ∈ ks) → red X r.reverse = true → (fol ks X [] r.reverse).length = r.length
  | [], _, _ => rfl
  | k :: r, h, e => by
    have hk := h k List.mem_cons_self
    have hr := fun c hc => h c (List.mem_cons_of_mem k hc)
    obtain ⟨e1, e2⟩ := red_front cr e
    have ih := red_len cr r hr e2
    have kn := fol_in (ks := ks) cr (in_rev hr)
    have b := beh_len (ks := ks) cr (k := k) kn
    have n : rd X (fol ks X [] r.reverse).reverse k = false := by
      have y := mr_revs (ks := ks) cr r.reverse
      rw [List.reverse_reverse] at y
      have b1 := back_iff cr (ks := ks) (name_red (fol_isName (ks := ks) cr (in_rev hr))) hk
      rw [← y] at b1
      have er : red X r = true := by
        have z := red_rev cr e2
        rw [List.reverse_reverse] at z
        exact z
      have b2 := back_iff cr (ks := ks) er hk
      cases q : rd X (fol ks X [] r.reverse).reverse k with
      | false => rfl
      | true =>
        have := b2.mp (b1.mpr q)
        rw [e1] at this
        cases this
    rw [n, if_neg (by simp), if_neg (by simp)] at b
    rw [List.reverse_cons, fol_snoc, List.length_cons]
    omega
theorem red_len' (cr : Crossing X) {w : List Nat} (hw : ∀ c ∈ w, c ∈ ks) (h : red X w = true) : (fol ks X [] w).length = w.length := by
  have z := red_len (ks := ks) cr w.reverse (in_rev hw) (by rw [List.reverse_reverse]; exact h)
  rw [List.reverse_reverse, List.length_reverse] at z
  exact z
/-- what two ways have in common, from their beginning on -/
structure Shared (ks : List Nat) (X : Nat → Nat → Bool) (one other s u v : List Nat) : Prop where
  one : Rch X one (s ++ u)
  other : Rch X other (s ++ v)
  non : ∀ c ∈ ks, rd X u c = true → rd X v c = true → False
/-- the beginning of all ways -/
structure GateS (ks : List Nat) (X : Nat → Nat → Bool) (ws : List (List Nat)) (s : List Nat) : Prop where
  pre : ∀ w ∈ ws, ∃ v, Rch X w (s ++ v)
  tell : ∀ (g : List Nat) (d : Nat), (∀ c ∈ g, c ∈ ks) → d ∈ ks → (ng X (g ++ s) d ≠ ng X g d ↔ ∀ w ∈ ws, ng X (g ++ w) d ≠ ng X g d)
theorem GateS.one (w : List Nat) : GateS ks X [w] w := by
  refine ⟨fun x hx => ⟨[], ?_⟩, fun g d _ _ => ?_⟩
  · rw [List.mem_singleton.mp hx, List.append_nil]
    exact .refl _
  · exact ⟨fun h x hx => by rw [List.mem_singleton.mp hx]; exact h, fun h => h w List.mem_cons_self⟩
theorem rch_in (cr : Crossing X) {w s v : List Nat} (h : Rch X w (s ++ v)) (kw : ∀ c ∈ w, c ∈ ks) : (∀ c ∈ s, c ∈ ks) ∧ ∀ c ∈ v, c ∈ ks :=
  ⟨fun c hc => h.letters kw c (List.mem_append_left _ hc), fun c hc => h.letters kw c (List.mem_append_right _ hc)⟩
theorem ng_rch (cr : Crossing X) {w w' : List Nat} (h : Rch X w w') (g : List Nat) (d : Nat) : ng X (g ++ w') d = ng X (g ++ w) d := ng_mr (mr_app (h.vec cr) g) d
theorem GateS.more (cr : Crossing X) (nd : ks.Nodup) {ws : List (List Nat)} {s w s' u v : List Nat} (G : GateS ks X ws s) (ks0 : ∀ c ∈ s, c ∈ ks) (kw : ∀ c ∈ w, c ∈ ks) (rs : red X s = true) (rw_ : red X w = true) (S : Shared ks X s w s' u v) : GateS ks X (ws ++ [w]) s' := by
  obtain ⟨k1, k2⟩ := rch_in (ks := ks) cr S.one ks0
  obtain ⟨_, k3⟩ := rch_in (ks := ks) cr S.other kw
  have r1 : red X (s' ++ u) = true := by rw [S.one.red cr]; exact rs
  have r2 : red X (s' ++ v) = true := by rw [S.other.red cr]; exact rw_
  have rj := red_join cr (red_suf r1) (red_suf r2) fun c e1 e2 => S.non c (k2 c (rd_mem e1)) e1 e2
  refine ⟨fun x hx => ?_, fun g d kg hd => ?_⟩
  · rcases List.mem_append.mp hx with z | z
    · obtain ⟨v', h⟩ := G.pre x z
      refine ⟨u ++ v', h.trans ?_⟩
      have y := S.one.back v'
      rw [List.append_assoc] at y
      exact y
    · rw [List.mem_singleton.mp z]
      exact ⟨v, S.other⟩
  · have e1 : ng X (g ++ s' ++ u) d = ng X (g ++ s) d := by rw [List.append_assoc]; exact ng_rch cr S.one g d
    have e2 : ng X (g ++ s' ++ v) d = ng X (g ++ w) d := by rw [List.append_assoc]; exact ng_rch cr S.other g d
    have kgs : ∀ c ∈ g ++ s', c ∈ ks := in_app kg k1
    have back : ng X (g ++ s' ++ s'.reverse) d = ng X g d := ng_mr (mr_there g s') d
    have key : ng X (g ++ s') d ≠ ng X g d ↔ ng X (g ++ s) d ≠ ng X g d ∧ ng X (g ++ w) d ≠ ng X g d := by
      constructor
      · intro h
        have f1 := (flip_one cr nd hd kgs (in_rev k1) k2 (by rw [List.reverse_reverse]; exact r1)).resolve_left (by rw [back]; exact fun z => h z.symm)
        have f2 := (flip_one cr nd hd kgs (in_rev k1) k3 (by rw [List.reverse_reverse]; exact r2)).resolve_left (by rw [back]; exact fun z => h z.symm)
        rw [← e1, ← e2, f1, f2]
        exact ⟨h, h⟩
      · rintro ⟨h1, h2⟩ z
        rcases flip_one cr nd hd kgs k2 k3 rj with f | f
        · rw [e1, z] at f
          exact h1 f
        · rw [e2, z] at f
          exact h2 f
    rw [key, G.tell g d kg hd]
    constructor
    · rintro ⟨h1, h2⟩ x hx
      rcases List.mem_append.mp hx with z | z
      · exact h1 x z
      · rw [List.mem_singleton.mp z]
        exact h2
    · intro h
      exact ⟨fun x hx => h x (List.mem_append_left _ hx), h w (List.mem_append_right _ List.mem_cons_self)⟩
/-- behind the gate no door leads nearer to all -/
theorem GateS.end_ (cr : Crossing X) (nd : ks.Nodup) {ws : List (List Nat)} {s : List Nat} (G : GateS ks X ws s) (ne : ws ≠ []) (kws : ∀ w ∈ ws, ∀ c ∈ w, c ∈ ks) (rws : ∀ w ∈ ws, red X w = true) {c : Nat} (hc : c ∈ ks) : ∃ w ∈ ws, ng X (s.reverse ++ w) c = false := by
  have ks0 : ∀ x ∈ s, x ∈ ks := by
    cases ws with
    | nil => exact absurd rfl ne
    | cons w ws =>
      obtain ⟨v, h⟩ := G.pre w List.mem_cons_self
      exact (rch_in (ks := ks) cr h (kws w List.mem_cons_self)).1
  apply Classical.byContradiction
  intro no
  have all : ∀ w ∈ ws, ng X (s.reverse ++ w) c = true := fun w hw => by
    cases e : ng X (s.reverse ++ w) c with
    | true => rfl
    | false => exact absurd ⟨w, hw, e⟩ no
  have e0 : ng X (s.reverse ++ s) c = false := by
    have y := mr_back (X := X) [] s.reverse
    rw [List.reverse_reverse, List.append_nil] at y
    rw [ng_mr y]
    show decide ((if c = c then (1 : Int) else 0) < 0) = false
    rw [if_pos rfl]
    rfl
  have e1 : ng X s.reverse c = false := by
    cases ws with
    | nil => exact absurd rfl ne
    | cons w ws =>
      obtain ⟨v, h⟩ := G.pre w List.mem_cons_self
      have r : red X (s ++ v) = true := by rw [h.red cr]; exact rws w List.mem_cons_self
      have kv := (rch_in (ks := ks) cr h (kws w List.mem_cons_self)).2
      have ev : ng X v c = true := by
        rw [← all w List.mem_cons_self, ← ng_rch cr h s.reverse c]
        refine ng_mr ?_ c
        have y := mr_back (X := X) v s.reverse
        rw [List.reverse_reverse] at y
        exact y.symm
      rw [ng_red cr hc kv (red_suf r)] at ev
      obtain ⟨p, q, rfl, xp⟩ := rd_split ev
      have z := Rch.left (X := X) cr (k := c) q p s fun b hb => by rw [cr.sym]; exact xp b hb
      have r2 : red X (s ++ c :: (p ++ q)) = true := by rw [z.red cr]; exact r
      rw [show s ++ c :: (p ++ q) = (s ++ [c]) ++ (p ++ q) from by simp] at r2
      have r3 := red_rev cr (red_pre r2)
      rw [List.reverse_append] at r3
      have r4 : (!rd X s.reverse c && red X s.reverse) = true := r3
      rw [Bool.and_eq_true, Bool.not_eq_true'] at r4
      rw [ng_red cr hc (in_rev ks0) r4.2]
      exact r4.1
  have t := (G.tell s.reverse c (in_rev ks0) hc).mpr fun w hw => by rw [all w hw, e1]; simp
  rw [e0, e1] at t
  exact t rfl
/-- two rooms are apart by a wall -/
theorem sep (cr : Crossing X) {n m : List Nat} (hn : isName X n = true) (hm : isName X m = true) (kn : ∀ c ∈ n, c ∈ ks) (km : ∀ c ∈ m, c ∈ ks) (h : ∀ (g : List Nat) (d : Nat), (∀ c ∈ g, c ∈ ks) → d ∈ ks → ng X (g ++ n) d = ng X (g ++ m) d) : n = m := by
  refine (between_nil cr hn hm kn km).mp ?_
  have kz : ∀ c ∈ n.reverse ++ m, c ∈ ks := in_app (in_rev kn) km
  have kw := fol_in (ks := ks) cr kz
  have rw_ := isName_red (fol_isName (ks := ks) cr kz)
  have e := mr_fol0 (ks := ks) cr (n.reverse ++ m) []
  rw [List.nil_append] at e
  cases q : fol ks X [] (n.reverse ++ m) with
  | nil => rfl
  | cons c r =>
    exfalso
    rw [q] at kw rw_ e
    have hc := kw c List.mem_cons_self
    have z := h n.reverse c (in_rev kn) hc
    have y := mr_back (X := X) [] n.reverse
    rw [List.reverse_reverse, List.append_nil] at y
    rw [ng_mr y, ← ng_mr e, ng_red cr hc kw rw_, first_rd] at z
    have : ng X [] c = false := by
      show decide ((if c = c then (1 : Int) else 0) < 0) = false
      rw [if_pos rfl]
      rfl
    rw [this] at z
    cases z
/-- gates of the same ways are one -/
theorem GateS.uniq (cr : Crossing X) {ws ws' : List (List Nat)} {s s' : List Nat} (G : GateS ks X ws s) (G' : GateS ks X ws' s') (ks0 : ∀ c ∈ s, c ∈ ks) (ks1 : ∀ c ∈ s', c ∈ ks)
    (h : ∀ (g : List Nat) (d : Nat), (∀ c ∈ g, c ∈ ks) → d ∈ ks → ((∀ w ∈ ws, ng X (g ++ w) d ≠ ng X g d) ↔ ∀ w ∈ ws', ng X (g ++ w) d ≠ ng X g d)) : fol ks X [] s = fol ks X [] s' := by
  refine sep (ks := ks) cr (fol_isName cr ks0) (fol_isName cr ks1) (fol_in cr ks0) (fol_in cr ks1) fun g d kg hd => ?_
  have e1 : ng X (g ++ fol ks X [] s) d = ng X (g ++ s) d := ng_mr (mr_app (by rw [mr_fol0 cr, List.nil_append]) g) d
  have e2 : ng X (g ++ fol ks X [] s') d = ng X (g ++ s') d := ng_mr (mr_app (by rw [mr_fol0 cr, List.nil_append]) g) d
  have t1 := G.tell g d kg hd
  have t2 := G'.tell g d kg hd
  rw [h g d kg hd] at t1
  have t := t1.trans t2.symm
  rw [e1, e2]
  cases a : ng X (g ++ s) d <;> cases b : ng X (g ++ s') d <;> cases c : ng X g d <;> rw [a, b, c] at t <;> simp at t ⊢
end CW
end
section
namespace CW
variable {X : Nat → Nat → Bool} {ks : List Nat}
/-- the nearest room of a block: no letter of these kinds can be moved to the end -/
def stp (X : Nat → Nat → Bool) (lo n : List Nat) : List Nat := (par X lo n.reverse).reverse
theorem toD_stp {n : List Nat} {d : Nat} : toD ks X n d = stp X (alo ks X d) n := rfl
theorem stp_name (cr : Crossing X) {lo n : List Nat} (h : isName X n = true) : isName X (stp X lo n) = true := by
  unfold isName at h ⊢
  unfold stp
  rw [List.reverse_reverse]
  exact par_nf cr _ _ h
theorem stp_mem {lo n : List Nat} : ∀ c ∈ stp X lo n, c ∈ n := fun c hc => List.mem_reverse.mp (par_in _ _ c (List.mem_reverse.mp hc))
theorem stp_in {lo n : List Nat} (h : ∀ c ∈ n, c ∈ ks) : ∀ c ∈ stp X lo n, c ∈ ks := fun c hc => h c (stp_mem c hc)
theorem stp_len {lo n : List Nat} : (stp X lo n).length ≤ n.length := by
  unfold stp
  have := par_len (X := X) n.reverse lo
  rw [List.length_reverse] at this ⊢
  exact this
theorem stp_rd {lo n : List Nat} {c : Nat} (h : c ∈ lo) : rd X (stp X lo n).reverse c = false := by
  unfold stp
  rw [List.reverse_reverse]
  exact par_rd _ _ c h
theorem stp_id {lo n : List Nat} (h : ∀ c ∈ lo, rd X n.reverse c = false) : stp X lo n = n := by
  unfold stp
  rw [par_id h, List.reverse_reverse]
theorem par_congr : ∀ (r lo lo' : List Nat), (∀ c, c ∈ lo ↔ c ∈ lo') → par X lo r = par X lo' r
  | [], _, _, _ => by unfold par; rfl
  | a :: r, lo, lo', h => by
    have hc : lo.contains a = lo'.contains a := by
      rw [Bool.eq_iff_iff, List.contains_iff_mem, List.contains_iff_mem]
      exact h a
    cases e : lo.contains a with
    | true =>
      rw [par_cons_in e, par_cons_in (by rw [← hc]; exact e)]
      exact par_congr r lo lo' h
    | false =>
      rw [par_cons_out e, par_cons_out (by rw [← hc]; exact e)]
      congr 1
      exact par_congr r _ _ fun c => by rw [List.mem_filter, List.mem_filter, h c]
theorem stp_congr {lo lo' n : List Nat} (h : ∀ c, c ∈ lo ↔ c ∈ lo') : stp X lo n = stp X lo' n := by
  unfold stp
  rw [par_congr _ _ _ h]
/-- the letters that are moved are letters of the way -/
theorem par_mrM (cr : Crossing X) : ∀ (r lo : List Nat), ∃ mv : List Nat, (∀ c ∈ mv, c ∈ lo ∧ c ∈ r) ∧ ∀ t, mr X (r ++ t) = mr X (mv ++ (par X lo r ++ t))
  | [], lo => ⟨[], (fun c h => by cases h), fun t => by unfold par; rfl⟩
  | a :: r, lo => by
    cases e : lo.contains a with
    | true =>
      obtain ⟨mv, h1, h2⟩ := par_mrM cr r lo
      refine ⟨a :: mv, fun c hc => ?_, fun t => ?_⟩
      · rcases List.mem_cons.mp hc with z | z
        · rw [z]; exact ⟨List.contains_iff_mem.mp e, List.mem_cons_self⟩
        · exact ⟨(h1 c z).1, List.mem_cons_of_mem _ (h1 c z).2⟩
      · rw [par_cons_in e]
        show thr X (mr X (r ++ t)) a = thr X (mr X (mv ++ (par X lo r ++ t))) a
        rw [h2]
    | false =>
      obtain ⟨mv, h1, h2⟩ := par_mrM cr r (lo.filter (X a))
      refine ⟨mv, fun c hc => ⟨(List.mem_filter.mp (h1 c hc).1).1, List.mem_cons_of_mem _ (h1 c hc).2⟩, fun t => ?_⟩
      rw [par_cons_out e]
      show _ = mr X (mv ++ a :: (par X (lo.filter (X a)) r ++ t))
      rw [mr_pass cr _ mv fun c hc => (List.mem_filter.mp (h1 c hc).1).2]
      show thr X (mr X (r ++ t)) a = thr X (mr X (mv ++ _)) a
      rw [h2]
/-- a block has one nearest room -/
theorem stp_one (cr : Crossing X) {lo m m' t : List Nat} (nm : isName X m = true) (nm' : isName X m' = true) (km : ∀ c ∈ m, c ∈ ks) (km' : ∀ c ∈ m', c ∈ ks) (hlo : ∀ c ∈ lo, c ∈ ks)
    (rm : ∀ c ∈ lo, rd X m.reverse c = false) (rm' : ∀ c ∈ lo, rd X m'.reverse c = false) (ht : ∀ c ∈ t, c ∈ lo) (h : mr X m'.reverse = mr X (t ++ m.reverse)) : m' = m := by
  have e0 : mr X (t ++ m.reverse) = mr X (fol lo X [] t ++ m.reverse) := (mr_folT (ks := lo) cr t m.reverse).symm
  rw [e0] at h
  have n0 := fol_isName (ks := lo) cr ht
  have k0 := fol_in (ks := lo) cr ht
  generalize fol lo X [] t = t0 at h n0 k0
  have r : red X (t0 ++ m.reverse) = true := red_cat cr (name_red nm) (isName_red n0) fun c h1 h2 => by
    have cl : c ∈ lo := k0 c (List.mem_reverse.mp (rd_mem h1))
    rw [rm c cl] at h2
    cases h2
  cases t0 with
  | nil => exact (mr_injR cr nm' nm km' km h)
  | cons a t1 =>
    exfalso
    have al : a ∈ lo := k0 a List.mem_cons_self
    have h1 : rd X (a :: t1 ++ m.reverse) a = true := by
      show ((a == a) || _) = true
      simp
    have b1 := (back_iff cr (ks := ks) r (hlo a al)).mpr h1
    rw [← h] at b1
    have b2 := (back_iff cr (ks := ks) (name_red nm') (hlo a al)).mp b1
    rw [rm' a al] at b2
    cases b2
theorem stp_walk (cr : Crossing X) {lo w t : List Nat} (hw : ∀ c ∈ w, c ∈ ks) (hlo : ∀ c ∈ lo, c ∈ ks) (ht : ∀ c ∈ t, c ∈ lo) : stp X lo (fol ks X [] (w ++ t)) = stp X lo (fol ks X [] w) := by
  have hw2 : ∀ c ∈ w ++ t, c ∈ ks := in_app hw fun c hc => hlo c (ht c hc)
  have n1 := fol_isName cr hw
  have n2 := fol_isName cr hw2
  obtain ⟨mv, h1, h2⟩ := par_mrM cr (fol ks X [] w).reverse lo
  obtain ⟨mv', h1', h2'⟩ := par_mrM cr (fol ks X [] (w ++ t)).reverse lo
  have e1 := h2 []
  have e2 := h2' []
  rw [List.append_nil, List.append_nil] at e1 e2
  have f1 : mr X (fol ks X [] w).reverse = mr X w.reverse := (mr_revs cr w).symm
  have f2 : mr X (fol ks X [] (w ++ t)).reverse = mr X (t.reverse ++ w.reverse) := by rw [← mr_revs cr, List.reverse_append]
  refine stp_one (ks := ks) cr (t := mv'.reverse ++ (t.reverse ++ mv)) (stp_name cr n1) (stp_name cr n2) (stp_in (fol_in cr hw)) (stp_in (fol_in cr hw2)) hlo (fun c hc => stp_rd hc) (fun c hc => stp_rd hc) (fun c hc => ?_) ?_
  · rcases List.mem_append.mp hc with z | z
    · exact (h1' c (List.mem_reverse.mp z)).1
    · rcases List.mem_append.mp z with z | z
      · exact ht c (List.mem_reverse.mp z)
      · exact (h1 c z).1
  · unfold stp
    rw [List.reverse_reverse, List.reverse_reverse, List.append_assoc, List.append_assoc]
    have g1 : mr X (mv'.reverse ++ (mv' ++ par X lo (fol ks X [] (w ++ t)).reverse)) = mr X (par X lo (fol ks X [] (w ++ t)).reverse) := by
      have z := mr_back (X := X) (par X lo (fol ks X [] (w ++ t)).reverse) mv'.reverse
      rw [List.reverse_reverse] at z
      exact z
    rw [← g1]
    refine mr_app ?_ mv'.reverse
    rw [← e2, f2]
    refine mr_app ?_ t.reverse
    rw [← f1, e1]
theorem stp_idem {lo lo' n : List Nat} (h : ∀ c ∈ lo', c ∈ lo) : stp X lo' (stp X lo n) = stp X lo n := stp_id fun c hc => stp_rd (h c hc)
/-- the gate of one block in another one, if both have a room in common -/
structure GateB (ks : List Nat) (X : Nat → Nat → Bool) (I J x : List Nat) (p : List Nat) : Prop where
  kp : ∀ c ∈ p, c ∈ ks
  one : stp X I (fol ks X (stp X I x) p) = stp X I x
  both : ∀ L : List Nat, (∀ c, c ∈ L ↔ c ∈ I ∧ c ∈ J) → stp X L (fol ks X (stp X I x) p) = stp X L x
theorem stp_split (cr : Crossing X) {lo n : List Nat} (hn : ∀ c ∈ n, c ∈ ks) : ∃ u : List Nat, (∀ c ∈ u, c ∈ lo ∧ c ∈ n) ∧ ∀ t, mr X (n ++ t) = mr X (stp X lo n ++ (u ++ t)) := by
  obtain ⟨mv, h1, h2⟩ := par_mrM cr n.reverse lo
  refine ⟨mv.reverse, fun c hc => ?_, fun t => ?_⟩
  · have z := h1 c (List.mem_reverse.mp hc)
    exact ⟨z.1, List.mem_reverse.mp z.2⟩
  · have z := mr_inv (X := X) (n := n.reverse) (w := mv ++ par X lo n.reverse) (fun t => by rw [h2 t, List.append_assoc]) t
    rw [List.reverse_reverse, List.reverse_append] at z
    rw [z]
    unfold stp
    rw [List.append_assoc]
theorem gateB (cr : Crossing X) {I J x : List Nat} (nx : isName X x = true) (kx : ∀ c ∈ x, c ∈ ks) (kI : ∀ c ∈ I, c ∈ ks) (kJ : ∀ c ∈ J, c ∈ ks) :
    GateB ks X I J x (stp X J (fol ks X [] ((stp X I x).reverse ++ stp X J x))) := by
  have na := stp_name (lo := I) cr nx
  have nb := stp_name (lo := J) cr nx
  have ka := stp_in (X := X) (lo := I) kx
  have kb := stp_in (X := X) (lo := J) kx
  obtain ⟨u, hu, eu⟩ := stp_split (ks := ks) cr (lo := I) kx
  obtain ⟨v, hv, ev⟩ := stp_split (ks := ks) cr (lo := J) kx
  have ku : ∀ c ∈ u, c ∈ ks := fun c hc => kI c (hu c hc).1
  have kv : ∀ c ∈ v, c ∈ ks := fun c hc => kJ c (hv c hc).1
  -- the way is u, then v turned about
  have way : fol ks X [] ((stp X I x).reverse ++ stp X J x) = fol ks X [] (u ++ v.reverse) := fol_eq cr (in_app (in_rev ka) kb) (in_app ku (in_rev kv)) (by
    have e1 : mr X ((stp X I x).reverse ++ stp X J x) = mr X ((stp X I x).reverse ++ (stp X J x ++ (v ++ v.reverse))) := by
      rw [← List.append_assoc (stp X J x) v v.reverse, ← List.append_assoc]
      have z := mr_back (X := X) [] v
      rw [List.append_nil] at z
      rw [← List.append_assoc]
      rw [show (stp X I x).reverse ++ stp X J x ++ v ++ v.reverse = ((stp X I x).reverse ++ stp X J x) ++ (v ++ v.reverse) from by simp]
      have y := mr_app (X := X) (t := v ++ v.reverse) (t' := []) (by rw [z]) ((stp X I x).reverse ++ stp X J x)
      rw [y, List.append_nil]
    rw [e1, mr_app (ev v.reverse).symm (stp X I x).reverse, mr_app (eu v.reverse) (stp X I x).reverse]
    have z := mr_back (X := X) (u ++ v.reverse) (stp X I x).reverse
    rw [List.reverse_reverse] at z
    exact z)
  rw [way, stp_walk cr ku kJ fun c hc => (hv c (List.mem_reverse.mp hc)).1]
  -- letters of the first block alone
  have e0 : fol ks X [] u = fol I X [] u := mr_inj cr (fol_isName cr ku) (fol_isName (ks := I) cr fun c hc => (hu c hc).1) (by rw [mr_fol0 cr, mr_fol0 (ks := I) cr])
  have n0 := fol_isName cr ku
  have k0 := fol_in cr ku
  have kI0 : ∀ c ∈ fol ks X [] u, c ∈ I := by rw [e0]; exact fol_in (ks := I) cr fun c hc => (hu c hc).1
  have eu0 : ∀ t, mr X (u ++ t) = mr X (fol ks X [] u ++ t) := fun t => (mr_folT cr u t).symm
  generalize fol ks X [] u = u0 at n0 k0 kI0 eu0
  obtain ⟨j, hj, ej⟩ := stp_split (ks := ks) cr (lo := J) k0
  have kp : ∀ c ∈ stp X J u0, c ∈ ks := stp_in k0
  have kj : ∀ c ∈ j, c ∈ ks := fun c hc => k0 c (hj c hc).2
  have ea : fol ks X (stp X I x) (stp X J u0) = fol ks X [] (stp X I x ++ stp X J u0) := mr_inj cr (fol_name cr _ _ ka kp na).1 (fol_isName cr (in_app ka kp)) (by rw [mr_fol0 cr, mr_fol0 cr, List.nil_append])
  refine ⟨kp, ?_, fun L hL => ?_⟩
  · rw [ea, stp_walk cr ka kI fun c hc => kI0 c (stp_mem c hc), fol_self cr na ka]
    exact stp_idem fun c hc => hc
  · rw [ea]
    have kL : ∀ c ∈ L, c ∈ ks := fun c hc => kI c ((hL c).mp hc).1
    have z := stp_walk (ks := ks) cr (lo := L) (w := stp X I x ++ stp X J u0) (t := j) (in_app ka kp) kL fun c hc => (hL c).mpr ⟨kI0 c (hj c hc).2, (hj c hc).1⟩
    rw [← z]
    congr 1
    have fx : fol ks X [] x = x := fol_self cr nx kx
    rw [← fx]
    refine fol_eq cr (in_app (in_app (stp_in (by rw [fx]; exact kx)) kp) kj) kx ?_
    rw [fx]
    have e1 := eu []
    rw [List.append_nil, List.append_nil] at e1
    have e2 := eu0 []
    rw [List.append_nil, List.append_nil] at e2
    have e3 := ej []
    rw [List.append_nil, List.append_nil] at e3
    rw [e1, mr_app (e2.trans e3) (stp X I x), List.append_assoc]
end CW
end
section
set_option maxRecDepth 100000
set_option maxHeartbeats 4000000
/-! crosswalls.blocks: blocks made -/
namespace TX
open PySem PySem.Spec PyProof.Rows L2 SX CW
section
open PySem.Builtin.Str
theorem S_strip (a b : List Nat) : Txt.stripChars (S a) (S b) = S (((a.dropWhile fun c => b.contains c).reverse.dropWhile fun c => b.contains c).reverse) := by
  show Txt.stripBy (S b).cps.contains true true (S a) = _
  rw [S_has]
  rw [stripBy_eq]
  refine TL.ext_tl ?_
  show (strSub (S a) _ _).cps.toList = ((((a.dropWhile fun c => b.contains c).reverse.dropWhile fun c => b.contains c).reverse)).toArray.toList
  rw [StrLaws.strSub_toList]
  have e1 : stripLo (fun c => b.contains c) true (S a) = (a.takeWhile (fun c => b.contains c)).length := by
    show ((S a).cps.toList.takeWhile _).length = _
    simp
  have h := CW.take_drop_while (fun c => b.contains c) a
  have e3 : a.drop (a.takeWhile (fun c => b.contains c)).length = a.dropWhile (fun c => b.contains c) := by
    conv => lhs; arg 2; rw [← h]
    rw [List.drop_left]
  have e2 : stripHi (fun c => b.contains c) true (S a) (a.takeWhile (fun c => b.contains c)).length = a.length - ((a.dropWhile (fun c => b.contains c)).reverse.takeWhile (fun c => b.contains c)).length := by
    show (S a).length - (((S a).cps.toList.drop _).reverse.takeWhile _).length = _
    rw [S_len, ← e3]
  rw [e1, e2]
  show (a.drop _).take _ = _
  rw [e3]
  have hl := congrArg List.length h
  rw [List.length_append] at hl
  generalize a.dropWhile (fun c => b.contains c) = u at hl
  generalize (a.takeWhile (fun c => b.contains c)).length = k at hl
  have g := CW.take_drop_while (fun c => b.contains c) u.reverse
  have g2 := congrArg List.reverse g
  rw [List.reverse_append, List.reverse_reverse] at g2
  have g3 := congrArg List.length g2
  rw [List.length_append, List.length_reverse, List.length_reverse] at g3
  have e4 : a.length - (u.reverse.takeWhile (fun c => b.contains c)).length - k = (u.reverse.dropWhile (fun c => b.contains c)).reverse.length := by
    rw [List.length_reverse]
    omega
  rw [e4]
  conv => lhs; arg 2; rw [← g2]
  rw [List.take_left]
end
theorem dropB_nil {p : Nat → Bool} : ∀ {l : List Nat}, l.dropWhile p = [] ↔ ∀ c ∈ l, p c = true
  | [] => ⟨fun _ c h => (by cases h), fun _ => rfl⟩
  | a :: l => by
    rw [List.dropWhile_cons, List.forall_mem_cons]
    cases e : p a with
    | true =>
      rw [if_pos rfl, dropB_nil]
      exact ⟨fun h => ⟨rfl, h⟩, fun h => h.2⟩
    | false =>
      rw [if_neg (by simp)]
      exact ⟨fun h => (by cases h), fun h => (by cases h.1)⟩
theorem stripB_nil {p : Nat → Bool} {a : List Nat} : (((a.dropWhile p).reverse.dropWhile p).reverse = []) ↔ ∀ c ∈ a, p c = true := by
  rw [List.reverse_eq_nil_iff, dropB_nil]
  constructor
  · intro h
    have e := CW.take_drop_while p a
    cases q : a.dropWhile p with
    | nil => exact dropB_nil.mp q
    | cons x r =>
      have z := CW.drop_head p a x r q
      have y := h x (List.mem_reverse.mpr (by rw [q]; exact List.mem_cons_self))
      rw [z] at y
      cases y
  · intro h c hc
    exact h c ((List.dropWhile_sublist p).subset (List.mem_reverse.mp hc))
/-- whether all of these kinds cross -/
def finB (X : Nat → Nat → Bool) (κ : List Nat) : Bool := κ.all fun k => κ.all fun c => decide (c = k) || X k c
/-- the number of the rooms of a block, or None -/
def manyV (X : Nat → Nat → Bool) (κ : List Nat) : V := if finB X κ = true then .int (2 ^ κ.length : Nat) else .non
/-- those of the kinds of the plan -/
def kof (ks κ : List Nat) : List Nat := ks.filter fun k => κ.contains k
theorem mem_kof {ks κ : List Nat} {c : Nat} : c ∈ kof ks κ ↔ c ∈ ks ∧ c ∈ κ := by
  unfold kof
  rw [List.mem_filter, List.contains_iff_mem]
def bflds (p x : Addr) (X : Nat → Nat → Bool) (κ : List Nat) : List (Str × V) := [("plan", .ref p), ("room", .ref x), ("kinds", .str (S κ)), ("many", manyV X κ)]
structure BlockAt (C CR CB : Addr) (H : Hp) (a x p : Addr) (ks : List Nat) (X : Nat → Nat → Bool) (n κ : List Nat) : Prop where
  rm : RoomAt C CR H x p ks X n
  ex : ∃ dx, H a = some (.ins CB dx (bflds p x X κ))
section
variable {C CR CB : Addr} {H H' : Hp} {a x p c q D : Addr} {m : Nat} {ks : List Nat} {X : Nat → Nat → Bool} {n κ : List Nat}
theorem BlockAt.same (h : BlockAt C CR CB H a x p ks X n κ) (s : L2.Same H H') : BlockAt C CR CB H' a x p ks X n κ := by
  obtain ⟨dx, e⟩ := h.ex
  exact ⟨h.rm.same s, dx, s _ _ e⟩
theorem BlockAt.pen (h : BlockAt C CR CB H a x q ks X n κ) (l0 : 0 < ks.length) (hp : PenAt H p c m) (b : But p H H') : BlockAt C CR CB H' a x q ks X n κ := by
  obtain ⟨dx, e⟩ := h.ex
  exact ⟨h.rm.pen l0 hp b, dx, b _ _ (pen_ne hp e fun _ _ _ z => by cases z) e⟩
theorem BlockAt.lst {ys : List V} {o : HO} (h : BlockAt C CR CB H a x p ks X n κ) (hD : H D = some (.lst ys)) : BlockAt C CR CB (upd H D o) a x p ks X n κ := by
  obtain ⟨dx, e⟩ := h.ex
  exact ⟨h.rm.lst hD, dx, by rw [upd_ne (fun z => by rw [z, hD] at e; cases e)]; exact e⟩
end
structure BlockT (K : PySem.W.Frag) (C : Addr) : Prop where
  cl : Cls K C
  np : NoAttr K C "plan"
  nr : NoAttr K C "room"
  nk : NoAttr K C "kinds"
  nm : NoAttr K C "many"
section
variable (p x : Addr) (X : Nat → Nat → Bool) (κ : List Nat)
theorem bf_plan : (bflds p x X κ).lookup ("plan" : Str) = some (.ref p) := by
  unfold bflds
  rw [List.lookup_cons, show (("plan" : Str) == ("plan" : Str)) = true from by decide +kernel]
theorem bf_room : (bflds p x X κ).lookup ("room" : Str) = some (.ref x) := by
  unfold bflds
  rw [List.lookup_cons, show (("room" : Str) == ("plan" : Str)) = false from by decide +kernel]
  dsimp only
  rw [List.lookup_cons, show (("room" : Str) == ("room" : Str)) = true from by decide +kernel]
theorem bf_kinds : (bflds p x X κ).lookup ("kinds" : Str) = some (.str (S κ)) := by
  unfold bflds
  rw [List.lookup_cons, show (("kinds" : Str) == ("plan" : Str)) = false from by decide +kernel]
  dsimp only
  rw [List.lookup_cons, show (("kinds" : Str) == ("room" : Str)) = false from by decide +kernel]
  dsimp only
  rw [List.lookup_cons, show (("kinds" : Str) == ("kinds" : Str)) = true from by decide +kernel]
theorem bf_many : (bflds p x X κ).lookup ("many" : Str) = some (manyV X κ) := by
  unfold bflds
  rw [List.lookup_cons, show (("many" : Str) == ("plan" : Str)) = false from by decide +kernel]
  dsimp only
  rw [List.lookup_cons, show (("many" : Str) == ("room" : Str)) = false from by decide +kernel]
  dsimp only
  rw [List.lookup_cons, show (("many" : Str) == ("kinds" : Str)) = false from by decide +kernel]
  dsimp only
  rw [List.lookup_cons, show (("many" : Str) == ("many" : Str)) = true from by decide +kernel]
theorem bf_eq (v : V) : putF "many" v (putF "kinds" (.str (S κ)) (putF "room" (.ref x) (putF "plan" (.ref p) []))) = ([("plan", .ref p), ("room", .ref x), ("kinds", .str (S κ)), ("many", v)] : List (Str × V)) := by
  have e1 : ¬ (("plan" : Str) = "room") := by decide +kernel
  have e2 : ¬ (("plan" : Str) = "kinds") := by decide +kernel
  have e3 : ¬ (("room" : Str) = "kinds") := by decide +kernel
  have e4 : ¬ (("plan" : Str) = "many") := by decide +kernel
  have e5 : ¬ (("room" : Str) = "many") := by decide +kernel
  have e6 : ¬ (("kinds" : Str) = "many") := by decide +kernel
  have h1 : putF "room" (.ref x) (putF "plan" (.ref p) []) = ([("plan", .ref p), ("room", .ref x)] : List (Str × V)) := by
    show (if ("plan" : Str) = "room" then _ else (("plan" : Str), V.ref p) :: putF "room" (.ref x) []) = _
    rw [if_neg e1]
    rfl
  have h2 : putF "kinds" (.str (S κ)) ([("plan", .ref p), ("room", .ref x)] : List (Str × V)) = ([("plan", .ref p), ("room", .ref x), ("kinds", .str (S κ))] : List (Str × V)) := by
    show (if ("plan" : Str) = "kinds" then _ else (("plan" : Str), V.ref p) :: (if ("room" : Str) = "kinds" then _ else (("room" : Str), V.ref x) :: putF "kinds" (.str (S κ)) [])) = _
    rw [if_neg e2, if_neg e3]
    rfl
  rw [h1, h2]
  show (if ("plan" : Str) = "many" then _ else (("plan" : Str), V.ref p) :: (if ("room" : Str) = "many" then _ else (("room" : Str), V.ref x) :: (if ("kinds" : Str) = "many" then _ else (("kinds" : Str), V.str (S κ)) :: putF "many" v []))) = _
  rw [if_neg e4, if_neg e5, if_neg e6]
  rfl
end
def spChkKinds (C : Addr) : Sp := fun vs H Q _ => ∃ (p : Addr) (ks : List Nat) (X : Nat → Nat → Bool) (κ : List Nat), vs = [.ref p, .str (S κ)] ∧ PlanAt C H p ks X ∧ (∀ c ∈ κ, c ∈ ks) ∧ κ.Nodup ∧ κ.length ≤ 1000 ∧ ∀ H', L2.Same H H' → Q .non H'
def spMany (C : Addr) : Sp := fun vs H Q _ => ∃ (p : Addr) (ks : List Nat) (X : Nat → Nat → Bool) (κ : List Nat), vs = [.ref p, .str (S κ)] ∧ PlanAt C H p ks X ∧ (∀ c ∈ κ, c ∈ ks) ∧ κ.length ≤ 1000 ∧ Q (manyV X κ) H
def spBlockInit (C CR CB : Addr) : Sp := fun vs H Q _ => ∃ (r dx b p : Addr) (ks : List Nat) (X : Nat → Nat → Bool) (n κ : List Nat), vs = [.ref r, .ref b, .str (S κ)] ∧ H r = some (.ins CB dx []) ∧ RoomAt C CR H b p ks X n ∧ (∀ c ∈ κ, c ∈ ks) ∧ κ.Nodup ∧ (∀ c ∈ n, c ∈ ks) ∧ n.length ≤ 2000 ∧
  ∀ H' x, But r H H' → BlockAt C CR CB H' r x p ks X (stp X κ n) (kof ks κ) → Q .non H'
section
variable {P : Program} {w : World} {K : PySem.W.Frag} {mg : Str → Option Value} {base : Heap} {C CR CB : Addr}
end
end TX
end
section
set_option maxRecDepth 100000
set_option maxHeartbeats 4000000
/-! the walls between rooms: their texts, their vectors -/
namespace CW
variable {X : Nat → Nat → Bool} {ks : List Nat}
def inC (ks : List Nat) (vs : List Vec) (u : Vec) : Bool := decide (∃ w ∈ vs, ∀ j ∈ ks, w j = u j)
theorem inC_mem {vs : List Vec} {u : Vec} : inC ks vs u = true ↔ ks.map u ∈ vs.map fun w => ks.map w := by
  unfold inC
  rw [decide_eq_true_iff, List.mem_map]
  constructor
  · rintro ⟨w, hw, h⟩
    exact ⟨w, hw, List.map_congr_left h⟩
  · rintro ⟨w, hw, h⟩
    refine ⟨w, hw, fun j hj => ?_⟩
    obtain ⟨q, hq, rfl⟩ := List.getElem_of_mem hj
    have z := congrArg (fun l => l[q]?) h
    simpa [List.getElem?_map, List.getElem?_eq_getElem hq] using z
theorem nodup_sub {α : Type} [DecidableEq α] : ∀ {a b : List α}, a.Nodup → (∀ x ∈ a, x ∈ b) → a.length ≤ b.length
  | [], _, _, _ => Nat.zero_le _
  | x :: a, b, h, s => by
    rw [List.nodup_cons] at h
    have hx := s x List.mem_cons_self
    have := nodup_sub (a := a) (b := b.erase x) h.2 fun y hy => (List.mem_erase_of_ne (fun e => h.1 (by rw [← e]; exact hy))).mpr (s y (List.mem_cons_of_mem _ hy))
    rw [List.length_erase_of_mem hx] at this
    have pos := List.length_pos_of_mem hx
    rw [List.length_cons]
    omega
theorem crs_nodup (cr : Crossing X) (nd : ks.Nodup) {n : List Nat} (hn : isName X n = true) (kn : ∀ c ∈ n, c ∈ ks) : ((crsA X [] n).map fun u => ks.map u).Nodup := by
  have len : ∀ (l p : List Nat), (crsA X p l).length = l.length := TX.crsA_len X
  have at_ : ∀ (l p : List Nat) (i : Nat) (h : i < l.length), (crsA X p l)[i]? = some (mr X ((l.take i).reverse ++ p) l[i]) := by
    intro l
    induction l with
    | nil => intro p i h; cases h
    | cons c l ih =>
      intro p i h
      cases i with
      | zero => rfl
      | succ i =>
        show (crsA X (c :: p) l)[i]? = _
        rw [ih (c :: p) i (by simpa using h)]
        simp
  rw [List.nodup_iff_pairwise_ne, List.pairwise_map, List.pairwise_iff_getElem]
  intro i j hi hj lt e
  have li : i < n.length := by rw [len] at hi; exact hi
  have lj : j < n.length := by rw [len] at hj; exact hj
  have ei := at_ n [] i li
  have ej := at_ n [] j lj
  rw [List.getElem?_eq_getElem hi, List.append_nil] at ei
  rw [List.getElem?_eq_getElem hj, List.append_nil] at ej
  rw [Option.some.inj ei, Option.some.inj ej] at e
  have same : ∀ x ∈ ks, mr X (n.take i).reverse n[i] x = mr X (n.take j).reverse n[j] x := fun x hx => by
    obtain ⟨q, hq, rfl⟩ := List.getElem_of_mem hx
    have z := congrArg (fun l => l[q]?) e
    simpa [List.getElem?_map, List.getElem?_eq_getElem hq] using z
  have sj := at_split (List.getElem?_eq_getElem lj)
  have hm : (n.take j)[i]? = some n[i] := by
    rw [List.getElem?_take, if_pos lt]
    exact List.getElem?_eq_getElem li
  have sm := at_split hm
  rw [List.take_take, Nat.min_eq_left (by omega)] at sm
  generalize (n.take j).drop (i + 1) = m at sm
  have r := isName_red hn
  have kz := kn
  rw [sm, List.append_assoc, List.cons_append] at sj
  rw [sm] at same
  rw [sj] at r kz
  have key := crs_apart (ks := ks) cr nd (a := n.take i) (m := m) (b := n.drop (j + 1)) (k := n[i]) (k' := n[j]) r kz
  exact key same
/-- a wall, told by the room and the door nearest to home -/
structure Tl (ks : List Nat) (X : Nat → Nat → Bool) (U : List Nat) (d : Nat) : Prop where
  n : isName X U = true
  k : ∀ c ∈ U, c ∈ ks
  dk : d ∈ ks
  l : lst ks X U d
theorem Tl.of (cr : Crossing X) {n : List Nat} {d : Nat} (hn : isName X n = true) (kn : ∀ c ∈ n, c ∈ ks) (hd : d ∈ ks) : Tl ks X (toD ks X n d) d :=
  ⟨toD_name cr hn, toD_in kn, hd, fun c hc => toD_rd hc⟩
theorem Tl.two (cr : Crossing X) (nd : ks.Nodup) {U V : List Nat} {d k : Nat} (t : Tl ks X U d) (s : Tl ks X V k) : TwoW ks X U V d k := ⟨cr, nd, t.dk, s.dk, t.n, s.n, t.k, s.k, t.l, s.l⟩
/-- is the wall ahead of this room? -/
def sg (X : Nat → Nat → Bool) (U : List Nat) (d : Nat) (n : List Nat) : Bool := ng X (U.reverse ++ n) d
theorem Tl.inC (cr : Crossing X) (nd : ks.Nodup) {U v : List Nat} {d : Nat} (t : Tl ks X U d) (kv : ∀ c ∈ v, c ∈ ks) : inC ks (crsA X [] (fol ks X [] v)) (mr X U.reverse d) = sg X U d v := by
  have h1 := bey_iff (ks := ks) cr nd (u := U) (n := fol ks X [] v) t.dk t.k (fol_in cr kv) t.n (fol_isName cr kv) (t.l d List.mem_cons_self)
  have h2 := bey_ng (ks := ks) cr (V := U) (z := fol ks X [] v) t.dk t.k (fol_in cr kv) (name_red t.n)
  have h3 : ng X (U.reverse ++ fol ks X [] v) d = ng X (U.reverse ++ v) d := ng_mr (mr_app (by rw [mr_fol0 cr, List.nil_append]) _) d
  unfold CW.inC sg
  rw [← h3, ← h2, Bool.eq_iff_iff, decide_eq_true_iff, h1]
/-- the first step goes through just the door's wall -/
theorem head_iff (cr : Crossing X) (nd : ks.Nodup) {U n : List Nat} {d k : Nat} (t : Tl ks X U d) (hn : isName X n = true) (kn : ∀ c ∈ n, c ∈ ks) (hk : k ∈ ks) : sg X U d n ≠ sg X U d (n ++ [k]) ↔ U ++ [d] = toD ks X n k ++ [k] := by
  have s := Tl.of (ks := ks) cr hn kn hk
  constructor
  · intro h
    unfold sg at h
    rw [← List.append_assoc] at h
    have e := ng_turn cr nd (h := U.reverse) (a := n) t.dk hk (in_rev t.k) kn h
    have pU := (mr_pos cr _ (name_red t.n)).1 d (t.l d List.mem_cons_self)
    have pV := toD_pos (ks := ks) (d := k) cr hn
    have same : ∀ j ∈ ks, mr X U.reverse d j = mr X (toD ks X n k).reverse k j := by
      rcases toD_vec (ks := ks) cr n k with v | v
      · rcases e with e | e
        · intro j hj
          rw [e j hj, v j]
        · exfalso
          have a := e d t.dk
          have b := pU d
          have c := pV d
          have o := root_odd (X := X) (r := U.reverse) (k := d)
          have := v d
          omega
      · rcases e with e | e
        · exfalso
          have a := e d t.dk
          have b := pU d
          have c := pV d
          have o := root_odd (X := X) (r := U.reverse) (k := d)
          have := v d
          omega
        · intro j hj
          have a := e j hj
          have b := v j
          omega
    obtain ⟨e1, e2⟩ := (t.two cr nd s).same_iff.mp same
    rw [e1, e2]
  · intro h
    obtain ⟨e1, e2⟩ := List.append_inj' h rfl
    cases e2
    subst e1
    unfold sg
    intro z
    have lin : ∀ (e : Int), (∀ j, mr X (toD ks X n d).reverse d j = e * mr X n.reverse d j) → ∀ (v : List Nat) (j : Nat), mr X ((toD ks X n d).reverse ++ v) d j = e * mr X (n.reverse ++ v) d j := fun e he v j => by
      rw [mr_lin nd v _ d hk (in_rev s.k) j, mr_lin nd v _ d hk (in_rev kn) j, sum_mul]
      refine sum_ext fun i hi => ?_
      rw [he i, Int.mul_assoc]
    have y1 := mr_back (X := X) [] n.reverse
    rw [List.reverse_reverse, List.append_nil] at y1
    have y2 := mr_back (X := X) [d] n.reverse
    rw [List.reverse_reverse] at y2
    have u0 : mr X [] d d = 1 := if_pos rfl
    have u1 : mr X [d] d d = -1 := by
      show thr X (mr X []) d d d = _
      unfold thr
      rw [if_pos rfl, u0]
    have go : ∀ e : Int, (e = 1 ∨ e = -1) → (∀ j, mr X (toD ks X n d).reverse d j = e * mr X n.reverse d j) → False := fun e he hv => by
      have a := lin e hv n d
      have b := lin e hv (n ++ [d]) d
      rw [y1, u0] at a
      rw [y2, u1] at b
      unfold ng at z
      rw [a, b] at z
      rcases he with rfl | rfl <;> revert z <;> decide
    rcases toD_vec (ks := ks) cr n d with v | v
    · exact go 1 (.inl rfl) fun j => by rw [Int.one_mul]; exact (v j).symm
    · exact go (-1) (.inr rfl) fun j => by have := v j; omega
theorem sg_beh (cr : Crossing X) {U n : List Nat} {d k : Nat} (v : List Nat) : sg X U d (beh ks X n k ++ v) = sg X U d (n ++ k :: v) := by
  unfold sg
  refine ng_mr (mr_app ?_ _) d
  have z := mr_fol (ks := ks) (X := X) cr [k] n v
  have e : fol ks X n [k] = beh ks X n k := rfl
  rw [e] at z
  rw [z]
  simp
/-- the walls on a way that can't be made shorter -/
theorem tx_iff (cr : Crossing X) (nd : ks.Nodup) : ∀ (w n : List Nat), isName X n = true → (∀ c ∈ n, c ∈ ks) → (∀ c ∈ w, c ∈ ks) → red X w = true → ∀ (U : List Nat) (d : Nat), Tl ks X U d → (U ++ [d] ∈ txL ks X n w ↔ sg X U d n ≠ sg X U d (n ++ w))
  | [], n, _, _, _, _, U, d, t => by
    rw [List.append_nil]
    exact ⟨fun h => (by cases h), fun h => absurd rfl h⟩
  | k :: w, n, hn, kn, kw, r, U, d, t => by
    have hk := kw k List.mem_cons_self
    have kw' := fun c hc => kw c (List.mem_cons_of_mem k hc)
    have hb := beh_name (ks := ks) (k := k) cr kn hn
    have kb := beh_letters (X := X) kn hk
    have rw' : red X w = true := by
      have z : (!rd X w k && red X w) = true := r
      rw [Bool.and_eq_true] at z
      exact z.2
    have ih := tx_iff cr nd w (beh ks X n k) hb kb kw' rw' _ _ t
    have e1 := sg_beh (ks := ks) cr (U := U) (n := n) (d := d) (k := k) []
    rw [List.append_nil] at e1
    rw [e1, sg_beh cr] at ih
    have hd := head_iff cr nd (k := k) t hn kn hk
    have mid : sg X U d n = sg X U d (n ++ [k]) ∨ sg X U d (n ++ k :: w) = sg X U d (n ++ [k]) := by
      have f := flip_one cr nd (g := U.reverse ++ (n ++ [k])) (x := [k]) (y := w) t.dk (in_app (in_rev t.k) (in_app kn fun c hc => by rw [List.mem_singleton.mp hc]; exact hk)) (fun c hc => by rw [List.mem_singleton.mp hc]; exact hk) kw' r
      have g1 : ng X (U.reverse ++ (n ++ [k]) ++ [k]) d = ng X (U.reverse ++ n) d := ng_mr (by
        have z := mr_there (X := X) (U.reverse ++ n) [k]
        rw [show [k].reverse = [k] from rfl] at z
        simpa [List.append_assoc] using z) d
      have g2 : U.reverse ++ (n ++ [k]) ++ w = U.reverse ++ (n ++ k :: w) := by simp
      rw [g1, g2] at f
      exact f
    show U ++ [d] ∈ (toD ks X n k ++ [k]) :: txL ks X (beh ks X n k) w ↔ _
    rw [List.mem_cons, ← hd, ih]
    generalize sg X U d n = a at *
    generalize sg X U d (n ++ [k]) = b at *
    generalize sg X U d (n ++ k :: w) = c at *
    revert mid
    cases a <;> cases b <;> cases c <;> decide
theorem tx_tl (cr : Crossing X) : ∀ (w n : List Nat), isName X n = true → (∀ c ∈ n, c ∈ ks) → (∀ c ∈ w, c ∈ ks) → ∀ y ∈ txL ks X n w, ∃ U d, y = U ++ [d] ∧ Tl ks X U d
  | [], _, _, _, _, y, h => by cases h
  | k :: w, n, hn, kn, kw, y, h => by
    have hk := kw k List.mem_cons_self
    rcases List.mem_cons.mp h with e | h
    · exact ⟨_, _, e, Tl.of cr hn kn hk⟩
    · exact tx_tl cr w (beh ks X n k) (beh_name cr kn hn) (beh_letters kn hk) (fun c hc => kw c (List.mem_cons_of_mem _ hc)) y h
theorem tx_nodup (cr : Crossing X) (nd : ks.Nodup) : ∀ (w n : List Nat), isName X n = true → (∀ c ∈ n, c ∈ ks) → (∀ c ∈ w, c ∈ ks) → red X w = true → (txL ks X n w).Nodup
  | [], _, _, _, _, _ => List.nodup_nil
  | k :: w, n, hn, kn, kw, r => by
    have hk := kw k List.mem_cons_self
    have kw' := fun c hc => kw c (List.mem_cons_of_mem k hc)
    have hb := beh_name (ks := ks) (k := k) cr kn hn
    have kb := beh_letters (X := X) kn hk
    have rw' : red X w = true := by
      have z : (!rd X w k && red X w) = true := r
      rw [Bool.and_eq_true] at z
      exact z.2
    show ((toD ks X n k ++ [k]) :: txL ks X (beh ks X n k) w).Nodup
    rw [List.nodup_cons]
    refine ⟨fun h => ?_, tx_nodup cr nd w _ hb kb kw' rw'⟩
    have t := Tl.of (ks := ks) cr hn kn hk
    have z1 := (tx_iff cr nd w (beh ks X n k) hb kb kw' rw' _ _ t).mp h
    have z2 := (head_iff cr nd (k := k) t hn kn hk).mpr rfl
    have z3 := (tx_iff cr nd (k :: w) n hn kn kw r _ _ t).mp List.mem_cons_self
    have e1 := sg_beh (ks := ks) cr (U := toD ks X n k) (n := n) (d := k) (k := k) []
    rw [List.append_nil] at e1
    rw [e1, sg_beh cr] at z1
    generalize sg X (toD ks X n k) k n = a at *
    generalize sg X (toD ks X n k) k (n ++ [k]) = b at *
    generalize sg X (toD ks X n k) k (n ++ k :: w) = c at *
    revert z1 z2 z3
    cases a <;> cases b <;> cases c <;> decide
end CW
end
section
set_option maxRecDepth 100000
set_option maxHeartbeats 4000000
/-! crosswalls.blocks: the class Block -/
namespace TX
open PySem PySem.Spec PyProof.Rows L2 SX CW
theorem kof_len {ks κ : List Nat} : (kof ks κ).length ≤ ks.length := List.length_filter_le _ _
theorem filt_step {p : Nat → Bool} {l : List Nat} {i c : Nat} (h : l[i]? = some c) : (l.take (i + 1)).filter p = (l.take i).filter p ++ (if p c = true then [c] else []) := by
  rw [take_one h, List.filter_append]
  congr 1
  by_cases z : p c = true <;> simp [List.filter, z]
section
variable {P : Program} {w : World} {K : PySem.W.Frag} {mg : Str → Option Value} {base : Heap} {C CR CB CL : Addr}
abbrev nBk : List Str := ["self", "room", "kinds", "kind"]
end
end TX
end
section
set_option maxRecDepth 100000
set_option maxHeartbeats 4000000
/-! crosswalls.blocks: what two blocks have in common; blocks compared -/
namespace TX
open PySem PySem.Spec PyProof.Rows L2 SX CW
theorem alo_in {ks : List Nat} {X : Nat → Nat → Bool} {d : Nat} (hd : d ∈ ks) : ∀ c ∈ alo ks X d, c ∈ ks := fun c hc => by
  rcases List.mem_cons.mp hc with z | z
  · rw [z]; exact hd
  · exact (List.mem_filter.mp z).1
theorem alo_nodup {ks : List Nat} {X : Nat → Nat → Bool} {d : Nat} (cr : Crossing X) (nd : ks.Nodup) : (alo ks X d).Nodup := by
  refine List.nodup_cons.mpr ⟨fun z => ?_, List.Nodup.sublist List.filter_sublist nd⟩
  have := (List.mem_filter.mp z).2
  rw [cr.irr] at this
  cases this
/-- the kinds that both have -/
def cap (a b : List Nat) : List Nat := a.filter fun k => b.contains k
theorem mem_cap {a b : List Nat} {c : Nat} : c ∈ cap a b ↔ c ∈ a ∧ c ∈ b := by
  unfold cap
  rw [List.mem_filter, List.contains_iff_mem]
/-- the name of the gate of a room in a block -/
def gatN (ks : List Nat) (X : Nat → Nat → Bool) (n m κ : List Nat) : List Nat := fol ks X n (stp X κ (fol ks X [] (n.reverse ++ m)))
theorem gatN_len {ks : List Nat} {X : Nat → Nat → Bool} {n m κ : List Nat} : (gatN ks X n m κ).length ≤ n.length + (n.length + m.length) := by
  have a := fol_length ks X (stp X κ (fol ks X [] (n.reverse ++ m))) n
  have b := stp_len (X := X) (lo := κ) (n := fol ks X [] (n.reverse ++ m))
  have c := fol_length ks X (n.reverse ++ m) []
  rw [List.length_append, List.length_reverse, List.length_nil] at c
  unfold gatN
  omega
theorem gatN_in {ks : List Nat} {X : Nat → Nat → Bool} {n m κ : List Nat} (cr : Crossing X) (hn : ∀ c ∈ n, c ∈ ks) (hm : ∀ c ∈ m, c ∈ ks) : ∀ c ∈ gatN ks X n m κ, c ∈ ks :=
  fol_lets _ _ hn (stp_in (fol_in cr (in_app (in_rev hn) hm)))
def spAlong (C CR CL CB : Addr) : Sp := fun vs H Q _ => ∃ (a x p : Addr) (ks : List Nat) (X : Nat → Nat → Bool) (n : List Nat) (d : Nat), vs = [.ref a] ∧ WallAt C CR CL H a x p ks X n d ∧ d ∈ ks ∧ (∀ c ∈ n, c ∈ ks) ∧ n.length ≤ 2000 ∧
  ∀ (r y : Addr) (H' : Hp), BlockAt C CR CB H' r y p ks X (toD ks X n d) (kof ks (alo ks X d)) → L2.Same H H' → Q (.ref r) H'
def spGatN (C CR CB : Addr) : Sp := fun vs H Q _ => ∃ (p b y q : Addr) (ks : List Nat) (X : Nat → Nat → Bool) (n m κ : List Nat), vs = [.ref p, .str (S n), .ref b] ∧ PlanAt C H p ks X ∧ BlockAt C CR CB H b y q ks X m κ ∧ (∀ c ∈ n, c ∈ ks) ∧ (∀ c ∈ m, c ∈ ks) ∧ (∀ c ∈ κ, c ∈ ks) ∧ n.length ≤ 600 ∧ m.length ≤ 600 ∧ κ.length ≤ 1000 ∧
  ∀ H', L2.Same H H' → Q (.str (S (gatN ks X n m κ))) H'
def spShared (C CR CB : Addr) : Sp := fun vs H Q _ => ∃ (a b x y p q : Addr) (ks : List Nat) (X : Nat → Nat → Bool) (n m κ κ' : List Nat), vs = [.ref a, .ref b] ∧ BlockAt C CR CB H a x p ks X n κ ∧ BlockAt C CR CB H b y q ks X m κ' ∧ κ.length ≤ 1000 ∧ κ'.length ≤ 1000 ∧
  ∀ H', L2.Same H H' → Q (.str (S (cap κ κ'))) H'
def spBAnd (C CR CB : Addr) : Sp := fun vs H Q _ => ∃ (a b x y p q : Addr) (ks : List Nat) (X : Nat → Nat → Bool) (n m κ κ' : List Nat), vs = [.ref a, .ref b] ∧ BlockAt C CR CB H a x p ks X n κ ∧ BlockAt C CR CB H b y q ks X m κ' ∧ (∀ c ∈ n, c ∈ ks) ∧ (∀ c ∈ m, c ∈ ks) ∧ (∀ c ∈ κ, c ∈ ks) ∧ (∀ c ∈ κ', c ∈ ks) ∧ κ.Nodup ∧ n.length ≤ 600 ∧ m.length ≤ 600 ∧ κ.length ≤ 1000 ∧ κ'.length ≤ 1000 ∧
  (stp X κ (gatN ks X n m κ') = n → ∀ (r z : Addr) (H' : Hp), BlockAt C CR CB H' r z p ks X (stp X (cap κ κ') (gatN ks X n m κ')) (kof ks (cap κ κ')) → L2.Same H H' → Q (.ref r) H') ∧
  (stp X κ (gatN ks X n m κ') ≠ n → ∀ H', L2.Same H H' → Q .non H')
def spBlockEq (C CR CB : Addr) : Sp := fun vs H Q _ => ∃ (a b x y p q : Addr) (ks : List Nat) (X : Nat → Nat → Bool) (n m κ κ' : List Nat), vs = [.ref a, .ref b] ∧ BlockAt C CR CB H a x p ks X n κ ∧ BlockAt C CR CB H b y q ks X m κ' ∧ Q (.bl (decide (κ = κ') && decide (n = m))) H
section
variable {P : Program} {w : World} {K : PySem.W.Frag} {mg : Str → Option Value} {base : Heap} {C CR CB CL : Addr}
theorem mk_block {H : Hp} {x dx b p : Addr} {ks : List Nat} {X : Nat → Nat → Bool} {n κ : List Nat} {Q : VK} (hx : H x = none) (hdx : H dx = none) (hb : RoomAt C CR H b p ks X n) (hk : ∀ c ∈ κ, c ∈ ks) (nd : κ.Nodup) (hn : ∀ c ∈ n, c ∈ ks) (ln : n.length ≤ 2000)
    (q : ∀ H' y, BlockAt C CR CB H' x y p ks X (stp X κ n) (kof ks κ) → L2.Same H H' → Q .non H') : spBlockInit C CR CB [.ref x, .ref b, .str (S κ)] (upd (upd H dx (.own x)) x (.ins CB dx [])) Q C8.E0 :=
  ⟨x, dx, b, p, ks, X, n, κ, rfl, upd_same, hb.same (same_born hx hdx), hk, nd, hn, ln, fun H' y bt hw => q H' y hw (born_same hx hdx bt)⟩
abbrev nAnd : List Str := ["self", "other", "name", "kinds"]
end
end TX
end
section
set_option maxRecDepth 100000
set_option maxHeartbeats 4000000
/-! an error with an __init__ of its own, made where nothing is handled: its context is None -/
namespace TX
open PySem PySem.Spec PyProof.Rows L2
theorem mk_endN {X : Cx} {pins : List (Addr × Obj)} {σ : L2.St} {H1 H2 : Hp} {Q : XK} {hp hp2 h2 : Heap} {g1 g2 : Array GenState} {d1 d2 : Drawn} {t1 t2 : Nat} {os1 os2 : OsState} {a C d : Addr} {fs : List (Str × V)}
    (T : L2.Raises X (.ref C)) (I1 : L2.Inv X pins σ H1 ⟨hp, g1, d1, t1, os1⟩) (ha : hp.objs.size ≤ a) (k : ∀ b o, hp.get? b = some o → hp2.get? b = some o) (un : L2.Un (L2.frs X.stack) [] (upd H1 a (exo a C none)) H2 hp2 h2) (hok : HOk X.prog X.w H2 h2) (ho : os2 = os1) (hb : AllBare g2)
    (ea : H2 a = some (exo a C (some d))) (ed : H2 d = some (exd d fs)) (hd1 : H1 d = none) (q : Q (.ref C) (some d) (upd (del H2 a) d (.xd fs))) : L2N.MkP X pins σ Q (.ref a) ⟨h2, g2, d2, t2, os2⟩ := by
  obtain ⟨t0, G, J, kG, ge, hoe, na⟩ := L2.mk_end0 I1 ha k un hok ho hb ea ed hd1
  exact ⟨a, _, _, ⟨G, g2, d2, t2, os2⟩, _, .ref C, some d, rfl, J, kG, ge, hoe, ⟨rfl, rfl, fun vs e => by cases e; rfl⟩, rfl, rfl, na, rfl, hb, T, q⟩
theorem pmk_oexN {X : Cx} {e : Expr} {es : List Expr} {ta : TA} {p pos : Pos} {CX : CXT} {x : Str} {C fI : Addr} {k : Nat} {fd : FuncData} {ps : List Str} {sp : Sp} {ds : List Value} {dvs : List V}
    (T : OexC X.K C) (iC : PySem.W.findIn X.K (.ref C) "__init__" = some (some (.ref fI))) (tI : PySem.W.typeIn X.K (.ref fI) = some (.type "function")) (F1 : FnOk X.prog X.w X.K X.mg X.base CX k fI fd ps sp) (hr : L2.Room (k + 1) X.A) (hb : L2.Binds X.K fd ps ds) (hd : Vals dvs ds) (hx : Passes CX X fun _ _ _ => False) (hg : Gl X x) (hm : X.mg x = some (.ref C)) (ha : PA X (e :: es) ta)
    (hdb : (x == ("__debug__" : Str)) = false := by rfl) (he : starEach (e :: es) X.env = (false, eval e X.env) :: starEach es X.env := by rfl) (hpl : (backTo pos (starEach es X.env)).any (·.1) = false := by rfl) :
    L2N.PMk X (.Call (.Name x p) (e :: es) [] pos) (tMkO C sp dvs ta) := by
  intro pins s σ H Q I h
  obtain ⟨nm, q, N, bs, bm, sn, sub, ab, col, dd, k0, k1, k2, k3, k5, hC, hbm⟩ := T.cls
  refine wpAny_Call_Name_kw (ld_glob I hg hm ?_ hdb)
  refine PySem.W.callWith_K (h₀ := X.base) I.ok.mod.kin T.kC (thn (ha.run pos pins s σ H _ I h) fun us s1 hh => ?_) he hpl
  obtain ⟨vs, H1, I1, r1, hz, q1⟩ := hh
  refine ⟨I1.kIn, ?_⟩
  obtain ⟨hp, g, dr, tk, os⟩ := s1
  have hsz := Nat.le_succ hp.objs.size
  have hn : H1 (hp.objs.size + 1) = none := I1.hok.fresh hsz
  have hq := q1 (hp.objs.size + 1) hn
  have kk : ∀ b o, hp.get? b = some o → ((hp.push (PySem.W.kdv_tup us)).push (HandSPX.excO C hp.objs.size)).get? b = some o := fun b o e => Heap.get?_push_of_some _ (Heap.get?_push_of_some _ e)
  have hget : ((hp.push (PySem.W.kdv_tup us)).push (HandSPX.excO C hp.objs.size)).get? (hp.objs.size + 1) = some (HandSPX.excO C hp.objs.size) := Heap.get?_push_at (by rw [Heap.size_push]) rfl
  have I2 := I1.laid (t' := tk) kk hsz (L2.exo_ok hget)
  have r2 : Vals (V.ref (hp.objs.size + 1) :: (vs ++ dvs)) (Value.ref (hp.objs.size + 1) :: (us ++ ds)) := .cons rfl (Vals.append r1 hd)
  have hl : (Value.ref (hp.objs.size + 1) :: (us ++ ds)).length = ps.length := by rw [← r2.length]; exact F1.len _ _ _ _ hq
  have hus : us.length ≤ sizeLine := by
    have := r1.length
    rw [sizeLine_eq]
    omega
  refine wpAny_call (HandSPX.call_own F.excBase_ValueError (fun Y => HandSPX.refsVE_contains Y bm hbm) (I1.kIn C _ hC) (PySem.W.looks_findIn I1.kIn iC) (fun self => PySem.W.bind_fn I1.kIn self tI) hus (codeAny_mono (F1.run (X.A.under (Code.builtin "type.__call__" ⟨.ref C :: us, []⟩)) X.stack ⟨(hp.push (PySem.W.kdv_tup us)).push (HandSPX.excO C hp.objs.size), g, dr, tk, os⟩ _ ⟨.ref (hp.objs.size + 1) :: us, []⟩ _ _ _ _ (hr.make C us []) (I2.env0.make C us []) (hb _ _ I2.kIn hl) r2 hq) fun r s' hq' => ?_))
  cases r with
  | error er => exact hx pins σ _ _ er s' I2 hq'
  | ok fl =>
    cases fl with
    | ret u =>
      obtain ⟨v, H2, os2, bare2, un2, hok2, rv, ev, d, fs, ea, ed, hd1, q2⟩ := hq'
      subst ev
      obtain ⟨h2, g2, d2, t2, os'⟩ := s'
      exact ⟨rv, mk_endN (L2.raises_own T.exC T.tyC) I1 hsz kk un2 hok2 os2 bare2 ea ed hd1 q2⟩
    | _ => exact hq'.elim
end TX
end
section
set_option maxRecDepth 100000
set_option maxHeartbeats 4000000
/-! plans compared, equal or not; errors that are raised where plans are not equal -/
namespace TX
open PySem PySem.Spec PyProof.Rows L2 SX CW
def samePl (ks : List Nat) (X : Nat → Nat → Bool) (ks' : List Nat) (X' : Nat → Nat → Bool) : Bool := decide (ks = ks') && decide (prs ks X = prs ks' X')
def spPlanEqG (C : Addr) : Sp := fun vs H Q _ => ∃ (p q : Addr) (ks : List Nat) (X : Nat → Nat → Bool) (ks' : List Nat) (X' : Nat → Nat → Bool), vs = [.ref p, .ref q] ∧ PlanAt C H p ks X ∧ PlanAt C H q ks' X' ∧ Q (.bl (samePl ks X ks' X')) H
theorem eqv_strs : ∀ (a b : List Str), PyData.eqv (.tuple (a.map PyData.str)) (.tuple (b.map PyData.str)) = decide (a = b)
  | [], [] => rfl
  | [], _ :: _ => rfl
  | _ :: _, [] => rfl
  | x :: a, y :: b => by
    have ih := eqv_strs a b
    have e : PyData.eqv (.tuple ((x :: a).map PyData.str)) (.tuple ((y :: b).map PyData.str)) = (decide (x = y) && PyData.eqv (.tuple (a.map PyData.str)) (.tuple (b.map PyData.str))) := by
      simp only [List.map_cons, PyData.eqv, PyData.eqvAll]
      have z : (x == y) = decide (x = y) := by rw [Bool.eq_iff_iff, beq_iff_eq, decide_eq_true_iff]
      rw [z]
    rw [e, ih, Bool.eq_iff_iff, Bool.and_eq_true, decide_eq_true_iff, decide_eq_true_iff, decide_eq_true_iff]
    exact ⟨fun ⟨p, q⟩ => by rw [p, q], fun z => List.cons.inj z⟩
section
variable {P : Program} {w : World} {K : PySem.W.Frag} {mg : Str → Option Value} {base : Heap} {C CR OP : Addr}
theorem ok_planeqG {f : Addr} {fd : FuncData} (F : FunD K "__eq__" "Plan.__eq__" (defArgs s_Plan_eq) (defBody s_Plan_eq) (defScope s_Plan_eq) [] [] f fd) (T : PlanT K C) (nI : C8.InsC K C) (zi : mg "isinstance" = none) (gP : mg "Plan" = some (.ref C)) :
    FnOk P w K mg base C8.CX0 1 f fd ["self", "other"] (spPlanEqG C) := by
  refine F.ok sc_planeq (fun vs H Q E h => ?_) (fun cdv A outer s H vs Q E hr h => ?_)
  · obtain ⟨p, q, ks, X, ks', X', rfl, _⟩ := h
    rfl
  · obtain ⟨p, q, ks, X, ks', X', rfl, hp, hq, k⟩ := h
    refine ⟨_, PSs.nox (pss_one (ps_ret (pe_and (pe_callB call_isi (by rfl) zi PyProof.Rows.boot_isinstance (pa_cons (pv 1) (pa_cons (C8.pe_gc (v := .ref C) (by rfl) ⟨_, gP, rfl⟩) pa_nil)))
      (pe_and (pe_cmpR op_eq (pe_fld (pv 0) rfl) (pe_fld (pv 1) rfl) (nomark _)) (pe_one (pe_cmpR (op_eqD hr.units) (pe_fld (pv 0) rfl) (pe_fld (pv 1) rfl) (nomark _))))))), ?_⟩
    obtain ⟨dx, tp, da, dl, h1, h2, h3, h4⟩ := hp.ex
    obtain ⟨dx', tp', da', dl', g1, g2, g3, g4⟩ := hq.ex
    refine ⟨_, rfl, _, _, .ref C, .ref C, true, rfl, .own _, .base (.ins g1 nI.cl nI.ha nI.hn nI.htk nI.hm), nI.me, _, rfl, iteT ?_⟩
    refine ⟨_, rfl, p, C, dx, _, _, rfl, h1, T.cl, T.nk, pf_kinds _ _ _ _, _, rfl, q, C, dx', _, _, rfl, g1, T.cl, T.nk, pf_kinds _ _ _ _, rfl, _, rfl, ?_⟩
    rw [str_ne]
    unfold samePl at k
    cases e : decide (ks = ks')
    · rw [e] at k
      exact iteF k
    · rw [e, Bool.true_and] at k
      refine iteT ?_
      refine ⟨_, rfl, p, C, dx, _, _, rfl, h1, T.cl, T.np, pf_pairs _ _ _ _, _, rfl, q, C, dx', _, _, rfl, g1, T.cl, T.np, pf_pairs _ _ _ _, _, _, .tup (SqT.of h2) (dp_strs _), .tup (SqT.of g2) (dp_strs _), (sh_pairs ks X hp.abc).1, (sh_pairs ks' X' hq.abc).1, ?_⟩
      rw [eqv_strs]
      exact k
abbrev bmVE : List Value := [.type "ValueError", .type "Exception", .type "BaseException", .type "object"]
/-- an own class of an error that is raised without arguments -/
structure ErrN (K : PySem.W.Frag) (mg : Str → Option Value) (nm : Str) (OP : Addr) : Prop where
  x : PySem.W.excIn K OP bmVE "ValueError.__new__" = true
  g : mg nm = some (.ref OP)
  k : PySem.W.keepIn K (.ref OP) = true
  b : PySem.W.subIn K (.ref OP) (.type "BaseException") = some true
  t : PySem.W.typeIn K (.ref OP) = some (.type "type")
/-- two objects with plans, equal or not -/
def spSameN (K : PySem.W.Frag) (C OP : Addr) : Sp := fun vs H Q E => ∃ (a b Ca Cb dx dy p q : Addr) (fa fb : List (Str × V)) (ks : List Nat) (X : Nat → Nat → Bool) (ks' : List Nat) (X' : Nat → Nat → Bool), vs = [.ref a, .ref b] ∧ H a = some (.ins Ca dx fa) ∧ H b = some (.ins Cb dy fb) ∧ Cls K Ca ∧ Cls K Cb ∧ NoAttr K Ca "plan" ∧ NoAttr K Cb "plan" ∧
  fa.lookup ("plan" : Str) = some (.ref p) ∧ fb.lookup ("plan" : Str) = some (.ref q) ∧ PlanAt C H p ks X ∧ PlanAt C H q ks' X' ∧ (samePl ks X ks' X' = true → Q .non H) ∧ (samePl ks X ks' X' = false → E (.ref OP) none H)
theorem ok_sameN {f0 : Addr} {fd0 : FuncData} (F : FunD K "check_same_plan" "check_same_plan" (defArgs s_check_same_plan) (defBody s_check_same_plan) (defScope s_check_same_plan) [] [] f0 fd0) (EO : ErrN K mg "OtherPlan" OP) {f : Addr} {fd : FuncData} (GE : FnOk P w K mg base C8.CX0 1 f fd ["self", "other"] (spPlanEqG C)) (hf : PySem.W.isFn K (.ref f) = true) (bi : L2.Binds K fd ["self", "other"] []) (ne : neB K C f = true) :
    FnOk P w K mg base (L2N.CX P w) 3 f0 fd0 ["one", "other"] (spSameN K C OP) := by
  refine F.ok sc_same (fun vs H Q E h => ?_) (fun cdv A outer s H vs Q E hr h => ?_)
  · obtain ⟨a, b, Ca, Cb, dx, dy, p, q, fa, fb, ks, X, ks', X', rfl, _⟩ := h
    rfl
  · obtain ⟨a, b, Ca, Cb, dx, dy, p, q, fa, fb, ks, X, ks', X', rfl, ha, hb, ca, cb, na, nb, la, lb, pa, pb, k1, k2⟩ := h
    refine ⟨_, pss_one (ps_if (pt_cmpR (op_neOwn GE hf bi ne (hr.mono (by decide))) (pe_fld (pv 0) rfl) (pe_fld (pv 1) rfl) (nomark _))
      (pss_one (L2N.ps_raise rfl (L2N.takes_of rfl rfl rfl rfl) (pmkN_own0 PySem.F.excBase_ValueError EO.x EO.g EO.k (raises_own EO.b EO.t) (by rfl)))) pss_nil), ?_⟩
    obtain ⟨ex, _, _, _, h2, _⟩ := pa.ex
    obtain ⟨ey, _, _, _, g2, _⟩ := pb.ex
    refine ⟨_, rfl, a, Ca, dx, _, _, rfl, ha, ca, na, la, _, rfl, b, Cb, dy, _, _, rfl, hb, cb, nb, lb, p, ex, _, q, ey, _, rfl, rfl, h2, g2, p, q, ks, X, ks', X', rfl, pa, pb, _, rfl, _, rfl, ?_⟩
    cases e : samePl ks X ks' X'
    · exact iteT (k2 e)
    · exact iteF (k1 e)
end
end TX
end
section
set_option maxRecDepth 100000
set_option maxHeartbeats 4000000
/-! x in a, x not in a, ~a, a == x by a class's own methods -/
namespace TX
open PySem PySem.Spec PyProof.Rows L2
section
variable {X : Cx} {k : Nat} {C : Addr} {sp : Sp}
theorem op_inOwn (D : Dun X.prog X.w X.K X.mg X.base k C "__contains__" sp) (hr : Room k X.A) :
    OpR X (compareOp .In) (fun y x H Q => ∃ a dx fs, x = .ref a ∧ H a = some (.ins C dx fs) ∧ sp [x, y] H (fun v H' => ∃ z, v = .bl z ∧ Q (.bl z) H') C8.E0) := by
  intro pins s σ H y x v u Q I ry rx h
  obtain ⟨a, dx, fs, rfl, ha, h⟩ := h
  obtain ⟨f, fd, ps, F, hs, hf, bi⟩ := D.ex
  have eu : u = .ref a := rx
  subst eu
  obtain ⟨oa, ia⟩ := inst_of I ha
  obtain ⟨m, fr⟩ := I.fr
  refine PySem.W.in_K fr I.ok.mod.kin ia hs hf ?_
  refine thn (run_sub (sub_self hr) F bi I (.cons rx (.cons ry .nil)) h) fun r s' ⟨v', H', I', rr, z, ev, q⟩ => ?_
  subst ev
  have e2 : r = .bool z := rr
  subst e2
  exact wpAny_truthy_bool ⟨.bl z, H', I', rfl, q⟩
theorem op_notInOwn (D : Dun X.prog X.w X.K X.mg X.base k C "__contains__" sp) (hr : Room k X.A) :
    OpR X (compareOp .NotIn) (fun y x H Q => ∃ a dx fs, x = .ref a ∧ H a = some (.ins C dx fs) ∧ sp [x, y] H (fun v H' => ∃ z, v = .bl z ∧ Q (.bl !z) H') C8.E0) := by
  intro pins s σ H y x v u Q I ry rx h
  obtain ⟨a, dx, fs, rfl, ha, h⟩ := h
  obtain ⟨f, fd, ps, F, hs, hf, bi⟩ := D.ex
  have eu : u = .ref a := rx
  subst eu
  obtain ⟨oa, ia⟩ := inst_of I ha
  obtain ⟨m, fr⟩ := I.fr
  refine PySem.W.notIn_K fr I.ok.mod.kin ia hs hf ?_
  refine thn (run_sub (sub_self hr) F bi I (.cons rx (.cons ry .nil)) h) fun r s' ⟨v', H', I', rr, z, ev, q⟩ => ?_
  subst ev
  have e2 : r = .bool z := rr
  subst e2
  exact wpAny_truthy_bool ⟨.bl !z, H', I', rfl, q⟩
theorem un_invOwn (D : Dun X.prog X.w X.K X.mg X.base k C "__invert__" sp) (hr : Room k X.A) :
    UnR X (unaryOp .Invert) (fun x H Q => ∃ a dx fs, x = .ref a ∧ H a = some (.ins C dx fs) ∧ sp [x] H Q C8.E0) := by
  intro pins s σ H x v Q I rx h
  obtain ⟨a, dx, fs, rfl, ha, h⟩ := h
  obtain ⟨f, fd, ps, F, hs, hf, bi⟩ := D.ex
  have ev : v = .ref a := rx
  subst ev
  obtain ⟨oa, ia⟩ := inst_of I ha
  obtain ⟨m, fr⟩ := I.fr
  refine PySem.W.ksp_inv fr I.ok.mod.kin ia hs hf ?_
  exact thn (run_sub (sub_self hr) F bi I (.cons rx .nil) h) fun r s' q => q
/-- a == x, x of any type that does not answer first -/
theorem op_cmpOwnX {op : CmpOp} (hop : ∀ a b, compareOp op a b = richCompare op a b) (D : Dun X.prog X.w X.K X.mg X.base k C (cmpInfo op).2.1 sp) (hr : Room k X.A) :
    OpR X (compareOp op) (fun x y H Q => ∃ a dx fs t, x = .ref a ∧ H a = some (.ins C dx fs) ∧ TyX X.K H y t ∧ (t = .ref C ∨ PySem.W.subIn X.K t (.ref C) = some false) ∧ sp [x, y] H Q C8.E0) := by
  intro pins s σ H x y v u Q I rx ry h
  obtain ⟨a, dx, fs, t, rfl, ha, ty, nf, h⟩ := h
  obtain ⟨f, fd, ps, F, hs, hf, bi⟩ := D.ex
  have ev : v = .ref a := rx
  subst ev
  obtain ⟨oa, ia⟩ := inst_of I ha
  obtain ⟨m, fr⟩ := I.fr
  rw [hop]
  refine PySem.W.cmp_K (tb := t) (by have := hr.un; omega) fr I.ok.mod.kin ia ?_ ?_ hs hf ?_
  · obtain ⟨P, Z, pP, _⟩ := kit_of I ry ty
    exact Z.ty _ _ I.kIn pP
  · unfold PySem.W.notFirst
    rcases nf with e | e
    · simp [e]
    · simp [e]
  exact thn (run_sub (sub_self hr) F bi I (.cons rx (.cons ry .nil)) h) fun u s' ⟨v, H', I', r, q⟩ => not_ni r ⟨v, H', I', r, q⟩
end
end TX
end
section
set_option maxRecDepth 100000
set_option maxHeartbeats 4000000
/-! crosswalls.lots: class Half -/
namespace TX
open PySem PySem.Spec PyProof.Rows L2 SX CW
def hflds (a p : Addr) (fr : Bool) : List (Str × V) := [("wall", .ref a), ("far", .bl fr), ("plan", .ref p)]
structure HalfAt (C CR CL CH : Addr) (H : Hp) (h a x p : Addr) (ks : List Nat) (X : Nat → Nat → Bool) (u : List Nat) (d : Nat) (fr : Bool) : Prop where
  wl : WallAt C CR CL H a x p ks X u d
  ex : ∃ dx, H h = some (.ins CH dx (hflds a p fr))
  kn : d ∈ ks
  ul : ∀ c ∈ u, c ∈ ks
  ll : u.length ≤ 2000
theorem HalfAt.same {C CR CL CH : Addr} {H H' : Hp} {h a x p : Addr} {ks : List Nat} {X : Nat → Nat → Bool} {u : List Nat} {d : Nat} {fr : Bool} (g : HalfAt C CR CL CH H h a x p ks X u d fr) (s : L2.Same H H') : HalfAt C CR CL CH H' h a x p ks X u d fr := by
  obtain ⟨dx, e⟩ := g.ex
  exact ⟨g.wl.same s, ⟨dx, s _ _ e⟩, g.kn, g.ul, g.ll⟩
theorem HalfAt.pen {C CR CL CH : Addr} {H H' : Hp} {h a x p c q : Addr} {m : Nat} {ks : List Nat} {X : Nat → Nat → Bool} {u : List Nat} {d : Nat} {fr : Bool} (g : HalfAt C CR CL CH H h a x q ks X u d fr) (hp : PenAt H p c m) (b : But p H H') : HalfAt C CR CL CH H' h a x q ks X u d fr := by
  obtain ⟨dx, e⟩ := g.ex
  exact ⟨g.wl.pen (List.length_pos_of_mem g.kn) hp b, ⟨dx, b _ _ (pen_ne hp e fun _ _ _ z => by cases z) e⟩, g.kn, g.ul, g.ll⟩
theorem WallAt.but {C CR CL : Addr} {H H' : Hp} {a x p r C' dx' : Addr} {ks : List Nat} {X : Nat → Nat → Bool} {n : List Nat} {d : Nat} {fs : List (Str × V)} (h : WallAt C CR CL H a x p ks X n d) (hr : H r = some (.ins C' dx' fs)) (hf : fs.length ≤ 1) (k : But r H H') : WallAt C CR CL H' a x p ks X n d := by
  obtain ⟨dx, e⟩ := h.ex
  have nx : a ≠ r := fun z => by
    rw [z, hr] at e
    have := (HO.ins.inj (Option.some.inj e)).2.2
    have := congrArg List.length this
    simp [wflds] at this
    omega
  exact ⟨h.rm.but hr hf k, dx, k _ _ nx e⟩
structure HalfT (K : PySem.W.Frag) (C : Addr) : Prop where
  cl : Cls K C
  nw : NoAttr K C "wall"
  nf : NoAttr K C "far"
  np : NoAttr K C "plan"
theorem hf_wall (a p : Addr) (fr : Bool) : (hflds a p fr).lookup ("wall" : Str) = some (.ref a) := by
  unfold hflds
  rw [List.lookup_cons, show (("wall" : Str) == ("wall" : Str)) = true from by decide +kernel]
theorem hf_far (a p : Addr) (fr : Bool) : (hflds a p fr).lookup ("far" : Str) = some (.bl fr) := by
  unfold hflds
  rw [List.lookup_cons, show (("far" : Str) == ("wall" : Str)) = false from by decide +kernel]
  dsimp only
  rw [List.lookup_cons, show (("far" : Str) == ("far" : Str)) = true from by decide +kernel]
theorem hf_plan (a p : Addr) (fr : Bool) : (hflds a p fr).lookup ("plan" : Str) = some (.ref p) := by
  unfold hflds
  rw [List.lookup_cons, show (("plan" : Str) == ("wall" : Str)) = false from by decide +kernel]
  dsimp only
  rw [List.lookup_cons, show (("plan" : Str) == ("far" : Str)) = false from by decide +kernel]
  dsimp only
  rw [List.lookup_cons, show (("plan" : Str) == ("plan" : Str)) = true from by decide +kernel]
theorem hf_eq (a p : Addr) (fr : Bool) : putF "plan" (.ref p) (putF "far" (.bl fr) (putF "wall" (.ref a) [])) = hflds a p fr := by
  have e1 : ¬ (("wall" : Str) = "far") := by decide +kernel
  have e2 : ¬ (("wall" : Str) = "plan") := by decide +kernel
  have e3 : ¬ (("far" : Str) = "plan") := by decide +kernel
  have h1 : putF "far" (.bl fr) (putF "wall" (.ref a) []) = ([("wall", .ref a), ("far", .bl fr)] : List (Str × V)) := by
    show (if ("wall" : Str) = "far" then _ else (("wall" : Str), V.ref a) :: putF "far" (.bl fr) []) = _
    rw [if_neg e1]
    rfl
  rw [h1]
  show (if ("wall" : Str) = "plan" then _ else (("wall" : Str), V.ref a) :: (if ("far" : Str) = "plan" then _ else (("far" : Str), V.bl fr) :: putF "plan" (.ref p) [])) = _
  rw [if_neg e2, if_neg e3]
  rfl
/-- what is_in says -/
def inH (ks : List Nat) (X : Nat → Nat → Bool) (u : List Nat) (d : Nat) (n : List Nat) : Bool := rd X (fol ks X [] (n.reverse ++ u)).reverse d
def spHalfInit (C CR CL CH : Addr) : Sp := fun vs H Q _ => ∃ (r dx a x p : Addr) (ks : List Nat) (X : Nat → Nat → Bool) (u : List Nat) (d : Nat) (fr : Bool), vs = [.ref r, .ref a, .bl fr] ∧ H r = some (.ins CH dx []) ∧ WallAt C CR CL H a x p ks X u d ∧ d ∈ ks ∧ (∀ c ∈ u, c ∈ ks) ∧ u.length ≤ 2000 ∧
  ∀ H', But r H H' → HalfAt C CR CL CH H' r a x p ks X u d fr → Q .non H'
def spIsIn (C CR CL CH : Addr) : Sp := fun vs H Q _ => ∃ (h a x p q : Addr) (ks : List Nat) (X : Nat → Nat → Bool) (u n : List Nat) (d : Nat) (fr : Bool), vs = [.ref q, .str (S n), .ref h] ∧ HalfAt C CR CL CH H h a x p ks X u d fr ∧ PlanAt C H q ks X ∧ (∀ c ∈ n, c ∈ ks) ∧ n.length ≤ 2000 ∧
  ∀ H', L2.Same H H' → Q (.bl (decide (inH ks X u d n = fr))) H'
def spHasR (K : PySem.W.Frag) (C CR CL CH : Addr) : Sp := fun vs H Q _ => ∃ (h a x p : Addr) (ks : List Nat) (X : Nat → Nat → Bool) (u : List Nat) (d : Nat) (fr : Bool) (y : V), vs = [.ref h, y] ∧ HalfAt C CR CL CH H h a x p ks X u d fr ∧
  ((∃ (b q : Addr) (n : List Nat), y = .ref b ∧ RoomAt C CR H b q ks X n ∧ (∀ c ∈ n, c ∈ ks) ∧ n.length ≤ 2000 ∧ ∀ H', L2.Same H H' → Q (.bl (decide (inH ks X u d n = fr))) H') ∨
   (∃ (b q : Addr) (ks' : List Nat) (X' : Nat → Nat → Bool) (n : List Nat), y = .ref b ∧ RoomAt C CR H b q ks' X' n ∧ samePl ks' X' ks X = false ∧ Q (.bl false) H) ∨
   ∃ t, TyX K H y t ∧ PySem.W.kitOne K t (.ref CR) = some false ∧ Q (.bl false) H)
def spInv (C CR CL CH : Addr) : Sp := fun vs H Q _ => ∃ (h a x p : Addr) (ks : List Nat) (X : Nat → Nat → Bool) (u : List Nat) (d : Nat) (fr : Bool), vs = [.ref h] ∧ HalfAt C CR CL CH H h a x p ks X u d fr ∧
  ∀ r H', HalfAt C CR CL CH H' r a x p ks X u d (!fr) → L2.Same H H' → Q (.ref r) H'
def spHalfEq (K : PySem.W.Frag) (C CR CL CH : Addr) : Sp := fun vs H Q _ => ∃ (h a x p : Addr) (ks : List Nat) (X : Nat → Nat → Bool) (u : List Nat) (d : Nat) (fr : Bool) (y : V), vs = [.ref h, y] ∧ HalfAt C CR CL CH H h a x p ks X u d fr ∧
  ((∃ (h' a' x' p' : Addr) (u' : List Nat) (d' : Nat) (fr' : Bool), y = .ref h' ∧ HalfAt C CR CL CH H h' a' x' p' ks X u' d' fr' ∧ Q (.bl (decide (fr = fr') && (decide (d = d') && decide (u = u')))) H) ∨
   ∃ t, TyX K H y t ∧ PySem.W.kitOne K t (.ref CH) = some false ∧ Q (.bl false) H)
/-- Half.beside of a kind -/
def spBes (C CR CL CH : Addr) : Sp := fun vs H Q _ => ∃ (b p : Addr) (ks : List Nat) (X : Nat → Nat → Bool) (n : List Nat) (d : Nat), vs = [.ref b, .str (S [d])] ∧ RoomAt C CR H b p ks X n ∧ d ∈ ks ∧ (∀ c ∈ n, c ∈ ks) ∧ n.length ≤ 2000 ∧
  ∀ r a x H', HalfAt C CR CL CH H' r a x p ks X (toD ks X n d) d (rd X (fol ks X (toD ks X n d).reverse n) d) → L2.Same H H' → Q (.ref r) H'
section
variable {P : Program} {w : World} {K : PySem.W.Frag} {mg : Str → Option Value} {base : Heap} {C CR CL CH : Addr}
theorem sc_isin : FnScope ["plan", "name", "half", "way"] ["plan", "name", "half"] (defScope s_is_in) := ⟨rfl, rfl, rfl, by decide +kernel, rfl, by decide +kernel, by decide +kernel⟩
theorem sc_hini : FnScope ["self", "wall", "far"] ["self", "wall", "far"] (defScope s_Half_init) := ⟨rfl, rfl, rfl, by decide +kernel, rfl, by decide +kernel, by decide +kernel⟩
theorem sc_hcon : FnScope ["self", "x"] ["self", "x"] (defScope s_Half_contains) := ⟨rfl, rfl, rfl, by decide +kernel, rfl, by decide +kernel, by decide +kernel⟩
theorem sc_hinv : FnScope ["self"] ["self"] (defScope s_Half_invert) := ⟨rfl, rfl, rfl, by decide +kernel, rfl, by decide +kernel, by decide +kernel⟩
theorem sc_heq : FnScope ["self", "other"] ["self", "other"] (defScope s_Half_eq) := ⟨rfl, rfl, rfl, by decide +kernel, rfl, by decide +kernel, by decide +kernel⟩
theorem sc_hbes : FnScope ["room", "kind", "wall"] ["room", "kind"] (defScope s_Half_beside) := ⟨rfl, rfl, rfl, by decide +kernel, rfl, by decide +kernel, by decide +kernel⟩
theorem ok_hini {f : Addr} {fd : FuncData} (F : FunD K "__init__" "Half.__init__" (defArgs s_Half_init) (defBody s_Half_init) (defScope s_Half_init) [.bl false] [] f fd) (TW : WallT K CL) (TH : HalfT K CH) :
    FnOk P w K mg base C8.CX0 1 f fd ["self", "wall", "far"] (spHalfInit C CR CL CH) := by
  refine F.ok sc_hini (fun vs H Q E h => ?_) (fun cdv A outer s H vs Q E hr h => ?_)
  · obtain ⟨r, dx, a, x, p, ks, X, u, d, fr, rfl, _⟩ := h
    rfl
  · obtain ⟨r, dx, a, x, p, ks, X, u, d, fr, rfl, hr0, ha, hd, hu, lu, q⟩ := h
    refine ⟨_, PSs.nox (pss_cons (ps_fld (pv 0) (pv 1) rfl) (pss_cons (ps_fld (pv 0) (pv 2) rfl) (pss_one (ps_fld (pv 0) (pe_fld (pv 1) rfl) rfl)))), ?_⟩
    obtain ⟨da, h1⟩ := ha.ex
    have nb : a ≠ r := fun z => by
      rw [z, hr0] at h1
      have := (HO.ins.inj (Option.some.inj h1)).2.2
      have := congrArg List.length this
      simp [wflds] at this
    refine ⟨_, rfl, _, rfl, r, CH, dx, [], rfl, hr0, TH.cl, TH.nw, (by show 0 < 1000; decide), ?_⟩
    refine ⟨_, rfl, _, rfl, r, CH, dx, _, rfl, upd_same, TH.cl, TH.nf, (by show 1 < 1000; decide), ?_⟩
    rw [upd_upd]
    refine ⟨_, rfl, a, CL, da, _, _, rfl, by rw [upd_ne nb]; exact h1, TW.cl, TW.np, wf_plan _ _ _, _, rfl, r, CH, dx, _, rfl, upd_same, TH.cl, TH.np, (by show 2 < 1000; decide), ?_⟩
    rw [upd_upd, hf_eq]
    exact q _ But.at ⟨ha.but hr0 (by simp) But.at, ⟨dx, upd_same⟩, hd, hu, lu⟩
theorem ok_isin (F : D K mg "is_in" s_is_in []) (TR : RoomT K CR) (TW : WallT K CL) (TH : HalfT K CH) (cW : C8.Cal P w K mg base 3 "way_between" (spWayB C) []) (cL : C8.Cal P w K mg base 1 "leads_nearer" (spLeads C) []) :
    C8.Cal P w K mg base 4 "is_in" (spIsIn C CR CL CH) [] := by
  refine F.cal (ps := ["plan", "name", "half"]) sc_isin (fun f fd F => F.bindsN fun _ _ _ _ _ _ us hl => match us, hl with | [_, _, _], _ => rfl) (fun vs H Q E h => ?_) (fun f cdv A outer s H vs Q E hr h => ?_)
  · obtain ⟨h, a, x, p, q, ks, X, u, n, d, fr, rfl, _⟩ := h
    rfl
  · obtain ⟨h, a, x, p, q, ks, X, u, n, d, fr, rfl, hh, hq, hn, ln, k⟩ := h
    refine ⟨_, pss_cons (ps_set (i := 3) sc_isin.nd rfl (.inl rfl) (C8.pe_c cW hr (by decide) (by rfl) (pa_cons (pv 0) (pa_cons (pv 1) (pa_cons (pe_fld (pe_fld (pe_fld (pv 2) rfl) rfl) rfl) pa_nil)))))
      (pss_one (ps_ret (pe_cmpR op_eq (C8.pe_c cL hr (by decide) (by rfl) (pa_cons (pv 0) (pa_cons (pv 3) (pa_cons (pe_fld (pe_fld (pv 2) rfl) rfl) pa_nil)))) (pe_fld (pv 2) rfl) (nomark _)))), ?_⟩
    obtain ⟨dh, h1⟩ := hh.ex
    obtain ⟨da, h2⟩ := hh.wl.ex
    obtain ⟨dr, h3⟩ := hh.wl.rm.ex
    refine ⟨_, rfl, _, rfl, _, rfl, h, CH, dh, _, _, rfl, h1, TH.cl, TH.nw, hf_wall _ _ _, a, CL, da, _, _, rfl, h2, TW.cl, TW.nr, wf_room _ _ _, x, CR, dr, _, _, rfl, h3, TR.cl, TR.nn, rf_nameV _ _, q, ks, X, n, u, rfl, hq, hn, hh.ul, ln, hh.ll, fun H1 s1 => ?_⟩
    have ir : ∀ c ∈ n.reverse ++ u, c ∈ ks := fun c hc => (List.mem_append.mp hc).elim (fun z => hn c (List.mem_reverse.mp z)) (hh.ul c)
    have lf := fol_length ks X (n.reverse ++ u) []
    have lu := hh.ll
    rw [List.length_append, List.length_reverse] at lf
    refine ⟨_, rfl, _, rfl, _, rfl, h, CH, dh, _, _, rfl, s1 _ _ h1, TH.cl, TH.nw, hf_wall _ _ _, a, CL, da, _, _, rfl, s1 _ _ h2, TW.cl, TW.nk, wf_kind _ _ _, q, ks, X, _, d, rfl, hq.same s1, hh.kn, fol_lets (n.reverse ++ u) [] (fun c hc => by cases hc) ir, by simp only [List.length_nil] at lf; omega, ?_⟩
    refine ⟨_, rfl, h, CH, dh, _, _, rfl, s1 _ _ h1, TH.cl, TH.nf, hf_far _ _ _, rfl, ?_⟩
    rw [show decide (V.bl (rd X (fol ks X [] (n.reverse ++ u)).reverse d) = V.bl fr) = decide (inH ks X u d n = fr) from by rw [decide_eq_decide]; simp [inH]]
    exact k H1 s1
theorem room_plan {G : Hp} {b q : Addr} {ks : List Nat} {X : Nat → Nat → Bool} {n : List Nat} (h : RoomAt C CR G b q ks X n) : ∃ dx, G b = some (.ins CR dx (rflds q n)) := h.ex
theorem ok_hcon {f : Addr} {fd : FuncData} (F : FunD K "__contains__" "Half.__contains__" (defArgs s_Half_contains) (defBody s_Half_contains) (defScope s_Half_contains) [] [] f fd) (TR : RoomT K CR) (TH : HalfT K CH) (nR : C8.InsC K CR) (zi : mg "isinstance" = none) (gR : mg "Room" = some (.ref CR))
    {fe : Addr} {fde : FuncData} (GE : FnOk P w K mg base C8.CX0 1 fe fde ["self", "other"] (spPlanEqG C)) (hfe : PySem.W.isFn K (.ref fe) = true) (be : L2.Binds K fde ["self", "other"] []) (ne : neB K C fe = true)
    (cI : C8.Cal P w K mg base 4 "is_in" (spIsIn C CR CL CH) []) : FnOk P w K mg base C8.CX0 5 f fd ["self", "x"] (spHasR K C CR CL CH) := by
  refine F.ok sc_hcon (fun vs H Q E h => ?_) (fun cdv A outer s H vs Q E hr h => ?_)
  · obtain ⟨h, a, x, p, ks, X, u, d, fr, y, rfl, _⟩ := h
    rfl
  · obtain ⟨h, a, x, p, ks, X, u, d, fr, y, rfl, hh, k⟩ := h
    refine ⟨_, PSs.nox (pss_cons (ps_if (PW.pt (pw_or (pt_not (pt_val (pe_callB call_isi (by rfl) zi PyProof.Rows.boot_isinstance (pa_cons (pv 1) (pa_cons (C8.pe_gc (v := .ref CR) (by rfl) ⟨_, gR, rfl⟩) pa_nil)))))
      (pw_or1 (pt_cmpR (op_neOwn GE hfe be ne (hr.mono (by decide))) (pe_fld (pv 1) rfl) (pe_fld (pv 0) rfl) (nomark _))))) (pss_one (ps_ret pe_bl)) pss_nil)
      (pss_one (ps_ret (C8.pe_c cI hr (by decide) (by rfl) (pa_cons (pe_fld (pv 0) rfl) (pa_cons (pe_fld (pv 1) rfl) (pa_cons (pv 0) pa_nil))))))), ?_⟩
    obtain ⟨dh, h1⟩ := hh.ex
    obtain ⟨ep, _, _, _, p2, _⟩ := hh.wl.rm.pl.ex
    rcases k with ⟨b, q, n, rfl, hb, hn, ln, k⟩ | ⟨b, q, ks', X', n, rfl, hb, nq, k⟩ | ⟨t, ty, kt, k⟩
    · obtain ⟨db, g1⟩ := hb.ex
      obtain ⟨eq, _, _, _, q2, _⟩ := hb.pl.ex
      refine ⟨_, rfl, _, _, .ref CR, .ref CR, true, rfl, .own _, .base (.ins g1 nR.cl nR.ha nR.hn nR.htk nR.hm), nR.me, _, rfl, iteF ?_⟩
      refine ⟨_, rfl, b, CR, db, _, _, rfl, g1, TR.cl, TR.np, rf_plan _ _, _, rfl, h, CH, dh, _, _, rfl, h1, TH.cl, TH.np, hf_plan _ _ _, q, eq, _, p, ep, _, rfl, rfl, q2, p2, q, p, ks, X, ks, X, rfl, hb.pl, hh.wl.rm.pl, _, rfl, _, rfl, ?_⟩
      rw [show samePl ks X ks X = true from by simp [samePl]]
      refine iteF ?_
      refine ⟨_, rfl, h, CH, dh, _, _, rfl, h1, TH.cl, TH.np, hf_plan _ _ _, _, rfl, b, CR, db, _, _, rfl, g1, TR.cl, TR.nn, rf_nameV _ _, _, rfl, h, a, x, p, p, ks, X, u, n, d, fr, rfl, hh, hh.wl.rm.pl, hn, ln, k⟩
    · obtain ⟨db, g1⟩ := hb.ex
      obtain ⟨eq, _, _, _, q2, _⟩ := hb.pl.ex
      refine ⟨_, rfl, _, _, .ref CR, .ref CR, true, rfl, .own _, .base (.ins g1 nR.cl nR.ha nR.hn nR.htk nR.hm), nR.me, _, rfl, iteF ?_⟩
      refine ⟨_, rfl, b, CR, db, _, _, rfl, g1, TR.cl, TR.np, rf_plan _ _, _, rfl, h, CH, dh, _, _, rfl, h1, TH.cl, TH.np, hf_plan _ _ _, q, eq, _, p, ep, _, rfl, rfl, q2, p2, q, p, ks', X', ks, X, rfl, hb.pl, hh.wl.rm.pl, _, rfl, _, rfl, ?_⟩
      rw [nq]
      exact iteT k
    · exact ⟨_, rfl, _, _, t, .ref CR, false, rfl, .own _, ty, kt, _, rfl, iteT (iteT k)⟩
theorem mk_half {H : Hp} {x dx a b p : Addr} {ks : List Nat} {X : Nat → Nat → Bool} {u : List Nat} {d : Nat} {fr : Bool} {Q : VK} (hx : H x = none) (hdx : H dx = none) (ha : WallAt C CR CL H a b p ks X u d) (hd : d ∈ ks) (hu : ∀ c ∈ u, c ∈ ks) (lu : u.length ≤ 2000)
    (q : ∀ H', HalfAt C CR CL CH H' x a b p ks X u d fr → L2.Same H H' → Q .non H') : spHalfInit C CR CL CH [.ref x, .ref a, .bl fr] (upd (upd H dx (.own x)) x (.ins CH dx [])) Q C8.E0 :=
  ⟨x, dx, a, b, p, ks, X, u, d, fr, rfl, upd_same, ha.same (same_born hx hdx), hd, hu, lu, fun H' bt hw => q H' hw (born_same hx hdx bt)⟩
/-- what is made of Half(..) -/
structure HfMk (P : Program) (w : World) (K : PySem.W.Frag) (mg : Str → Option Value) (base : Heap) (C CR CL CH : Addr) : Prop where
  two : C8.Mak P w K mg base 1 "Half" CH (spHalfInit C CR CL CH) []
  one : C8.Mak P w K mg base 1 "Half" CH (spHalfInit C CR CL CH) [.bl false]
  kw : ∃ (f : Addr) (fd : FuncData) (g : List Value → List Value → List Value), Mk K CH f ∧ FnOk P w K mg base C8.CX0 1 f fd ["self", "wall", "far"] (spHalfInit C CR CL CH) ∧ KBn K fd ["self", "wall", "far"] 2 ["far"] g (fun vs zs => vs ++ zs)
  gH : mg "Half" = some (.ref CH)
theorem half_mk {f : Addr} {fd : FuncData} (F : FunD K "__init__" "Half.__init__" (defArgs s_Half_init) (defBody s_Half_init) (defScope s_Half_init) [.bl false] [] f fd) (TW : WallT K CL) (TH : HalfT K CH) (M : Mk K CH f) (gH : mg "Half" = some (.ref CH)) :
    HfMk P w K mg base C CR CL CH := by
  have B := ok_hini (P := P) (w := w) (mg := mg) (base := base) (C := C) (CR := CR) F TW TH
  refine ⟨?_, ?_, ?_, gH⟩
  · obtain ⟨ds, vd, b⟩ := F.binds1 (ps := ["self", "wall", "far"]) 3 1 (by simp) rfl (fun T kV doc pm an cdv ct us its hu hi => match us, hu, its, hi with | [_, _, _], _, [_], _ => ⟨_, rfl, rfl⟩)
    exact ⟨f, fd, _, ds, M, B, gH, b, vd⟩
  · obtain ⟨ds, vd, b⟩ := F.binds1 (ps := ["self", "wall", "far"]) 2 0 (by simp) rfl (fun T kV doc pm an cdv ct us its hu hi => match us, hu, its, hi with | [_, _], _, [_], _ => ⟨_, rfl, rfl⟩)
    exact ⟨f, fd, _, ds, M, B, gH, b, vd⟩
  · obtain ⟨its, z⟩ := FunD.kbindsD (ps := ["self", "wall", "far"]) F 2 ["far"] (fun us _ ws => us ++ ws) (by simp) (fun r1 _ r3 => vals_app r3 r1)
      (fun T kV doc pm an cdv ct us its ws hu hi hw => match us, hu, its, hi, ws, hw with | [_, _], _, [_], _, [_], _ => ⟨_, rfl, rfl⟩)
    exact ⟨f, fd, _, M, B, z⟩
theorem ok_hinv {f : Addr} {fd : FuncData} (F : FunD K "__invert__" "Half.__invert__" (defArgs s_Half_invert) (defBody s_Half_invert) (defScope s_Half_invert) [] [] f fd) (TH : HalfT K CH) (M : HfMk P w K mg base C CR CL CH) :
    FnOk P w K mg base C8.CX0 3 f fd ["self"] (spInv C CR CL CH) := by
  refine F.ok sc_hinv (fun vs H Q E h => ?_) (fun cdv A outer s H vs Q E hr h => ?_)
  · obtain ⟨h, a, x, p, ks, X, u, d, fr, rfl, _⟩ := h
    rfl
  · obtain ⟨h, a, x, p, ks, X, u, d, fr, rfl, hh, k⟩ := h
    refine ⟨_, PSs.nox (pss_one (ps_ret (C8.pe_mk M.two hr (by decide) (by rfl) (pa_cons (pe_fld (pv 0) rfl) (pa_cons (pe_not (pe_fld (pv 0) rfl)) pa_nil))))), ?_⟩
    obtain ⟨dh, h1⟩ := hh.ex
    refine ⟨_, rfl, h, CH, dh, _, _, rfl, h1, TH.cl, TH.nw, hf_wall _ _ _, _, rfl, h, CH, dh, _, _, rfl, h1, TH.cl, TH.nf, hf_far _ _ _, _, rfl, fun r dx hx hdx nd => ?_⟩
    exact mk_half hx hdx hh.wl hh.kn hh.ul hh.ll fun H' g s1 => ⟨rfl, k r H' g s1⟩
theorem ok_heq {f : Addr} {fd : FuncData} (F : FunD K "__eq__" "Half.__eq__" (defArgs s_Half_eq) (defBody s_Half_eq) (defScope s_Half_eq) [] [] f fd) (TH : HalfT K CH) (nH : C8.InsC K CH) (zi : mg "isinstance" = none) (gH : mg "Half" = some (.ref CH))
    (DW : Dun P w K mg base 3 CL "__eq__" (spWallEq C CR CL)) : FnOk P w K mg base C8.CX0 4 f fd ["self", "other"] (spHalfEq K C CR CL CH) := by
  refine F.ok sc_heq (fun vs H Q E h => ?_) (fun cdv A outer s H vs Q E hr h => ?_)
  · obtain ⟨h, a, x, p, ks, X, u, d, fr, y, rfl, _⟩ := h
    rfl
  · obtain ⟨h, a, x, p, ks, X, u, d, fr, y, rfl, hh, k⟩ := h
    refine ⟨_, PSs.nox (pss_one (ps_ret (pe_and (pe_callB call_isi (by rfl) zi PyProof.Rows.boot_isinstance (pa_cons (pv 1) (pa_cons (C8.pe_gc (v := .ref CH) (by rfl) ⟨_, gH, rfl⟩) pa_nil)))
      (pe_and (pe_cmpR op_eq (pe_fld (pv 0) rfl) (pe_fld (pv 1) rfl) (nomark _)) (pe_one (pe_cmpR (op_cmpOwn (op := .Eq) (fun _ _ => rfl) DW hr) (pe_fld (pv 0) rfl) (pe_fld (pv 1) rfl) (nomark _))))))), ?_⟩
    obtain ⟨dh, h1⟩ := hh.ex
    obtain ⟨da, a1⟩ := hh.wl.ex
    rcases k with ⟨h', a', x', p', u', d', fr', rfl, hg, k⟩ | ⟨t, ty, kt, k⟩
    · obtain ⟨dg, g1⟩ := hg.ex
      obtain ⟨db, b1⟩ := hg.wl.ex
      refine ⟨_, rfl, _, _, .ref CH, .ref CH, true, rfl, .own _, .base (.ins g1 nH.cl nH.ha nH.hn nH.htk nH.hm), nH.me, _, rfl, iteT ?_⟩
      refine ⟨_, rfl, h, CH, dh, _, _, rfl, h1, TH.cl, TH.nf, hf_far _ _ _, _, rfl, h', CH, dg, _, _, rfl, g1, TH.cl, TH.nf, hf_far _ _ _, rfl, _, rfl, ?_⟩
      rw [show decide (V.bl fr = V.bl fr') = decide (fr = fr') from by simp]
      cases z : decide (fr = fr')
      · rw [z, Bool.false_and] at k
        exact iteF k
      · rw [z, Bool.true_and] at k
        refine iteT ⟨_, rfl, h, CH, dh, _, _, rfl, h1, TH.cl, TH.nw, hf_wall _ _ _, _, rfl, h', CH, dg, _, _, rfl, g1, TH.cl, TH.nw, hf_wall _ _ _, a, da, _, a', db, _, rfl, rfl, a1, b1, ?_⟩
        exact ⟨a, a', x, p, ks, X, u, d, rfl, hh.wl, .inl ⟨x', p', u', d', hg.wl, k⟩⟩
    · exact ⟨_, rfl, _, _, t, .ref CH, false, rfl, .own _, ty, kt, _, rfl, iteF k⟩
theorem ok_hbes {f : Addr} {fd : FuncData} (F : FunD K "beside" "Half.beside" (defArgs s_Half_beside) (defBody s_Half_beside) (defScope s_Half_beside) [] [] f fd) (TW : WallT K CL) (M : HfMk P w K mg base C CR CL CH) (mW : C8.Mak P w K mg base 6 "Wall" CL (spWallInit C CR CL) [])
    (mB : C8.Met P w K mg base 4 CL "beyond" (spBeyond C CR CL) []) : FnOk P w K mg base C8.CX0 8 f fd ["room", "kind"] (spBes C CR CL CH) := by
  refine F.ok sc_hbes (fun vs H Q E h => ?_) (fun cdv A outer s H vs Q E hr h => ?_)
  · obtain ⟨b, p, ks, X, n, d, rfl, _⟩ := h
    rfl
  · obtain ⟨b, p, ks, X, n, d, rfl, hb, hd, hn, ln, k⟩ := h
    refine ⟨_, PSs.nox (pss_cons (ps_set (i := 2) sc_hbes.nd rfl (.inl rfl) (C8.pe_mk mW hr (by decide) (by rfl) (pa_cons (pv 0) (pa_cons (pv 1) pa_nil))))
      (pss_one (ps_ret (C8.pe_mk M.two hr (by decide) (by rfl) (pa_cons (pv 2) (pa_cons (C8.pe_mt mB hr (by decide) (pv 2) (pa_cons (pv 0) pa_nil)) pa_nil)))))), ?_⟩
    obtain ⟨db, g1⟩ := hb.ex
    refine ⟨_, rfl, _, rfl, fun y dy hy hdy _ => mk_wallS hy hdy hb hd hn ln fun H1 z hw s1 => ⟨rfl, ?_⟩⟩
    have lt := toD_len (ks := ks) (X := X) (n := n) (d := d)
    have tl : ∀ c ∈ toD ks X n d, c ∈ ks := toD_in hn
    obtain ⟨dw, g2⟩ := hw.ex
    refine ⟨_, rfl, _, rfl, y, dw, _, rfl, g2, rfl, _, rfl, ?_⟩
    refine ⟨y, b, z, p, p, ks, X, toD ks X n d, n, d, rfl, hw, hb.same s1, hd, tl, hn, by omega, ln, fun r dx hx hdx _ => ?_⟩
    exact mk_half hx hdx hw hd tl (by omega) fun H2 g s2 => ⟨rfl, k r y z H2 g (s1.trans s2)⟩
end
end TX
end
section
set_option maxRecDepth 100000
set_option maxHeartbeats 4000000
/-! defs that may raise an error of one own field; such errors made and raised -/
namespace TX
open PySem PySem.Spec PyProof.Rows L2
/-- a def under its name, which may let errors out -/
structure CalN (P : Program) (w : World) (K : PySem.W.Frag) (mg : Str → Option Value) (base : Heap) (k : Nat) (x : Str) (sp : Sp) : Prop where
  ex : ∃ (f : Addr) (fd : FuncData) (ps : List Str), FnOk P w K mg base (L2N.CX P w) k f fd ps sp ∧ mg x = some (.ref f) ∧ PySem.W.keepIn K (.ref f) = true ∧ L2.Binds K fd ps []
section
variable {P : Program} {w : World} {K : PySem.W.Frag} {mg : Str → Option Value} {base : Heap}
theorem D.calN {x : Str} {st : Stmt} {N ps : List Str} {k : Nat} {sp : Sp} (F : D K mg x st []) (Sc : FnScope N ps (defScope st))
    (hb : ∀ (f : Addr) (fd : FuncData), FunD K x x (defArgs st) (defBody st) (defScope st) [] [] f fd → L2.Binds K fd ps []) (len : ∀ vs H Q E, sp vs H Q E → vs.length = ps.length)
    (hbody : ∀ (f : Addr) (cdv : Value) (A : Around) (outer : List Env) (s : Shared) (H : Hp) (vs : List V) (Q : VK) (E : XK), L2.Room k (A.deeper (envOfC x (defScope st) s.heap.objs.size f cdv)) → sp vs H Q E →
      ∃ t, PSs (cxOf (L2N.CX P w) P w K mg base N x (defScope st) f cdv A outer s H E) (defBody st) t ∧ t { nx := fun _ H' => Q .non H', rt := Q } (L2.start N vs) H) : CalN P w K mg base (k + 1) x sp := by
  obtain ⟨f, fd, F, g⟩ := F.ex
  exact ⟨f, fd, ps, F.ok Sc len fun cdv A outer s H vs Q E hr h => hbody f cdv A outer s H vs Q E hr h, g, F.kp, hb f fd F⟩
end
section
variable {X : Cx} {k j : Nat} {x : Str} {sp : Sp} {W : WX} {p pos : Pos} {e : Expr} {es : List Expr} {t : TA}
/-- x(e, ..), in a def that takes what it lets out -/
theorem pe_cN (c : CalN X.prog X.w X.K X.mg X.base k x sp) (hr : L2.Room j X.A) (hk : k ≤ j) (hg : Gl X x) (tk : L2N.Takes X W) (ha : PA X (e :: es) t)
    (hdb : (x == ("__debug__" : Str)) = false := by decide) (he : starEach (e :: es) X.env = (false, eval e X.env) :: starEach es X.env := by rfl) (hpl : (backTo pos (starEach es X.env)).any (·.1) = false := by rfl) :
    PE X (.Call (.Name x p) (e :: es) [] pos) (tCallS sp (WE W) t) := by
  obtain ⟨f, fd, ps, F, hm, kp, b⟩ := c.ex
  exact pe_callS F (hr.mono hk) hg hm kp b (fun σ => L2N.passAt tk σ) ha hdb he hpl
end
/-- the __init__ of an error with one field -/
def spErr1 (D : Addr) (fl : Str) : Sp := fun vs H Q _ => ∃ (a : Addr) (v : V), vs = [.ref a, v] ∧ H a = some (exo a D none) ∧ ∀ d, H d = none → d ≠ a → Q .non (upd (upd H d (exd d [(fl, v)])) a (exo a D (some d)))
/-- an own class of an error with one field -/
structure ErrC (P : Program) (w : World) (K : PySem.W.Frag) (mg : Str → Option Value) (base : Heap) (nm fl : Str) (D : Addr) : Prop where
  ox : OexC K D
  nf : PySem.W.findIn K (.ref D) fl = some none
  g : mg nm = some (.ref D)
  ex : ∃ fI fdI q, FnOk P w K mg base C8.CX0 1 fI fdI ["self", q] (spErr1 D fl) ∧ Meth K D "__init__" fI ∧ L2.Binds K fdI ["self", q] []
theorem fnTy {K : PySem.W.Frag} {f : Addr} (h : PySem.W.isFn K (.ref f) = true) : PySem.W.typeIn K (.ref f) = some (.type "function") := by
  unfold PySem.W.isFn at h
  exact beq_iff_eq.mp h
theorem pmk_err1 {X : Cx} {nm fl : Str} {D : Addr} {e : Expr} {te : TE} {p pos : Pos} {j : Nat} (C : ErrC X.prog X.w X.K X.mg X.base nm fl D) (hr : L2.Room j X.A) (h2 : 2 ≤ j) (hg : Gl X nm) (he : PE X e te) (hdb : (nm == ("__debug__" : Str)) = false := by rfl)
    (h1 : starEach (e :: []) X.env = (false, eval e X.env) :: starEach [] X.env := by rfl) (hpl : (backTo pos (starEach [] X.env)).any (·.1) = false := by rfl) :
    L2N.PMk X (.Call (.Name nm p) [e] [] pos) (tMkO D (spErr1 D fl) [] (tCons te tNil)) := by
  obtain ⟨fI, fdI, q, F, M, b⟩ := C.ex
  exact pmk_oexN C.ox M.at_ (fnTy M.fn) F (hr.mono h2) b .nil pass0 hg C.g (pa_cons he pa_nil (hs := h1)) hdb h1 hpl
/-- the reading of an error that is made -/
theorem err1 {D : Addr} {fl : Str} {v : V} {H : Hp} {R : XK} (h : ∀ d H', H' d = some (.xd [(fl, v)]) → L2.Same H H' → R (.ref D) (some d) H') :
    [v].length ≤ 1000 ∧ ∀ a, H a = none → spErr1 D fl (.ref a :: ([v] ++ [])) (upd H a (exo a D none)) (fun u H2 => u = .non ∧ ∃ (d : Addr) (fs : List (Str × V)), H2 a = some (exo a D (some d)) ∧ H2 d = some (exd d fs) ∧ H d = none ∧ R (.ref D) (some d) (upd (del H2 a) d (.xd fs))) (fun _ _ _ => False) := by
  refine ⟨by show 1 ≤ 1000; decide, fun a ha => ⟨a, v, rfl, upd_same, fun d hd ne => ?_⟩⟩
  have hd' : H d = none := by
    rw [upd_ne ne] at hd
    exact hd
  refine ⟨rfl, d, [(fl, v)], upd_same, by rw [upd_ne ne]; exact upd_same, hd', h d _ upd_same fun b o q => ?_⟩
  have n1 : b ≠ a := ne_of_none q ha
  have n2 : b ≠ d := ne_of_none q hd'
  rw [upd_ne n2]
  show (if b = a then none else _) = _
  rw [if_neg n1, upd_ne n1, upd_ne n2, upd_ne n1]
  exact q
end TX
end
section
set_option maxRecDepth 100000
set_option maxHeartbeats 4000000
/-! rooms refused: check_kind, check_length, check_way, and what calls them, with their errors -/
namespace TX
open PySem PySem.Spec PyProof.Rows L2 SX CW
/-- how a value is refused as a way -/
def WayBad (K : PySem.W.Frag) (IW TL : Addr) (ks : List Nat) (y : V) (H : Hp) (E : XK) : Prop :=
  (∃ t, TyX K H y t ∧ PySem.W.kitOne K t (.type "str") = some false ∧ ∀ d H', H' d = some (.xd [("index", .int 0)]) → L2.Same H H' → E (.ref IW) (some d) H') ∨
  (∃ l : List Nat, y = .str (S l) ∧ l.length ≤ 90000 ∧ l.dropWhile (fun c => ks.contains c) ≠ [] ∧ ∀ d H', H' d = some (.xd [("index", .int ((l.length : Int) - ((l.dropWhile fun c => ks.contains c).length : Int)))]) → L2.Same H H' → E (.ref IW) (some d) H') ∨
  (∃ l : List Nat, y = .str (S l) ∧ l.length ≤ 90000 ∧ (∀ c ∈ l, c ∈ ks) ∧ 2000 < l.length ∧ ∀ d H', H' d = some (.xd [("length", .int (l.length : Int))]) → L2.Same H H' → E (.ref TL) (some d) H')
theorem TyX.same {K : PySem.W.Frag} {H H' : Hp} {y : V} {t : Value} (h : TyX K H y t) (s : L2.Same H H') : TyX K H' y t := by
  cases h with
  | base b => cases b with
    | non => exact .base .non
    | bl y => exact .base (.bl y)
    | int i => exact .base (.int i)
    | str y => exact .base (.str y)
    | flt y => exact .base (.flt y)
    | lst e => exact .base (.lst (s _ _ e))
    | frz e => exact .base (.frz (s _ _ e))
    | tup e => exact .base (.tup (s _ _ e))
    | dK e => exact .base (.dK (s _ _ e))
    | dT e => exact .base (.dT (s _ _ e))
    | ins e a b c d f => exact .base (.ins (s _ _ e) a b c d f)
  | byt b => exact .byt b
  | set e => exact .set (s _ _ e)
  | kList e c => exact .kList e c
  | kTuple e c => exact .kTuple e c
  | kDict e c => exact .kDict e c
  | fTuple e => exact .fTuple (s _ _ e)
  | fDict e => exact .fDict (s _ _ e)
theorem WayBad.same {K : PySem.W.Frag} {IW TL : Addr} {ks : List Nat} {y : V} {H H1 : Hp} {E E1 : XK} (h : WayBad K IW TL ks y H E) (s : L2.Same H H1) (e : ∀ c d G, E c d G → E1 c d G) : WayBad K IW TL ks y H1 E1 := by
  rcases h with ⟨t, a, b, c⟩ | ⟨l, a, b, c, d⟩ | ⟨l, a, b, c, d, f⟩
  · exact .inl ⟨t, TyX.same a s, b, fun d G g q => e _ _ _ (c d G g (s.trans q))⟩
  · exact .inr (.inl ⟨l, a, b, c, fun x G g q => e _ _ _ (d x G g (s.trans q))⟩)
  · exact .inr (.inr ⟨l, a, b, c, d, fun x G g q => e _ _ _ (f x G g (s.trans q))⟩)
/-- how a value is refused as a kind -/
def KindBad (K : PySem.W.Frag) (IK : Addr) (ks : List Nat) (y : V) (H : Hp) (E : XK) : Prop :=
  ((∃ t, TyX K H y t ∧ PySem.W.kitOne K t (.type "str") = some false) ∨ ∃ l : List Nat, y = .str (S l) ∧ l.length ≤ 90000 ∧ ∀ c ∈ ks, l ≠ [c]) ∧ ∀ d H', H' d = some (.xd [("value", y)]) → L2.Same H H' → E (.ref IK) (some d) H'
def spChkLenE (TL : Addr) : Sp := fun vs H Q E => ∃ l : List Nat, vs = [.str (S l)] ∧ l.length ≤ 90000 ∧ (l.length ≤ 2000 → Q .non H) ∧ (2000 < l.length → ∀ d H', H' d = some (.xd [("length", .int (l.length : Int))]) → L2.Same H H' → E (.ref TL) (some d) H')
def spChkWayE (K : PySem.W.Frag) (C IW TL : Addr) : Sp := fun vs H Q E => ∃ (p : Addr) (ks : List Nat) (X : Nat → Nat → Bool) (y : V), vs = [.ref p, y] ∧ PlanAt C H p ks X ∧ ((∃ l : List Nat, y = .str (S l) ∧ (∀ c ∈ l, c ∈ ks) ∧ l.length ≤ 2000 ∧ Q .non H) ∨ WayBad K IW TL ks y H E)
def spChkKindE (K : PySem.W.Frag) (C IK : Addr) : Sp := fun vs H Q E => ∃ (p : Addr) (ks : List Nat) (X : Nat → Nat → Bool) (y : V), vs = [.ref p, y] ∧ PlanAt C H p ks X ∧ ((∃ k, y = .str (S [k]) ∧ k ∈ ks ∧ Q .non H) ∨ KindBad K IK ks y H E)
def spRoomInitE (K : PySem.W.Frag) (C CR IW TL : Addr) : Sp := fun vs H Q E => ∃ (r dx p : Addr) (ks : List Nat) (X : Nat → Nat → Bool) (y : V), vs = [.ref r, .ref p, y] ∧ H r = some (.ins CR dx []) ∧ PlanAt C H p ks X ∧
  ((∃ l : List Nat, y = .str (S l) ∧ (∀ c ∈ l, c ∈ ks) ∧ l.length ≤ 2000 ∧ Q .non (upd H r (.ins CR dx (rflds p (fol ks X [] l))))) ∨ WayBad K IW TL ks y H E)
def spNamedE (C CR TL : Addr) : Sp := fun vs H Q E => ∃ (p : Addr) (ks : List Nat) (X : Nat → Nat → Bool) (n : List Nat), vs = [.ref p, .str (S n)] ∧ PlanAt C H p ks X ∧ n.length ≤ 90000 ∧ (n.length ≤ 2000 → ∀ (a : Addr) (H' : Hp), RoomAt C CR H' a p ks X n → L2.Same H H' → Q (.ref a) H') ∧
  (2000 < n.length → ∀ d H', H' d = some (.xd [("length", .int (n.length : Int))]) → L2.Same H H' → E (.ref TL) (some d) H')
def spAddE (K : PySem.W.Frag) (C CR IW TL : Addr) : Sp := fun vs H Q E => ∃ (a p : Addr) (ks : List Nat) (X : Nat → Nat → Bool) (n : List Nat) (y : V), vs = [.ref a, y] ∧ RoomAt C CR H a p ks X n ∧ n.length ≤ 2000 ∧
  ((∃ l : List Nat, y = .str (S l) ∧ (∀ c ∈ l, c ∈ ks) ∧ l.length ≤ 2000 ∧ ((fol ks X n l).length ≤ 2000 → ∀ (r : Addr) (H' : Hp), RoomAt C CR H' r p ks X (fol ks X n l) → L2.Same H H' → Q (.ref r) H') ∧
    (2000 < (fol ks X n l).length → ∀ d H', H' d = some (.xd [("length", .int ((fol ks X n l).length : Int))]) → L2.Same H H' → E (.ref TL) (some d) H')) ∨ WayBad K IW TL ks y H E)
def spGetE (K : PySem.W.Frag) (C CR IK TL : Addr) : Sp := fun vs H Q E => ∃ (a p : Addr) (ks : List Nat) (X : Nat → Nat → Bool) (n : List Nat) (y : V), vs = [.ref a, y] ∧ RoomAt C CR H a p ks X n ∧ n.length ≤ 2000 ∧
  ((∃ k : Nat, y = .str (S [k]) ∧ k ∈ ks ∧ ((beh ks X n k).length ≤ 2000 → ∀ (r : Addr) (H' : Hp), RoomAt C CR H' r p ks X (beh ks X n k) → L2.Same H H' → Q (.ref r) H') ∧
    (2000 < (beh ks X n k).length → ∀ d H', H' d = some (.xd [("length", .int ((beh ks X n k).length : Int))]) → L2.Same H H' → E (.ref TL) (some d) H')) ∨ KindBad K IK ks y H E)
theorem dropWhile_le (p : Nat → Bool) : ∀ l : List Nat, (l.dropWhile p).length ≤ l.length
  | [] => Nat.le_refl _
  | a :: r => by
    rw [List.dropWhile_cons]
    split
    · exact Nat.le_trans (dropWhile_le p r) (Nat.le_succ _)
    · exact Nat.le_refl _
section
variable {P : Program} {w : World} {K : PySem.W.Frag} {mg : Str → Option Value} {base : Heap} {C CR IK IW TL : Addr}
theorem sc_iw : FnScope ["self", "index"] ["self", "index"] (defScope s_InvalidWay_init) := ⟨rfl, rfl, rfl, by decide +kernel, rfl, by decide +kernel, by decide +kernel⟩
theorem ok_iw {f : Addr} {fd : FuncData} (F : FunD K "__init__" "InvalidWay.__init__" (defArgs s_InvalidWay_init) (defBody s_InvalidWay_init) (defScope s_InvalidWay_init) [] [] f fd) (ox : OexC K IW) (nf : PySem.W.findIn K (.ref IW) "index" = some none) : FnOk P w K mg base C8.CX0 1 f fd ["self", "index"] (spErr1 IW "index") := by
  refine F.ok sc_iw (fun vs H Q E h => ?_) (fun cdv A outer s H vs Q E hr h => ?_)
  · obtain ⟨a, v, rfl, _⟩ := h
    rfl
  · obtain ⟨a, v, rfl, ha, q⟩ := h
    exact ⟨_, PSs.nox (pss_one (ps_ost (pv 0) (pv 1))), _, rfl, _, rfl, a, IW, rfl, ox, nf, .inl ⟨ha, fun d hd nd => q d hd nd⟩⟩
theorem sc_ik : FnScope ["self", "value"] ["self", "value"] (defScope s_InvalidKind_init) := ⟨rfl, rfl, rfl, by decide +kernel, rfl, by decide +kernel, by decide +kernel⟩
theorem ok_ik {f : Addr} {fd : FuncData} (F : FunD K "__init__" "InvalidKind.__init__" (defArgs s_InvalidKind_init) (defBody s_InvalidKind_init) (defScope s_InvalidKind_init) [] [] f fd) (ox : OexC K IK) (nf : PySem.W.findIn K (.ref IK) "value" = some none) : FnOk P w K mg base C8.CX0 1 f fd ["self", "value"] (spErr1 IK "value") := by
  refine F.ok sc_ik (fun vs H Q E h => ?_) (fun cdv A outer s H vs Q E hr h => ?_)
  · obtain ⟨a, v, rfl, _⟩ := h
    rfl
  · obtain ⟨a, v, rfl, ha, q⟩ := h
    exact ⟨_, PSs.nox (pss_one (ps_ost (pv 0) (pv 1))), _, rfl, _, rfl, a, IK, rfl, ox, nf, .inl ⟨ha, fun d hd nd => q d hd nd⟩⟩
theorem sc_tl : FnScope ["self", "length"] ["self", "length"] (defScope s_TooLong_init) := ⟨rfl, rfl, rfl, by decide +kernel, rfl, by decide +kernel, by decide +kernel⟩
theorem ok_tl {f : Addr} {fd : FuncData} (F : FunD K "__init__" "TooLong.__init__" (defArgs s_TooLong_init) (defBody s_TooLong_init) (defScope s_TooLong_init) [] [] f fd) (ox : OexC K TL) (nf : PySem.W.findIn K (.ref TL) "length" = some none) : FnOk P w K mg base C8.CX0 1 f fd ["self", "length"] (spErr1 TL "length") := by
  refine F.ok sc_tl (fun vs H Q E h => ?_) (fun cdv A outer s H vs Q E hr h => ?_)
  · obtain ⟨a, v, rfl, _⟩ := h
    rfl
  · obtain ⟨a, v, rfl, ha, q⟩ := h
    exact ⟨_, PSs.nox (pss_one (ps_ost (pv 0) (pv 1))), _, rfl, _, rfl, a, TL, rfl, ox, nf, .inl ⟨ha, fun d hd nd => q d hd nd⟩⟩
theorem ok_chklenE (F : D K mg "check_length" s_check_length []) (zl : mg "len" = none) (g : ∃ t, mg "MOST_LETTERS" = some (.int 2000 t)) (T : ErrC P w K mg base "TooLong" "length" TL) : CalN P w K mg base 3 "check_length" (spChkLenE TL) := by
  refine F.calN (ps := ["letters"]) sc_chklen (fun f fd F => F.bindsN fun _ _ _ _ _ _ us hl => match us, hl with | [_], _ => rfl) (fun vs H Q E h => ?_) (fun f cdv A outer s H vs Q E hr h => ?_)
  · obtain ⟨l, rfl, _⟩ := h
    rfl
  · obtain ⟨l, rfl, hl, q1, q2⟩ := h
    obtain ⟨t, g⟩ := g
    refine ⟨_, pss_one (ps_if (pt_cmpR op_gt (pe_callB call_len_str (by rfl) zl PySem.boot_len (pa_cons (pv 0) pa_nil)) (C8.pe_gc (v := .int 2000) (by rfl) ⟨_, g, ⟨t, rfl⟩⟩) (nomark _))
      (pss_one (L2N.ps_raise rfl (L2N.takes_of rfl rfl rfl rfl) (pmk_err1 T hr (by decide) (by rfl) (pe_callB call_len_str (by rfl) zl PySem.boot_len (pa_cons (pv 0) pa_nil))))) pss_nil), ?_⟩
    have ls : (S l).length ≤ sizeLine := by rw [S_len]; exact len_line (by omega)
    refine ⟨_, rfl, _, rfl, ls, _, _, rfl, rfl, _, rfl, ?_⟩
    rw [S_len]
    by_cases e : 2000 < l.length
    · rw [decide_eq_true (by omega : (2000 : Int) < (l.length : Int))]
      refine iteT ⟨_, rfl, _, rfl, ls, ?_⟩
      rw [S_len]
      exact err1 (q2 e)
    · rw [decide_eq_false (by omega : ¬ (2000 : Int) < (l.length : Int))]
      exact iteF (q1 (by omega))
theorem ok_chkwayE (F : D K mg "check_way" s_check_way []) (T : PlanT K C) (zi : mg "isinstance" = none) (zs : mg "str" = none) (zl : mg "len" = none) (EI : ErrC P w K mg base "InvalidWay" "index" IW) (cL : CalN P w K mg base 3 "check_length" (spChkLenE TL)) : CalN P w K mg base 4 "check_way" (spChkWayE K C IW TL) := by
  refine F.calN (ps := ["plan", "value"]) sc_chkway (fun f fd F => F.bindsN fun _ _ _ _ _ _ us hl => match us, hl with | [_, _], _ => rfl) (fun vs H Q E h => ?_) (fun f cdv A outer s H vs Q E hr h => ?_)
  · obtain ⟨p, ks, X, y, rfl, _⟩ := h
    rfl
  · obtain ⟨p, ks, X, y, rfl, hp, h⟩ := h
    obtain ⟨dx, tp, da, dl, h1, h2, h3, h4⟩ := hp.ex
    refine ⟨_, pss_cons (ps_if (pt_not (pt_val (pe_callB call_isi (by rfl) zi PyProof.Rows.boot_isinstance (pa_cons (pv 1) (pa_cons (pe_bltn (v := .ty "str") (by rfl) zs (by decide +kernel) rfl) pa_nil))))) (pss_one (L2N.ps_raise rfl (L2N.takes_of rfl rfl rfl rfl) (pmk_err1 EI hr (by decide) (by rfl) pe_int))) pss_nil)
      (pss_cons (ps_set (i := 2) sc_chkway.nd rfl (.inl rfl) (pe_bm PySem.F.plainAttrs_str PySem.F.slot_str_lstrip PySem.F.type_str_lstrip mt_lstripChars (pv 1) (pa_cons (pe_fld (pv 0) rfl) pa_nil)))
      (pss_cons (ps_if (pt_truth (pv 2) (by intro _; rfl)) (pss_one (L2N.ps_raise rfl (L2N.takes_of rfl rfl rfl rfl) (pmk_err1 EI hr (by decide) (by rfl) (pe_op op_sub (pe_callB call_len_str (by rfl) zl PySem.boot_len (pa_cons (pv 1) pa_nil)) (pe_callB call_len_str (by rfl) zl PySem.boot_len (pa_cons (pv 2) pa_nil)))))) pss_nil)
      (pss_one (ps_expr (pe_cN cL hr (by decide) (by rfl) (L2N.takes_of rfl rfl rfl rfl) (pa_cons (pv 1) pa_nil)))))), ?_⟩
    have h' : (∃ t, TyX K H y t ∧ PySem.W.kitOne K t (.type "str") = some false ∧ ∀ d H', H' d = some (.xd [("index", .int 0)]) → L2.Same H H' → E (.ref IW) (some d) H') ∨
        (∃ l : List Nat, y = .str (S l) ∧ l.length ≤ 90000 ∧ ((l.dropWhile (fun c => ks.contains c) ≠ [] ∧ ∀ d H', H' d = some (.xd [("index", .int ((l.length : Int) - ((l.dropWhile fun c => ks.contains c).length : Int)))]) → L2.Same H H' → E (.ref IW) (some d) H') ∨ (l.dropWhile (fun c => ks.contains c) = [] ∧ spChkLenE TL [.str (S l)] H Q E))) := by
      rcases h with ⟨l, ey, hin, hl, q⟩ | ⟨t, ty, kt, q⟩ | ⟨l, ey, ll, ne, q⟩ | ⟨l, ey, ll, hin, gt, q⟩
      · exact .inr ⟨l, ey, by omega, .inr ⟨drop_all hin, l, rfl, by omega, fun _ => q, fun z => absurd z (by omega)⟩⟩
      · exact .inl ⟨t, ty, kt, q⟩
      · exact .inr ⟨l, ey, ll, .inl ⟨ne, q⟩⟩
      · exact .inr ⟨l, ey, ll, .inr ⟨drop_all hin, l, rfl, ll, fun z => absurd z (by omega), fun _ => q⟩⟩
    rcases h' with ⟨t, ty, kt, q⟩ | ⟨l, rfl, ll, hh⟩
    · refine ⟨_, rfl, _, _, t, .type "str", false, rfl, .ty _, ty, kt, _, rfl, iteT ?_⟩
      exact err1 q
    · refine ⟨_, rfl, _, _, .type "str", .type "str", true, rfl, .ty _, .base (.str _), kit_ty (by decide +kernel), _, rfl, iteF ?_⟩
      refine ⟨_, rfl, rfl, _, rfl, p, C, dx, _, _, rfl, h1, T.cl, T.nk, pf_kinds _ _ _ _, _, _, rfl, rfl, (by rw [S_len]; exact len_line (by omega)), ?_⟩
      rw [S_lstrip]
      have dl2 := dropWhile_le (fun c => ks.contains c) l
      rcases hh with ⟨ne, q⟩ | ⟨e, q⟩
      · refine ⟨_, rfl, true, ⟨by rw [S_len]; exact len_line (by omega), by rw [S_len]; exact (bne_iff_ne.mpr fun z => ne (List.length_eq_zero_iff.mp (by omega))).symm⟩, iteT ?_⟩
        refine ⟨_, rfl, _, rfl, (by rw [S_len]; exact len_line (by omega)), _, rfl, _, rfl, (by rw [S_len]; exact len_line (by omega)), _, _, rfl, rfl, ?_⟩
        rw [S_len, S_len]
        exact err1 q
      · rw [e]
        refine ⟨_, rfl, false, ⟨by rw [S_len]; exact len_line (by simp), by rw [S_len]; rfl⟩, iteF ?_⟩
        exact ⟨_, rfl, q⟩
theorem ok_chkkindE (F : D K mg "check_kind" s_check_kind []) (T : PlanT K C) (zi : mg "isinstance" = none) (zs : mg "str" = none) (zl : mg "len" = none) (EI : ErrC P w K mg base "InvalidKind" "value" IK) : CalN P w K mg base 3 "check_kind" (spChkKindE K C IK) := by
  refine F.calN (ps := ["plan", "value"]) sc_chkkind (fun f fd F => F.bindsN fun _ _ _ _ _ _ us hl => match us, hl with | [_, _], _ => rfl) (fun vs H Q E h => ?_) (fun f cdv A outer s H vs Q E hr h => ?_)
  · obtain ⟨p, ks, X, y, rfl, _⟩ := h
    rfl
  · obtain ⟨p, ks, X, y, rfl, hp, h⟩ := h
    obtain ⟨dx, tp, da, dl, h1, h2, h3, h4⟩ := hp.ex
    refine ⟨_, pss_one (ps_if (PW.pt (pw_or (pt_not (pt_val (pe_callB call_isi (by rfl) zi PyProof.Rows.boot_isinstance (pa_cons (pv 1) (pa_cons (pe_bltn (v := .ty "str") (by rfl) zs (by decide +kernel) rfl) pa_nil)))))
      (pw_or (pt_cmpR op_ne (pe_callB call_len_str (by rfl) zl PySem.boot_len (pa_cons (pv 1) pa_nil)) pe_int (nomark _)) (pw_or1 (pt_cmpR op_notIn_sign (pv 1) (pe_fld (pv 0) rfl) (by rfl)))))) (pss_one (L2N.ps_raise rfl (L2N.takes_of rfl rfl rfl rfl) (pmk_err1 EI hr (by decide) (by rfl) (pv 1)))) pss_nil), ?_⟩
    rcases h with ⟨k, rfl, hk, q⟩ | ⟨⟨t, ty, kt⟩ | ⟨l, rfl, ll, hl⟩, q⟩
    · refine ⟨_, rfl, _, _, .type "str", .type "str", true, rfl, .ty _, .base (.str _), kit_ty (by decide +kernel), _, rfl, iteF ?_⟩
      refine ⟨_, rfl, _, rfl, by rw [S_len]; exact len_line (by simp), rfl, _, rfl, ?_⟩
      rw [S_len]
      refine iteF ?_
      refine ⟨_, rfl, _, rfl, p, C, dx, _, _, rfl, h1, T.cl, T.nk, pf_kinds _ _ _ _, ?_⟩
      refine ⟨k, S ks, rfl, rfl, ?_⟩
      rw [mem_S, List.contains_iff_mem.mpr hk]
      exact ⟨_, rfl, iteF q⟩
    · refine ⟨_, rfl, _, _, t, .type "str", false, rfl, .ty _, ty, kt, _, rfl, iteT ?_⟩
      exact ⟨_, rfl, err1 q⟩
    · refine ⟨_, rfl, _, _, .type "str", .type "str", true, rfl, .ty _, .base (.str _), kit_ty (by decide +kernel), _, rfl, iteF ?_⟩
      refine ⟨_, rfl, _, rfl, by rw [S_len]; exact len_line (by omega), rfl, _, rfl, ?_⟩
      rw [S_len]
      match l, hl with
      | [c], hl =>
        refine iteF ?_
        refine ⟨_, rfl, _, rfl, p, C, dx, _, _, rfl, h1, T.cl, T.nk, pf_kinds _ _ _ _, ?_⟩
        refine ⟨c, S ks, rfl, rfl, ?_⟩
        have nc : ks.contains c = false := by
          cases e : ks.contains c with
          | false => rfl
          | true => exact absurd rfl (hl c (List.contains_iff_mem.mp e))
        rw [mem_S, nc]
        refine ⟨_, rfl, iteT ?_⟩
        exact ⟨_, rfl, err1 q⟩
      | [], hl =>
        refine iteT ?_
        exact ⟨_, rfl, err1 q⟩
      | a :: b :: r, hl =>
        rw [show (!decide (V.int (((a :: b :: r).length : Nat) : Int) = V.int 1)) = true from by
          have z : ¬ (V.int (((a :: b :: r).length : Nat) : Int) = V.int 1) := fun e => by
            have e2 := V.int.inj e
            simp only [List.length_cons] at e2
            omega
          rw [decide_eq_false z]
          rfl]
        refine iteT ?_
        exact ⟨_, rfl, err1 q⟩
theorem ok_roombodyE {f : Addr} {fd : FuncData} (F : FunD K "__init__" "Room.__init__" (defArgs s_Room_init) (defBody s_Room_init) (defScope s_Room_init) [.str ""] [] f fd) (TR : RoomT K CR)
    (cW : CalN P w K mg base 4 "check_way" (spChkWayE K C IW TL)) (cF : C8.Cal P w K mg base 2 "followed" (spFollowed C) []) : FnOk P w K mg base (L2N.CX P w) 5 f fd ["self", "plan", "way"] (spRoomInitE K C CR IW TL) := by
  refine F.ok sc_roominit (fun vs H Q E h => ?_) (fun cdv A outer s H vs Q E hr h => ?_)
  · obtain ⟨r, dx, p, ks, X, y, rfl, _⟩ := h
    rfl
  · obtain ⟨r, dx, p, ks, X, y, rfl, hr0, hp, h⟩ := h
    refine ⟨_, pss_cons (ps_expr (pe_cN cW hr (by decide) (by rfl) (L2N.takes_of rfl rfl rfl rfl) (pa_cons (pv 1) (pa_cons (pv 2) pa_nil))))
      (pss_cons (ps_fld (pv 0) (pv 1) rfl) (pss_one (ps_fld (pv 0) (C8.pe_c cF hr (by decide) (by rfl) (pa_cons (pv 1) (pa_cons pe_str (pa_cons (pv 2) pa_nil)))) rfl))), ?_⟩
    refine ⟨_, rfl, _, rfl, p, ks, X, y, rfl, hp, ?_⟩
    rcases h with ⟨l, rfl, hin, hl, q⟩ | h
    · refine .inl ⟨l, rfl, hin, hl, ?_⟩
      refine ⟨_, rfl, _, rfl, r, CR, dx, [], rfl, hr0, TR.cl, TR.np, (by show 0 < 1000; decide), ?_⟩
      have hp2 : PlanAt C (upd H r (.ins CR dx (putF "plan" (.ref p) []))) p ks X := hp.but hr0 (by simp) But.at
      rw [empty_S]
      refine ⟨_, rfl, _, rfl, p, ks, X, [], l, rfl, hp2, hin, by simp only [List.length_nil]; omega, ?_⟩
      refine ⟨_, rfl, r, CR, dx, _, rfl, upd_same, TR.cl, TR.nn, (by show 1 < 1000; decide), ?_⟩
      rw [rf_eq, upd_upd]
      exact q
    · exact .inr h
theorem ok_namedE (F : D K mg "room_named" s_room_named []) (TR : RoomT K CR) (cL : CalN P w K mg base 3 "check_length" (spChkLenE TL)) (mR : C8.Mak P w K mg base 3 "Room" CR (spRoomInit C CR) [.str ""]) : CalN P w K mg base 5 "room_named" (spNamedE C CR TL) := by
  refine F.calN (ps := ["plan", "name"]) sc_named (fun f fd F => F.bindsN fun _ _ _ _ _ _ us hl => match us, hl with | [_, _], _ => rfl) (fun vs H Q E h => ?_) (fun f cdv A outer s H vs Q E hr h => ?_)
  · obtain ⟨p, ks, X, n, rfl, _⟩ := h
    rfl
  · obtain ⟨p, ks, X, n, rfl, hp, ln, k, k2⟩ := h
    refine ⟨_, pss_cons (ps_expr (pe_cN cL hr (by decide) (by rfl) (L2N.takes_of rfl rfl rfl rfl) (pa_cons (pv 1) pa_nil)))
      (pss_cons (ps_set (i := 2) sc_named.nd rfl (.inl rfl) (C8.pe_mk mR hr (by decide) (by rfl) (pa_cons (pv 0) pa_nil)))
      (pss_cons (ps_fld (pv 2) (pv 1) rfl) (pss_one (ps_ret (pv 2))))), ?_⟩
    refine ⟨_, rfl, n, rfl, ln, fun l2 => ⟨_, rfl, fun x dx hx hdx ndx => ?_⟩, k2⟩
    refine ⟨x, dx, p, ks, X, [], rfl, upd_same, hp.same (fun b v e => by rw [upd_ne (ne_of_none e hx), upd_ne (ne_of_none e hdx)]; exact e), (fun c h => by cases h), by simp, rfl, ?_⟩
    refine ⟨_, rfl, _, rfl, x, CR, dx, _, rfl, upd_same, TR.cl, TR.nn, (by show 2 < 1000; decide), ?_⟩
    rw [put_nameV]
    have sm : L2.Same H (upd (upd (upd (upd H dx (.own x)) x (.ins CR dx [])) x (.ins CR dx (rflds p (fol ks X [] [])))) x (.ins CR dx (rflds p n))) := fun b v e => by
      rw [upd_ne (ne_of_none e hx), upd_ne (ne_of_none e hx), upd_ne (ne_of_none e hx), upd_ne (ne_of_none e hdx)]
      exact e
    exact ⟨_, rfl, k l2 x _ ⟨hp.same sm, dx, upd_same⟩ sm⟩
theorem ok_roomaddE {f : Addr} {fd : FuncData} (F : FunD K "__add__" "Room.__add__" (defArgs s_Room_add) (defBody s_Room_add) (defScope s_Room_add) [] [] f fd) (TR : RoomT K CR)
    (cW : CalN P w K mg base 4 "check_way" (spChkWayE K C IW TL)) (cF : C8.Cal P w K mg base 2 "followed" (spFollowed C) []) (cN : CalN P w K mg base 5 "room_named" (spNamedE C CR TL)) : FnOk P w K mg base (L2N.CX P w) 6 f fd ["self", "other"] (spAddE K C CR IW TL) := by
  refine F.ok sc_add (fun vs H Q E h => ?_) (fun cdv A outer s H vs Q E hr h => ?_)
  · obtain ⟨a, p, ks, X, n, y, rfl, _⟩ := h
    rfl
  · obtain ⟨a, p, ks, X, n, y, rfl, ha, ln, h⟩ := h
    refine ⟨_, pss_cons (ps_expr (pe_cN cW hr (by decide) (by rfl) (L2N.takes_of rfl rfl rfl rfl) (pa_cons (pe_fld (pv 0) rfl) (pa_cons (pv 1) pa_nil))))
      (pss_one (ps_ret (pe_cN cN hr (by decide) (by rfl) (L2N.takes_of rfl rfl rfl rfl) (pa_cons (pe_fld (pv 0) rfl) (pa_cons (C8.pe_c cF hr (by decide) (by rfl) (pa_cons (pe_fld (pv 0) rfl) (pa_cons (pe_fld (pv 0) rfl) (pa_cons (pv 1) pa_nil)))) pa_nil))))), ?_⟩
    obtain ⟨dx, h1⟩ := ha.ex
    refine ⟨_, rfl, a, CR, dx, _, _, rfl, h1, TR.cl, TR.np, rf_plan _ _, _, rfl, p, ks, X, y, rfl, ha.pl, ?_⟩
    rcases h with ⟨l, rfl, hin, hl, q1, q2⟩ | h
    · refine .inl ⟨l, rfl, hin, hl, ?_⟩
      have lf := fol_length ks X l n
      refine ⟨_, rfl, a, CR, dx, _, _, rfl, h1, TR.cl, TR.np, rf_plan _ _, _, rfl, a, CR, dx, _, _, rfl, h1, TR.cl, TR.np, rf_plan _ _, _, rfl, a, CR, dx, _, _, rfl, h1, TR.cl, TR.nn, rf_nameV _ _, _, rfl, p, ks, X, n, l, rfl, ha.pl, hin, by omega, ?_⟩
      exact ⟨p, ks, X, _, rfl, ha.pl, by omega, q1, q2⟩
    · exact .inr h
theorem ok_roomgetE {f : Addr} {fd : FuncData} (F : FunD K "__getitem__" "Room.__getitem__" (defArgs s_Room_getitem) (defBody s_Room_getitem) (defScope s_Room_getitem) [] [] f fd) (TR : RoomT K CR)
    (cK : CalN P w K mg base 3 "check_kind" (spChkKindE K C IK)) (cB : C8.Cal P w K mg base 1 "behind" (spBehind C) []) (cN : CalN P w K mg base 5 "room_named" (spNamedE C CR TL)) : FnOk P w K mg base (L2N.CX P w) 6 f fd ["self", "at"] (spGetE K C CR IK TL) := by
  refine F.ok sc_get (fun vs H Q E h => ?_) (fun cdv A outer s H vs Q E hr h => ?_)
  · obtain ⟨a, p, ks, X, n, y, rfl, _⟩ := h
    rfl
  · obtain ⟨a, p, ks, X, n, y, rfl, ha, ln, h⟩ := h
    refine ⟨_, pss_cons (ps_expr (pe_cN cK hr (by decide) (by rfl) (L2N.takes_of rfl rfl rfl rfl) (pa_cons (pe_fld (pv 0) rfl) (pa_cons (pv 1) pa_nil))))
      (pss_one (ps_ret (pe_cN cN hr (by decide) (by rfl) (L2N.takes_of rfl rfl rfl rfl) (pa_cons (pe_fld (pv 0) rfl) (pa_cons (C8.pe_c cB hr (by decide) (by rfl) (pa_cons (pe_fld (pv 0) rfl) (pa_cons (pe_fld (pv 0) rfl) (pa_cons (pv 1) pa_nil)))) pa_nil))))), ?_⟩
    obtain ⟨dx, h1⟩ := ha.ex
    refine ⟨_, rfl, a, CR, dx, _, _, rfl, h1, TR.cl, TR.np, rf_plan _ _, _, rfl, p, ks, X, y, rfl, ha.pl, ?_⟩
    rcases h with ⟨k, rfl, hk, q1, q2⟩ | h
    · refine .inl ⟨k, rfl, hk, ?_⟩
      have lb := beh_length ks X n k
      refine ⟨_, rfl, a, CR, dx, _, _, rfl, h1, TR.cl, TR.np, rf_plan _ _, _, rfl, a, CR, dx, _, _, rfl, h1, TR.cl, TR.np, rf_plan _ _, _, rfl, a, CR, dx, _, _, rfl, h1, TR.cl, TR.nn, rf_nameV _ _, _, rfl, p, ks, X, n, k, rfl, ha.pl, hk, by omega, ?_⟩
      exact ⟨p, ks, X, _, rfl, ha.pl, by omega, q1, q2⟩
    · exact .inr h
end
end TX
end
section
set_option maxRecDepth 100000
set_option maxHeartbeats 4000000
/-! Half.beside of a value that is no kind -/
namespace TX
open PySem PySem.Spec PyProof.Rows L2 SX CW
theorem KindBad.same {K : PySem.W.Frag} {IK : Addr} {ks : List Nat} {y : V} {H H1 : Hp} {E E1 : XK} (h : KindBad K IK ks y H E) (s : L2.Same H H1) (e : ∀ c d G, E c d G → E1 c d G) : KindBad K IK ks y H1 E1 :=
  ⟨h.1.imp (fun ⟨t, a, b⟩ => ⟨t, TyX.same a s, b⟩) id, fun d G g q => e _ _ _ (h.2 d G g (s.trans q))⟩
def spWallInitE (K : PySem.W.Frag) (C CR CL IK : Addr) : Sp := fun vs H Q E => ∃ (r b p : Addr) (ks : List Nat) (X : Nat → Nat → Bool) (n : List Nat) (y : V), vs = [.ref r, .ref b, y] ∧ RoomAt C CR H b p ks X n ∧ KindBad K IK ks y H E
def spBesE (K : PySem.W.Frag) (C CR IK : Addr) : Sp := fun vs H Q E => ∃ (b p : Addr) (ks : List Nat) (X : Nat → Nat → Bool) (n : List Nat) (y : V), vs = [.ref b, y] ∧ RoomAt C CR H b p ks X n ∧ KindBad K IK ks y H E
section
variable {P : Program} {w : World} {K : PySem.W.Frag} {mg : Str → Option Value} {base : Heap} {C CR CL CH IK : Addr}
theorem ok_wallbodyE {f : Addr} {fd : FuncData} (F : FunD K "__init__" "Wall.__init__" (defArgs s_Wall_init) (defBody s_Wall_init) (defScope s_Wall_init) [] [] f fd) (TR : RoomT K CR)
    (cK : CalN P w K mg base 3 "check_kind" (spChkKindE K C IK)) (cT : C8.Cal P w K mg base 3 "to_door" (spToDoor C) []) (cN : C8.Cal P w K mg base 5 "room_named" (spRoomNamed C CR) []) : FnOk P w K mg base (L2N.CX P w) 6 f fd ["self", "room", "kind"] (spWallInitE K C CR CL IK) := by
  refine F.ok sc_wallinit (fun vs H Q E h => ?_) (fun cdv A outer s H vs Q E hr h => ?_)
  · obtain ⟨r, b, p, ks, X, n, y, rfl, _⟩ := h
    rfl
  · obtain ⟨r, b, p, ks, X, n, y, rfl, hb, h⟩ := h
    refine ⟨_, pss_cons (ps_expr (pe_cN cK hr (by decide) (by rfl) (L2N.takes_of rfl rfl rfl rfl) (pa_cons (pe_fld (pv 1) rfl) (pa_cons (pv 2) pa_nil))))
      (pss_cons (ps_fld (pv 0) (pe_fld (pv 1) rfl) rfl)
      (pss_cons (ps_fld (pv 0) (C8.pe_c cN hr (by decide) (by rfl) (pa_cons (pe_fld (pv 1) rfl) (pa_cons (C8.pe_c cT hr (by decide) (by rfl) (pa_cons (pe_fld (pv 1) rfl) (pa_cons (pe_fld (pv 1) rfl) (pa_cons (pv 2) pa_nil)))) pa_nil))) rfl)
      (pss_one (ps_fld (pv 0) (pv 2) rfl)))), ?_⟩
    obtain ⟨ex, g1⟩ := hb.ex
    exact ⟨_, rfl, b, CR, ex, _, _, rfl, g1, TR.cl, TR.np, rf_plan _ _, _, rfl, p, ks, X, y, rfl, hb.pl, .inr h⟩
theorem ok_hbesE {f : Addr} {fd : FuncData} (F : FunD K "beside" "Half.beside" (defArgs s_Half_beside) (defBody s_Half_beside) (defScope s_Half_beside) [] [] f fd) (M : HfMk P w K mg base C CR CL CH)
    {fw : Addr} {fdw : FuncData} (MW : Mk K CL fw) (W : FnOk P w K mg base (L2N.CX P w) 6 fw fdw ["self", "room", "kind"] (spWallInitE K C CR CL IK)) (bW : L2.Binds K fdw ["self", "room", "kind"] []) (gW : mg "Wall" = some (.ref CL))
    (mB : C8.Met P w K mg base 4 CL "beyond" (spBeyond C CR CL) []) : FnOk P w K mg base (L2N.CX P w) 8 f fd ["room", "kind"] (spBesE K C CR IK) := by
  refine F.ok sc_hbes (fun vs H Q E h => ?_) (fun cdv A outer s H vs Q E hr h => ?_)
  · obtain ⟨b, p, ks, X, n, y, rfl, _⟩ := h
    rfl
  · obtain ⟨b, p, ks, X, n, y, rfl, hb, h⟩ := h
    refine ⟨_, pss_cons (ps_set (i := 2) sc_hbes.nd rfl (.inl rfl) (pe_make MW W (hr.mono (by decide)) (by rfl) gW bW .nil (L2N.passes_call (L2N.takes_of rfl rfl rfl rfl) fun _ _ _ _ h => h) (pa_cons (pv 0) (pa_cons (pv 1) pa_nil))))
      (pss_one (ps_ret (C8.pe_mk M.two hr (by decide) (by rfl) (pa_cons (pv 2) (pa_cons (C8.pe_mt mB hr (by decide) (pv 2) (pa_cons (pv 0) pa_nil)) pa_nil))))), ?_⟩
    refine ⟨_, rfl, _, rfl, fun x dx hx hdx _ => ⟨x, b, p, ks, X, n, y, rfl, hb.same (same_born hx hdx), KindBad.same h (same_born hx hdx) fun _ _ _ z => z⟩⟩
end
end TX
end
section
set_option maxRecDepth 100000
set_option maxHeartbeats 4000000
/-! a staticmethod called by its class -/
namespace TX
open PySem PySem.Spec PyProof.Rows L2
/-! ### C.m(..), m a staticmethod -/
structure CSt (K : PySem.W.Frag) (C : Addr) (mc : Value) (m : Str) (p g : Addr) : Prop where
  rd : ClX.CRead K C mc
  at_ : PySem.W.findCls K (.ref C) mc m = some (.get (.builtin "staticmethod.__get__") (.ref p) .none (.ref C))
  rc : ∃ rest, PySem.W.recIn K p "staticmethod" = some (.ref g :: rest)
  kp : PySem.W.keepIn K (.ref g) = true
def tCSt (C : Addr) (sp : Sp) (E : XK) (ta : TE) (t : TA) : TE := fun σ H Q => ta σ H fun x H1 => x = .ref C ∧ t σ H1 fun vs H2 => sp vs H2 Q E
section
variable {X : Cx} {CX : CXT} {k : Nat} {C p g : Addr} {mc : Value} {sp : Sp} {E : XK} {o e : Expr} {es : List Expr} {m : Str} {pos apos : Pos} {ta : TE} {t : TA} {pl : Sem Bool} {fd : FuncData} {ps : List Str}
theorem pe_cst (he : PE X o ta) (c : CSt X.K C mc m p g) (F : FnOk X.prog X.w X.K X.mg X.base CX k g fd ps sp) (hb : L2.Binds X.K fd ps []) (hr : L2.Room k X.A) (hx : Passes CX X E) (ha : PA X (e :: es) t)
    (hst : starEach (e :: es) X.env = (false, eval e X.env) :: starEach es X.env := by rfl) (hpl : (backTo pos (starEach es X.env)).any (·.1) = false := by rfl)
    (ht : eval (.Call (.Attribute o m apos) (e :: es) [] pos) X.env = (do
      let ov ← eval o X.env
      standAt apos.atName
      let (f, first) ← holding [ov] (getMethod ov m pl)
      callWith pos f first (backTo pos (starEach (e :: es) X.env)) (backToKw pos (keywordEach [] X.env))) := by rfl) :
    PE X (.Call (.Attribute o m apos) (e :: es) [] pos) (tCSt C sp E ta t) := by
  refine ⟨fun pins s σ H Q I h => PySem.W.methodCall_KW (pl := pl) (thn (he.run pins s σ H _ I h) fun u s1 ⟨x, H1, I1, rx, ex, q⟩ => ?_) ht⟩
  subst ex
  have eu : u = Value.ref C := rx
  subst eu
  obtain ⟨rest, hp⟩ := c.rc
  refine PySem.W.method_cls I1.kIn c.rd.ga (PySem.W.cls_bind I1.kIn c.rd.rd c.at_ (wpAny_call (PySem.W.sm_get (s := { s1 with toks := s1.toks + 1 }) I1.kIn hp (PySem.W.handed_on rfl ?_))))
  have I2 : L2.Inv X pins σ H1 { s1 with toks := s1.toks + 1 } := I1.tok _
  refine PySem.W.callWith_K (h₀ := X.base) I2.ok.mod.kin c.kp (thn (ha.run pos pins _ σ H1 _ I2 q) fun us s3 ⟨vs, H3, I3, r, q3⟩ => ⟨I3.kIn, ?_⟩) hst hpl
  exact run_fn F hr hb .nil hx I3 r (by rw [List.append_nil]; exact q3)
end
end TX
end
section
set_option maxRecDepth 100000
set_option maxHeartbeats 8000000
/-! a vector is turned, letter by letter, from the other side -/
namespace CW
variable {X : Nat → Nat → Bool} {ks : List Nat}
def farS (ks : List Nat) (X : Nat → Nat → Bool) (a : Nat) (v : Vec) (l : List Nat) : Int := ((l.filter fun i => decide (i ≠ a) && !(X a i)).map v).sum
def rf (ks : List Nat) (X : Nat → Nat → Bool) (a : Nat) (v : Vec) : Vec := fun j => if j = a then -(v a) + 2 * farS ks X a v ks else v j
theorem farS_sum (cr : Crossing X) (v : Vec) {a : Nat} : ∀ l : List Nat, l.Nodup → (l.map fun i => v i * mr X [a] i a).sum = (if a ∈ l then -(v a) else 0) + 2 * farS ks X a v l
  | [], _ => rfl
  | i :: l, nd => by
    rw [List.nodup_cons] at nd
    have ih := farS_sum cr v (a := a) l nd.2
    rw [List.map_cons, List.sum_cons, ih]
    have e1 : mr X [a] i a = if i = a then -1 else if X a i = true then 0 else 2 := by
      show thr X (mr X []) a i a = _
      unfold thr
      show (if i = a then -(unitV a a) else if X a i = true then unitV i a else unitV i a + 2 * unitV a a) = _
      have u1 : unitV a a = 1 := if_pos rfl
      by_cases h : i = a
      · rw [if_pos h, if_pos h, u1]
      · have u0 : unitV i a = 0 := if_neg h
        rw [if_neg h, if_neg h, u0, u1]
        cases X a i <;> rfl
    rw [e1]
    unfold farS
    by_cases h : i = a
    · subst h
      rw [if_pos rfl, if_neg nd.1, if_pos List.mem_cons_self, List.filter_cons_of_neg (by simp)]
      omega
    · rw [if_neg h]
      have m : (a ∈ i :: l) ↔ a ∈ l := by
        rw [List.mem_cons]
        exact ⟨fun z => z.elim (fun e => absurd e.symm h) id, .inr⟩
      have mi : (if a ∈ i :: l then -(v a) else (0 : Int)) = if a ∈ l then -(v a) else 0 := by
        by_cases z : a ∈ l
        · rw [if_pos z, if_pos (m.mpr z)]
        · rw [if_neg z, if_neg (fun w => z (m.mp w))]
      rw [mi]
      cases x : X a i with
      | true =>
        rw [if_pos rfl, List.filter_cons_of_neg (by simp [x])]
        omega
      | false =>
        rw [if_neg (by decide), List.filter_cons_of_pos (by simp [h, x]), List.map_cons, List.sum_cons]
        omega
theorem rf_mr (cr : Crossing X) (nd : ks.Nodup) {r : List Nat} {k a j : Nat} (hk : k ∈ ks) (ha : a ∈ ks) (hr : ∀ c ∈ r, c ∈ ks) (hj : j ∈ ks) : mr X (r ++ [a]) k j = rf ks X a (mr X r k) j := by
  rw [mr_lin nd [a] r k hk hr j]
  unfold rf
  by_cases h : j = a
  · subst h
    rw [if_pos rfl, farS_sum (ks := ks) cr (mr X r k) ks nd, if_pos ha]
  · rw [if_neg h]
    have e : (ks.map fun i => mr X r k i * mr X [a] i j) = ks.map fun i => mr X r k i * unitV i j := List.map_congr_left fun i _ => by rw [mr_one (X := X) h]
    rw [e, sum_unitR nd hj]
theorem rf_congr {a : Nat} {v w : Vec} (ha : a ∈ ks) (h : ∀ j ∈ ks, v j = w j) : ∀ j ∈ ks, rf ks X a v j = rf ks X a w j := fun j hj => by
  unfold rf
  by_cases z : j = a
  · rw [if_pos z, if_pos z, h a ha]
    congr 2
    unfold farS
    congr 1
    exact List.map_congr_left fun i hi => h i (List.mem_filter.mp hi).1
  · rw [if_neg z, if_neg z, h j hj]
end CW
end
section
set_option maxRecDepth 100000
set_option maxHeartbeats 4000000
/-! two lists of the same objects compared -/
namespace TX
open PySem PySem.Spec PyProof.Rows L2
theorem vals_refs : ∀ {rs : List Addr} {its : List Value}, Vals (rs.map V.ref) its → its = rs.map Value.ref
  | [], its, h => by cases h; rfl
  | a :: rs, its, h => by
    cases h with
    | cons r1 r2 =>
      have e : _ = Value.ref a := r1
      rw [e, vals_refs r2]
      rfl
def rNeSame (K : PySem.W.Frag) : R2 := fun x y H Q => ∃ (a b : Addr) (rs : List Addr), x = .ref a ∧ y = .ref b ∧ SqL K H a (rs.map V.ref) ∧ SqL K H b (rs.map V.ref) ∧ Q (.bl false) H
theorem op_neSame {X : Cx} (hu : X.A.units < cLine) : OpR X (compareOp .NotEq) (rNeSame X.K) := by
  intro pins s σ H x y v u Q I rx ry h
  obtain ⟨a, b, rs, rfl, rfl, h1, h2, q⟩ := h
  have ev : v = .ref a := rx
  have eu : u = .ref b := ry
  subst ev
  subst eu
  obtain ⟨its, vi, ti, _⟩ := I.list h1
  obtain ⟨jts, vj, tj, _⟩ := I.list h2
  have e1 := vals_refs vi
  have e2 := vals_refs vj
  subst e1
  subst e2
  have z := SeqAt.RcNeAt.lists (A := X.A) (e := fun _ => true) ti.isList tj.isList rfl hu fun j _ _ => SeqAt.EqAt.same _
  have al : ((List.range (rs.map Value.ref).toArray.size).all fun _ => true) = true := by
    rw [List.all_eq_true]
    intro _ _
    rfl
  rw [al] at z
  show wpAny (model X.prog X.w) X.A (richCompare .NotEq (.ref a) (.ref b)) (EP X pins σ Q) X.xe s
  exact z _ _ _ _ ⟨.bl false, H, I, rfl, q⟩
def rNeNil (K : PySem.W.Frag) : R2 := fun x y H Q => ∃ (a b : Addr) (xs : List V), x = .ref a ∧ y = .ref b ∧ SqL K H a xs ∧ SqL K H b [] ∧ Q (.bl (!xs.isEmpty)) H
theorem op_neNil {X : Cx} (hu : X.A.units < cLine) : OpR X (compareOp .NotEq) (rNeNil X.K) := by
  intro pins s σ H x y v u Q I rx ry h
  obtain ⟨a, b, xs, rfl, rfl, h1, h2, q⟩ := h
  have ev : v = .ref a := rx
  have eu : u = .ref b := ry
  subst ev
  subst eu
  obtain ⟨its, vi, ti, _⟩ := I.list h1
  obtain ⟨jts, vj, tj, _⟩ := I.list h2
  cases vj
  show wpAny (model X.prog X.w) X.A (richCompare .NotEq (.ref a) (.ref b)) (EP X pins σ Q) X.xe s
  cases vi with
  | nil =>
    have z := SeqAt.RcNeAt.lists (A := X.A) (e := fun _ => true) ti.isList tj.isList rfl hu fun j h _ => absurd h (by simp)
    exact z _ _ _ _ ⟨.bl false, H, I, rfl, q⟩
  | cons r1 r2 =>
    have z := SeqAt.RcNeAt.lists_lengths (A := X.A) ti.isList tj.isList (by simp) hu
    exact z _ _ _ _ ⟨.bl true, H, I, rfl, q⟩
def rEqNil (K : PySem.W.Frag) : R2 := fun x y H Q => ∃ (a b : Addr) (xs : List V), x = .ref a ∧ y = .ref b ∧ SqL K H a xs ∧ SqL K H b [] ∧ Q (.bl xs.isEmpty) H
theorem op_eqNil {X : Cx} (hu : X.A.units < cLine) : OpR X (compareOp .Eq) (rEqNil X.K) := by
  intro pins s σ H x y v u Q I rx ry h
  obtain ⟨a, b, xs, rfl, rfl, h1, h2, q⟩ := h
  have ev : v = .ref a := rx
  have eu : u = .ref b := ry
  subst ev
  subst eu
  obtain ⟨its, vi, ti, _⟩ := I.list h1
  obtain ⟨jts, vj, tj, _⟩ := I.list h2
  cases vj
  show wpAny (model X.prog X.w) X.A (richCompare .Eq (.ref a) (.ref b)) (EP X pins σ Q) X.xe s
  cases vi with
  | nil =>
    have z := SeqAt.RcAt.lists (A := X.A) (e := fun _ => true) ti.isList tj.isList rfl hu fun j h _ => absurd h (by simp)
    exact z _ _ _ _ ⟨.bl true, H, I, rfl, q⟩
  | cons r1 r2 =>
    have z := SeqAt.RcAt.lists_lengths (A := X.A) ti.isList tj.isList (by simp) hu
    exact z _ _ _ _ ⟨.bl false, H, I, rfl, q⟩
end TX
end
section
set_option maxRecDepth 100000
set_option maxHeartbeats 4000000
/-! list(text) -/
namespace TX
open PySem PySem.Spec PyProof.Rows L2 SX
def rListT : List V → Hp → VK → Prop := fun xs H Q => ∃ l : List Nat, xs = [.str (S l)] ∧ l.length ≤ 1000 ∧ ∀ p, H p = none → Q (.ref p) (upd H p (.lst (ones l)))
theorem cr_listT {X : Cx} (hc : X.calm = true) : CallR X (.type "list") rListT := by
  intro pins s σ H xs us Q I r h
  obtain ⟨l, rfl, ll, q⟩ := h
  obtain ⟨u, rfl⟩ : ∃ u, us = [.str (S l) u] := by
    cases r with
    | cons r t =>
      cases t
      obtain ⟨u, rfl⟩ := r
      exact ⟨u, rfl⟩
  refine call_list_str (I.ok.hd hc) (S l) u (fun h' tk acc c' hk e hi => ?_) (by show (S l).cps.size ≤ sizeLine; rw [sizeS]; exact len_line (by omega))
  refine ⟨.ref s.heap.objs.size, upd H s.heap.objs.size (.lst (ones l)), I.laid hk (Nat.le_refl _) ⟨by unfold ones; rw [List.length_map]; exact len_line (by omega), acc.toList, c', ?_, by rw [Array.toArray_toList]; exact e⟩, rfl, q _ (I.hok.fresh (Nat.le_refl _))⟩
  refine vals_of_idx _ _ (by unfold ones; rw [List.length_map, Array.length_toList, hi.1, sizeS]) fun j v hj => ?_
  rw [Array.getElem?_toList] at hj
  obtain ⟨c, t, h1, h2⟩ := hi.2 j v hj
  have hc' := getS h1
  refine ⟨.str (S [c]), by unfold ones; rw [List.getElem?_map, hc']; rfl, ?_⟩
  rw [h2]
  exact ⟨t, rfl⟩
/-- list(x), x a list or a text -/
theorem cr_listO {X : Cx} (hc : X.calm = true) : CallR X (.type "list") (fun xs H Q => rListT xs H Q ∨ (∃ p ys, xs = [V.ref p] ∧ (SqL X.K H p ys ∨ SqT X.K H p ys) ∧ ∀ l, H l = none → Q (.ref l) (upd H l (.lst ys)))) := by
  intro pins s σ H xs us Q I r h
  rcases h with h | h
  · exact cr_listT hc pins s σ H xs us Q I r h
  · exact call_list_of pins s σ H xs us Q I r h
end TX
end
section
set_option maxRecDepth 100000
set_option maxHeartbeats 4000000
/-! a drawn order of any values -/
namespace TX
open PySem PySem.Spec PyProof.Rows L2 SX
def spShufV : Sp := fun vs H Q _ => ∃ (p c l : Addr) (m : Nat) (zs : List V), vs = [.ref p, .ref l] ∧ PenAt H p c m ∧ m ≤ 1000000 ∧ H l = some (.lst zs) ∧ zs.length ≤ 26 ∧
  ∀ (r : Addr) (ys : List V) (H' : Hp), ys.Perm zs → H' r = some (.lst ys) → PenAt H' p c (m + zs.length) → But p H H' → H r = none → Q (.ref r) H'
theorem perm_popV {found left zs : List V} (d : Nat) (hd : d < left.length) (h : (found ++ left).Perm zs) : ((found ++ [left[d]]) ++ left.eraseIdx d).Perm zs := by
  refine List.Perm.trans ?_ h
  rw [List.append_assoc]
  refine List.Perm.append_left _ ?_
  have e : left = left.take d ++ left[d] :: left.drop (d + 1) := by
    rw [List.getElem_cons_drop, List.take_append_drop]
  rw [List.eraseIdx_eq_take_drop_succ]
  have z : (left[d] :: (left.take d ++ left.drop (d + 1))).Perm (left.take d ++ left[d] :: left.drop (d + 1)) := (List.perm_middle).symm
  exact z.trans (List.Perm.of_eq e.symm)
section
variable {P : Program} {w : World} {K : PySem.W.Frag} {mg : Str → Option Value} {base : Heap}
theorem ok_shufV (F : D K mg "_law_shuffled" s_law_shuffled []) (cD : C8.Cal P w K mg base 1 "_law_draw" spDraw []) (zl : mg "len" = none) (zi : mg "list" = none) : C8.Cal P w K mg base 2 "_law_shuffled" spShufV [] := by
  refine F.cal (ps := ["_law_pen", "_law_some"]) sc_shuf (fun f fd F => F.bindsN fun _ _ _ _ _ _ us hl => match us, hl with | [_, _], _ => rfl) (fun vs H Q E h => ?_) (fun f cdv A outer s H vs Q E hr h => ?_)
  · obtain ⟨p, c, l, m, zs, rfl, _⟩ := h
    rfl
  · obtain ⟨p, c, l, m, zs, rfl, hp, hm, hl, l26, q⟩ := h
    have hu : (A.deeper (envOfC "_law_shuffled" (defScope s_law_shuffled) s.heap.objs.size f cdv)).units < cLine := by have := hr.un; omega
    refine ⟨_, pss_cons (ps_par (i := 2) (j := 3) (by rfl) sc_shuf.nd rfl rfl (by decide) rfl rfl (pa_cons (pe_callTy call_list_of (by rfl) zi (by decide +kernel) (pa_cons (pv 1) pa_nil)) (pa_cons (pe_lst pa_nil) pa_nil)) (by rfl))
      (pss_cons (ps_while PassesOwn.never (pt_cmpR (op_neNil hu) (pv 2) (pe_lst pa_nil) (nomark _))
        (pss_one (ps_expr (pe_bm PySem.F.plainAttrs_list PySem.F.slot_list_append PySem.F.type_list_append mt_append (pv 3) (pa_cons
          (pe_bm PySem.F.plainAttrs_list PySem.F.slot_list_pop PySem.F.type_list_pop mt_popAt (pv 2) (pa_cons (C8.pe_c cD hr (by decide) (by rfl) (pa_cons (pv 0) (pa_cons (pe_callB call_len_seq (by rfl) zl PySem.boot_len (pa_cons (pv 2) pa_nil)) pa_nil))) pa_nil)) pa_nil)))))
      (pss_one (ps_ret (pv 3)))), ?_⟩
    refine ⟨_, rfl, l, _, rfl, .inl (SqL.of hl), fun lf hlf => ?_⟩
    have h1 : (upd H lf (.lst zs)) lf = some (.lst zs) := upd_same
    have s1 : L2.Same H (upd H lf (.lst zs)) := same_new hlf
    generalize (upd H lf (.lst zs)) = H1 at h1 s1 ⊢
    refine ⟨(by show 0 ≤ sizeLine; exact Nat.zero_le _), fun ff hff => ?_⟩
    have hff0 : H ff = none := L2.Same.free s1 hff
    have h2 : (upd H1 ff (.lst [])) ff = some (.lst []) := upd_same
    have s2 : L2.Same H1 (upd H1 ff (.lst [])) := same_new hff
    have n12 : lf ≠ ff := ne_of_none h1 hff
    generalize (upd H1 ff (.lst [])) = H2 at h2 s2 ⊢
    refine ⟨_, _, rfl, ?_⟩
    obtain ⟨pl0, r0, cs0, hpd, _⟩ := hp.ex
    have nlp : lf ≠ p := fun e => by rw [e, hpd] at hlf; cases hlf
    have nfp : ff ≠ p := fun e => by rw [e, hpd] at hff0; cases hff0
    refine while_by (fun σ G => ∃ left found : List V, σ = [some (.ref p), some (.ref l), some (.ref lf), some (.ref ff)] ∧ G lf = some (.lst left) ∧ G ff = some (.lst found) ∧ (found ++ left).Perm zs ∧ PenAt G p c (m + found.length) ∧ But p H G) lenAt
      ⟨zs, [], rfl, s2 _ _ h1, h2, List.Perm.refl _, (hp.same s1).same s2, But.of (s1.trans s2)⟩ ?_ ?_
    · rintro σ G ⟨left, found, rfl, gl, gf, pm, gp, b⟩
      have plen : found.length + left.length = zs.length := by
        have := pm.length_eq
        rw [List.length_append] at this
        exact this
      refine ⟨_, rfl, (by show 0 ≤ sizeLine; exact Nat.zero_le _), fun e he => ?_⟩
      have s3 : L2.Same G (upd G e (.lst [])) := same_new he
      have ge : (upd G e (.lst [])) e = some (.lst []) := upd_same
      generalize (upd G e (.lst [])) = G1 at s3 ge ⊢
      have gl1 := s3 _ _ gl
      refine ⟨lf, e, left, rfl, rfl, SqL.of gl1, SqL.of ge, _, rfl, ?_⟩
      have b3 : But p H G1 := b.trans (But.of s3)
      have gp3 := gp.same s3
      have gf3 := s3 _ _ gf
      cases left with
      | nil =>
        refine iteF ?_
        have e0 : found.Perm zs := by simpa using pm
        rw [e0.length_eq] at gp3
        exact ⟨_, rfl, q ff found _ e0 gf3 gp3 b3 hff0⟩
      | cons x left =>
        refine iteT ?_
        have l0 : 0 < (x :: left).length := Nat.zero_lt_succ _
        refine ⟨_, rfl, .inl ⟨rfl, _, SqL.of gf3⟩, ?_⟩
        refine ⟨_, rfl, .inl ⟨rfl, _, SqL.of gl1⟩, ?_⟩
        refine ⟨_, rfl, _, rfl, lf, _, rfl, .inl (SqL.of gl1), p, c, m + found.length, (x :: left).length, rfl, gp3, l0, (by omega), (by omega), fun d G2 hd gp4 b4 => ?_⟩
        have gl4 := b4 _ _ nlp gl1
        have gf4 := b4 _ _ nfp gf3
        have ll : ((x :: left).eraseIdx d).length = left.length := by
          rw [List.length_eraseIdx_of_lt hd]
          simp
        refine ⟨lf, _, (d : Int), d, (x :: left)[d], rfl, rfl, gl4, (by omega), (by omega), ?_, List.getElem?_eq_getElem hd, ?_⟩
        · unfold seqIndex?
          have c1 : ¬ ((d : Int) < 0) := by omega
          have c2 : (d : Int) < ((x :: left).length : Int) := by omega
          simp only [if_neg c1]
          rw [decide_eq_true (by omega : (0 : Int) ≤ (d : Int)), decide_eq_true c2]
          rfl
        · refine ⟨ff, found, _, rfl, rfl, ?_, ?_, ?_⟩
          · rw [upd_ne n12.symm]
            exact gf4
          · exact len_lt (by omega)
          · have g6 : (upd (upd G2 lf (.lst ((x :: left).eraseIdx d))) ff (.lst (found ++ [(x :: left)[d]]))) lf = some (.lst ((x :: left).eraseIdx d)) := by
              rw [upd_ne n12]
              exact upd_same
            have gp5 : PenAt G2 p c (m + (found ++ [(x :: left)[d]]).length) := by
              rw [List.length_append]
              exact gp4
            have b5 : But p H (upd (upd G2 lf (.lst ((x :: left).eraseIdx d))) ff (.lst (found ++ [(x :: left)[d]]))) := ((b3.trans b4).fresh hlf).fresh hff0
            refine ⟨⟨(x :: left).eraseIdx d, found ++ [(x :: left)[d]], rfl, g6, upd_same, perm_popV d hd pm, (gp5.fresh hp hlf).fresh hp hff0, b5⟩, ?_⟩
            have m1 : lenAt [some (.ref p), some (.ref l), some (.ref lf), some (.ref ff)] (upd (upd G2 lf (.lst ((x :: left).eraseIdx d))) ff (.lst (found ++ [(x :: left)[d]]))) = left.length := by
              unfold lenAt
              simp only [List.getElem?_cons_succ, List.getElem?_cons_zero]
              rw [g6]
              exact ll
            have m2 : lenAt [some (.ref p), some (.ref l), some (.ref lf), some (.ref ff)] G = left.length + 1 := by
              unfold lenAt
              simp only [List.getElem?_cons_succ, List.getElem?_cons_zero]
              rw [gl]
              rfl
            rw [m2]
            exact Nat.lt_of_le_of_lt (Nat.le_of_eq m1) (Nat.lt_succ_self _)
    · rintro σ G Q1 Q2 hq ⟨v, hv, hl, h⟩
      refine ⟨v, hv, hl, fun e he => ?_⟩
      obtain ⟨d1, d2, x1, x2, x3, x4, x5, k, x6, x7⟩ := h e he
      exact ⟨d1, d2, x1, x2, x3, x4, x5, k, x6, hq _ _ x7⟩
end
end TX
end
section
set_option maxRecDepth 100000
set_option maxHeartbeats 8000000
/-! ways that are begun -/
namespace TX
open PySem PySem.Spec PyProof.Rows L2 SX CW
def spBegun : Sp := fun vs H Q _ => ∃ (p c t : Addr) (m n z : Nat) (ks : List Nat) (X : Nat → Nat → Bool), vs = [.ref p, .ref t, .int n, .int z] ∧ PenAt H p c m ∧ m ≤ 800000 ∧ n ≤ 200 ∧ z ≤ 200 ∧ TabAt H t ks X ∧
  ∀ (v : List Nat) (H' : Hp), v.length ≤ n + z → (∀ k ∈ v, k ∈ ks) → PenAt H' p c (m + 101) → But p H H' → Q (.str (S v)) H'
section
variable {P : Program} {w : World} {K : PySem.W.Frag} {mg : Str → Option Value} {base : Heap}
end
end TX
end
section
set_option maxRecDepth 100000
set_option maxHeartbeats 8000000
/-! vectors that are not below nought -/
namespace TX
open PySem PySem.Spec PyProof.Rows L2 SX CW
def spPos : Sp := fun vs H Q _ => ∃ (a : Addr) (ks : List Nat) (v : Vec), vs = [.ref a] ∧ H a = some (.tup (tupV ks v)) ∧ 0 < ks.length ∧ ks.length ≤ 8 ∧ ∀ (t : Addr) (H' : Hp), H' t = some (.tup (tupV ks (posV ks v))) → L2.Same H H' → Q (.ref t) H'
section
variable {P : Program} {w : World} {K : PySem.W.Frag} {mg : Str → Option Value} {base : Heap}
end
end TX
end
section
set_option maxRecDepth 100000
set_option maxHeartbeats 8000000
/-! ways that are begun; vectors that are not below nought; ways along a wall -/
namespace TX
open PySem PySem.Spec PyProof.Rows L2 SX CW
def spBeside : Sp := fun vs H Q _ => ∃ (p c t : Addr) (m : Nat) (ks : List Nat) (X : Nat → Nat → Bool) (d : Nat), vs = [.ref p, .ref t, .str (S [d])] ∧ PenAt H p c m ∧ m ≤ 800000 ∧ TabAt H t ks X ∧ d ∈ ks ∧
  ∀ (v : List Nat) (H' : Hp), v.length ≤ 4 → (∀ k ∈ v, k ∈ acr ks X d) → PenAt H' p c (m + 5) → But p H H' → Q (.str (S v)) H'
section
variable {P : Program} {w : World} {K : PySem.W.Frag} {mg : Str → Option Value} {base : Heap}
def spPickS : Sp := fun vs H Q _ => ∃ (p c : Addr) (m : Nat) (l : List Nat), vs = [.ref p, .str (S l)] ∧ PenAt H p c m ∧ m ≤ 100000000 ∧ 0 < l.length ∧ l.length ≤ 100000 ∧
  ∀ (k : Nat) (H' : Hp), k ∈ l → PenAt H' p c (m + 1) → But p H H' → Q (.str (S [k])) H'
theorem ok_pickS (F : D K mg "_law_pick" s_law_pick []) (cD : C8.Cal P w K mg base 1 "_law_draw" spDraw []) (zl : mg "len" = none) : C8.Cal P w K mg base 2 "_law_pick" spPickS [] := by
  refine F.cal (ps := ["_law_pen", "_law_some"]) sc_pick (fun f fd F => F.bindsN fun _ _ _ _ _ _ us hl => match us, hl with | [_, _], _ => rfl) (fun vs H Q E h => ?_) (fun f cdv A outer s H vs Q E hr h => ?_)
  · obtain ⟨p, c, m, l, rfl, _⟩ := h
    rfl
  · obtain ⟨p, c, m, l, rfl, hp, hm, l0, l1, q⟩ := h
    refine ⟨_, pss_one (ps_ret (pe_ix ix_str (pv 1) (C8.pe_c cD hr (by decide) (by rfl) (pa_cons (pv 0) (pa_cons (pe_callB call_len_str (by rfl) zl PySem.boot_len (pa_cons (pv 1) pa_nil)) pa_nil))) (fun _ _ => rfl))), ?_⟩
    have lS : (S l).length ≤ sizeLine := by rw [S_len]; exact len_line (by omega)
    refine ⟨_, rfl, _, rfl, _, rfl, _, rfl, lS, ?_⟩
    rw [S_len]
    refine ⟨p, c, m, l.length, rfl, hp, l0, by omega, hm, fun d H' hd hp' hb => ?_⟩
    have he : l[d]? = some l[d] := List.getElem?_eq_getElem hd
    exact ⟨_, _, l[d], rfl, rfl, lS, atI_nat he, q _ H' (List.mem_of_getElem? he) hp' hb⟩
abbrev nBeside : List Str := ["_law_pen", "_law_table", "_law_door", "_law_k"]
end
end TX
end
section
set_option maxRecDepth 100000
set_option maxHeartbeats 4000000
/-! the pen begun; picks; a drawn order -/
namespace TX
open PySem PySem.Spec PyProof.Rows L2 SX
theorem merge_pen27 (l : Addr) : mergeK [] (pkv l 0 0) = pkv l 0 0 := merge_pen l
theorem sc_begin : FnScope ["_law_script"] ["_law_script"] (defScope s_law_begin) := ⟨rfl, rfl, rfl, by decide +kernel, rfl, by decide +kernel, by decide +kernel⟩
def spShufO : Sp := fun vs H Q _ => ∃ (p c : Addr) (x : V) (m : Nat) (zs : List V), vs = [.ref p, x] ∧ PenAt H p c m ∧ m ≤ 1000000 ∧ ((∃ l : List Nat, x = .str (S l) ∧ zs = ones l) ∨ ∃ l : Addr, x = .ref l ∧ H l = some (.lst zs)) ∧ zs.length ≤ 100 ∧
  ∀ (r : Addr) (ys : List V) (H' : Hp), ys.Perm zs → H' r = some (.lst ys) → PenAt H' p c (m + zs.length) → But p H H' → H r = none → Q (.ref r) H'
section
variable {P : Program} {w : World} {K : PySem.W.Frag} {mg : Str → Option Value} {base : Heap}
theorem ok_begin (F : D K mg "_law_begin" s_law_begin []) (zl : mg "list" = none) : C8.Cal P w K mg base 1 "_law_begin" (spPen K) [] := by
  refine F.cal (ps := ["_law_script"]) sc_begin (fun f fd F => F.bindsN fun _ _ _ _ _ _ us hl => match us, hl with | [_], _ => rfl) (fun vs H Q E h => ?_) (fun f cdv A outer s H vs Q E hr h => ?_)
  · obtain ⟨s, ns, rfl, _⟩ := h
    rfl
  · obtain ⟨sa, ns, rfl, hs, q⟩ := h
    refine ⟨_, pss_one (ps_ret (pe_disp (pps_cons pe_str (pe_callTy call_list_of (by rfl) zl (by decide +kernel) (pa_cons (pe_slice sl_list (pv 0) po_none (po_some pe_int)) pa_nil)) (pps_cons pe_str pe_int (pps_cons pe_str pe_int pps_nil))) (by rfl) (by rfl) (fun z => by cases z) (by decide))), ?_⟩
    intro p hp
    have hs1 : SqL K (upd H p (.dK [])) sa (ns.map V.int) := (same_new hp).seq hs
    have gp : (upd H p (.dK [])) p = some (.dK []) := upd_same
    have s1 : L2.Same H (upd H p (.dK [])) := same_new hp
    generalize (upd H p (.dK [])) = H1 at hs1 gp s1 ⊢
    obtain ⟨cs, ec, lc⟩ := cut_ints ns
    refine ⟨_, rfl, _, rfl, sa, _, rfl, hs1, fun a ha => ?_⟩
    rw [ec]
    have s2 : L2.Same H1 (upd H1 a (.lst (cs.map V.int))) := same_new ha
    have ga : (upd H1 a (.lst (cs.map V.int))) a = some (.lst (cs.map V.int)) := upd_same
    generalize (upd H1 a (.lst (cs.map V.int))) = H2 at s2 ga ⊢
    refine ⟨a, _, rfl, .inl (SqL.of ga), fun l hl => ?_⟩
    have s3 : L2.Same H2 (upd H2 l (.lst (cs.map V.int))) := same_new hl
    have gl : (upd H2 l (.lst (cs.map V.int))) l = some (.lst (cs.map V.int)) := upd_same
    generalize (upd H2 l (.lst (cs.map V.int))) = H3 at s3 gl ⊢
    have gp3 := s3 _ _ (s2 _ _ gp)
    have nlp : l ≠ p := ne_of gl gp3 (by intro z; cases z)
    refine ⟨gp3, pkv l 0 0, rfl, (by show 3 ≤ 15; decide), ?_⟩
    rw [merge_pen]
    refine q p l _ ⟨0, 0, cs, upd_same, by rw [upd_ne nlp]; exact gl, Nat.le_refl _, by omega, lc⟩ fun b o e => ?_
    rw [upd_ne (ne_of_none e hp)]
    exact s3 _ _ (s2 _ _ (s1 _ _ e))
theorem ok_shufO (F : D K mg "_law_shuffled" s_law_shuffled []) (cD : C8.Cal P w K mg base 1 "_law_draw" spDraw []) (zl : mg "len" = none) (zi : mg "list" = none) : C8.Cal P w K mg base 2 "_law_shuffled" spShufO [] := by
  refine F.cal (ps := ["_law_pen", "_law_some"]) sc_shuf (fun f fd F => F.bindsN fun _ _ _ _ _ _ us hl => match us, hl with | [_, _], _ => rfl) (fun vs H Q E h => ?_) (fun f cdv A outer s H vs Q E hr h => ?_)
  · obtain ⟨p, c, x, m, zs, rfl, _⟩ := h
    rfl
  · obtain ⟨p, c, x0, m, zs, rfl, hp, hm, hx, l26, q⟩ := h
    have hu : (A.deeper (envOfC "_law_shuffled" (defScope s_law_shuffled) s.heap.objs.size f cdv)).units < cLine := by have := hr.un; omega
    refine ⟨_, pss_cons (ps_par (i := 2) (j := 3) (by rfl) sc_shuf.nd rfl rfl (by decide) rfl rfl (pa_cons (pe_callTy (cr_listO rfl) (by rfl) zi (by decide +kernel) (pa_cons (pv 1) pa_nil)) (pa_cons (pe_lst pa_nil) pa_nil)) (by rfl))
      (pss_cons (ps_while PassesOwn.never (pt_cmpR (op_neNil hu) (pv 2) (pe_lst pa_nil) (nomark _))
        (pss_one (ps_expr (pe_bm PySem.F.plainAttrs_list PySem.F.slot_list_append PySem.F.type_list_append mt_append (pv 3) (pa_cons
          (pe_bm PySem.F.plainAttrs_list PySem.F.slot_list_pop PySem.F.type_list_pop mt_popAt (pv 2) (pa_cons (C8.pe_c cD hr (by decide) (by rfl) (pa_cons (pv 0) (pa_cons (pe_callB call_len_seq (by rfl) zl PySem.boot_len (pa_cons (pv 2) pa_nil)) pa_nil))) pa_nil)) pa_nil)))))
      (pss_one (ps_ret (pv 3)))), ?_⟩
    have start : ∀ R : VK, (∀ lf, H lf = none → R (.ref lf) (upd H lf (.lst zs))) → (rListT [x0] H R ∨ ∃ p ys, [x0] = [V.ref p] ∧ (SqL K H p ys ∨ SqT K H p ys) ∧ ∀ l, H l = none → R (.ref l) (upd H l (.lst ys))) := fun R hR => by
      rcases hx with ⟨l, rfl, rfl⟩ | ⟨l, rfl, hl⟩
      · exact .inl ⟨l, rfl, by unfold ones at l26; rw [List.length_map] at l26; omega, hR⟩
      · exact .inr ⟨l, zs, rfl, .inl (SqL.of hl), hR⟩
    refine ⟨_, rfl, start _ fun lf hlf => ?_⟩
    have h1 : (upd H lf (.lst zs)) lf = some (.lst zs) := upd_same
    have s1 : L2.Same H (upd H lf (.lst zs)) := same_new hlf
    generalize (upd H lf (.lst zs)) = H1 at h1 s1 ⊢
    refine ⟨(by show 0 ≤ sizeLine; exact Nat.zero_le _), fun ff hff => ?_⟩
    have hff0 : H ff = none := L2.Same.free s1 hff
    have h2 : (upd H1 ff (.lst [])) ff = some (.lst []) := upd_same
    have s2 : L2.Same H1 (upd H1 ff (.lst [])) := same_new hff
    have n12 : lf ≠ ff := ne_of_none h1 hff
    generalize (upd H1 ff (.lst [])) = H2 at h2 s2 ⊢
    refine ⟨_, _, rfl, ?_⟩
    obtain ⟨pl0, r0, cs0, hpd, _⟩ := hp.ex
    have nlp : lf ≠ p := fun e => by rw [e, hpd] at hlf; cases hlf
    have nfp : ff ≠ p := fun e => by rw [e, hpd] at hff0; cases hff0
    refine while_by (fun σ G => ∃ left found : List V, σ = [some (.ref p), some x0, some (.ref lf), some (.ref ff)] ∧ G lf = some (.lst left) ∧ G ff = some (.lst found) ∧ (found ++ left).Perm zs ∧ PenAt G p c (m + found.length) ∧ But p H G) lenAt
      ⟨zs, [], rfl, s2 _ _ h1, h2, List.Perm.refl _, (hp.same s1).same s2, But.of (s1.trans s2)⟩ ?_ ?_
    · rintro σ G ⟨left, found, rfl, gl, gf, pm, gp, b⟩
      have plen : found.length + left.length = zs.length := by
        have := pm.length_eq
        rw [List.length_append] at this
        exact this
      refine ⟨_, rfl, (by show 0 ≤ sizeLine; exact Nat.zero_le _), fun e he => ?_⟩
      have s3 : L2.Same G (upd G e (.lst [])) := same_new he
      have ge : (upd G e (.lst [])) e = some (.lst []) := upd_same
      generalize (upd G e (.lst [])) = G1 at s3 ge ⊢
      have gl1 := s3 _ _ gl
      refine ⟨lf, e, left, rfl, rfl, SqL.of gl1, SqL.of ge, _, rfl, ?_⟩
      have b3 : But p H G1 := b.trans (But.of s3)
      have gp3 := gp.same s3
      have gf3 := s3 _ _ gf
      cases left with
      | nil =>
        refine iteF ?_
        have e0 : found.Perm zs := by simpa using pm
        rw [e0.length_eq] at gp3
        exact ⟨_, rfl, q ff found _ e0 gf3 gp3 b3 hff0⟩
      | cons x left =>
        refine iteT ?_
        have l0 : 0 < (x :: left).length := Nat.zero_lt_succ _
        refine ⟨_, rfl, .inl ⟨rfl, _, SqL.of gf3⟩, ?_⟩
        refine ⟨_, rfl, .inl ⟨rfl, _, SqL.of gl1⟩, ?_⟩
        refine ⟨_, rfl, _, rfl, lf, _, rfl, .inl (SqL.of gl1), p, c, m + found.length, (x :: left).length, rfl, gp3, l0, (by omega), (by omega), fun d G2 hd gp4 b4 => ?_⟩
        have gl4 := b4 _ _ nlp gl1
        have gf4 := b4 _ _ nfp gf3
        have ll : ((x :: left).eraseIdx d).length = left.length := by
          rw [List.length_eraseIdx_of_lt hd]
          simp
        refine ⟨lf, _, (d : Int), d, (x :: left)[d], rfl, rfl, gl4, (by omega), (by omega), ?_, List.getElem?_eq_getElem hd, ?_⟩
        · unfold seqIndex?
          have c1 : ¬ ((d : Int) < 0) := by omega
          have c2 : (d : Int) < ((x :: left).length : Int) := by omega
          simp only [if_neg c1]
          rw [decide_eq_true (by omega : (0 : Int) ≤ (d : Int)), decide_eq_true c2]
          rfl
        · refine ⟨ff, found, _, rfl, rfl, ?_, ?_, ?_⟩
          · rw [upd_ne n12.symm]
            exact gf4
          · exact len_lt (by omega)
          · have g6 : (upd (upd G2 lf (.lst ((x :: left).eraseIdx d))) ff (.lst (found ++ [(x :: left)[d]]))) lf = some (.lst ((x :: left).eraseIdx d)) := by
              rw [upd_ne n12]
              exact upd_same
            have gp5 : PenAt G2 p c (m + (found ++ [(x :: left)[d]]).length) := by
              rw [List.length_append]
              exact gp4
            have b5 : But p H (upd (upd G2 lf (.lst ((x :: left).eraseIdx d))) ff (.lst (found ++ [(x :: left)[d]]))) := ((b3.trans b4).fresh hlf).fresh hff0
            refine ⟨⟨(x :: left).eraseIdx d, found ++ [(x :: left)[d]], rfl, g6, upd_same, perm_popV d hd pm, (gp5.fresh hp hlf).fresh hp hff0, b5⟩, ?_⟩
            have m1 : lenAt [some (.ref p), some x0, some (.ref lf), some (.ref ff)] (upd (upd G2 lf (.lst ((x :: left).eraseIdx d))) ff (.lst (found ++ [(x :: left)[d]]))) = left.length := by
              unfold lenAt
              simp only [List.getElem?_cons_succ, List.getElem?_cons_zero]
              rw [g6]
              exact ll
            have m2 : lenAt [some (.ref p), some x0, some (.ref lf), some (.ref ff)] G = left.length + 1 := by
              unfold lenAt
              simp only [List.getElem?_cons_succ, List.getElem?_cons_zero]
              rw [gl]
              rfl
            rw [m2]
            exact Nat.lt_of_le_of_lt (Nat.le_of_eq m1) (Nat.lt_succ_self _)
    · rintro σ G Q1 Q2 hq ⟨v, hv, hl, h⟩
      refine ⟨v, hv, hl, fun e he => ?_⟩
      obtain ⟨d1, d2, x1, x2, x3, x4, x5, k, x6, x7⟩ := h e he
      exact ⟨d1, d2, x1, x2, x3, x4, x5, k, x6, hq _ _ x7⟩
end
end TX
end
section
set_option maxRecDepth 100000
set_option maxHeartbeats 8000000
/-! a drawn floor: its kinds, ascending; for each of them those that cross it, in any order -/
namespace TX
open PySem PySem.Spec PyProof.Rows L2 SX CW
def fkv (ks : List Nat) (cd : Addr) : List (Key × V) := [(Sum.inr "kinds", .str (S ks)), (Sum.inr "cross", .ref cd)]
structure FlAt (H : Hp) (fl : Addr) (ks : List Nat) (X : Nat → Nat → Bool) : Prop where
  up : ks.Pairwise (· < ·)
  abc : ∀ k ∈ ks, 97 ≤ k ∧ k ≤ 122
  l8 : ks.length ≤ 8
  cr : Crossing X
  ex : ∃ (cd : Addr) (f : Nat → List Nat), H fl = some (.dK (fkv ks cd)) ∧ H cd = some (.dK (kvK ks f)) ∧ ∀ a ∈ ks, (f a).Nodup ∧ ∀ b, b ∈ f a ↔ b ∈ ks ∧ X a b = true
theorem FlAt.same {H H' : Hp} {fl : Addr} {ks : List Nat} {X : Nat → Nat → Bool} (h : FlAt H fl ks X) (s : L2.Same H H') : FlAt H' fl ks X := by
  obtain ⟨cd, f, h1, h2, h3⟩ := h.ex
  exact ⟨h.up, h.abc, h.l8, h.cr, cd, f, s _ _ h1, s _ _ h2, h3⟩
theorem kcells (ks : List Nat) (f : Nat → List Nat) (c : Addr) (pl r : Int) : (.dK (kvK ks f) : HO) ≠ .dK (pkv c pl r) := by
  cases ks with
  | nil => intro e; exact absurd (HO.dK.inj e) (by intro z; cases z)
  | cons k ks => exact kv_ne (by simp) c pl r
theorem fkv_ne (ks : List Nat) (cd c : Addr) (pl r : Int) : (.dK (fkv ks cd) : HO) ≠ .dK (pkv c pl r) := fun e => by
  have e2 := congrArg List.length (HO.dK.inj e)
  exact absurd e2 (by unfold fkv pkv; simp)
theorem FlAt.pen {H H' : Hp} {fl p c : Addr} {m : Nat} {ks : List Nat} {X : Nat → Nat → Bool} (h : FlAt H fl ks X) (hp : PenAt H p c m) (b : But p H H') : FlAt H' fl ks X := by
  obtain ⟨cd, f, h1, h2, h3⟩ := h.ex
  exact ⟨h.up, h.abc, h.l8, h.cr, cd, f, b _ _ (pen_ne hp h1 (fkv_ne _ _)) h1, b _ _ (pen_ne hp h2 (kcells _ _)) h2, h3⟩
theorem fk_kinds (ks : List Nat) (cd : Addr) : valV (fkv ks cd) (Sum.inr "kinds") = some (.str (S ks)) := by
  unfold fkv
  rw [valV_cons, if_pos rfl]
theorem fk_ne : ¬ ((Sum.inr ("kinds" : Str) : Key) = Sum.inr ("cross" : Str)) := by decide +kernel
theorem fk_cross (ks : List Nat) (cd : Addr) : valV (fkv ks cd) (Sum.inr "cross") = some (.ref cd) := by
  unfold fkv
  rw [valV_cons, if_neg fk_ne, valV_cons, if_pos rfl]
theorem get_fk {G : Hp} {fl cd : Addr} {ks : List Nat} (h : G fl = some (.dK (fkv ks cd))) : DGet G fl (.str "kinds") (some (.str (S ks))) := by
  have z := DGet.k (k := Sum.inr "kinds") h
  rw [fk_kinds] at z
  exact z
theorem get_fc {G : Hp} {fl cd : Addr} {ks : List Nat} (h : G fl = some (.dK (fkv ks cd))) : DGet G fl (.str "cross") (some (.ref cd)) := by
  have z := DGet.k (k := Sum.inr "cross") h
  rw [fk_cross] at z
  exact z
/-! ### the pairs so far -/
structure FN (ks : List Nat) (i j : Nat) (f : Nat → List Nat) : Prop where
  nd : ∀ a, (f a).Nodup
  sub : ∀ a b, b ∈ f a → ∃ p q, ks[p]? = some a ∧ ks[q]? = some b ∧ p ≠ q ∧ (max p q < i ∨ (max p q = i ∧ min p q < j))
  sym : ∀ a b, b ∈ f a → a ∈ f b
theorem FN.zero (ks : List Nat) : FN ks 0 0 (fun _ => []) := ⟨fun _ => List.nodup_nil, (fun a b h => by cases h), (fun a b h => by cases h)⟩
theorem FN.no {ks : List Nat} {i j : Nat} {f : Nat → List Nat} (h : FN ks i j f) : FN ks i (j + 1) f := ⟨h.nd, fun a b hb => by
  obtain ⟨p, q, h1, h2, h3, h4⟩ := h.sub a b hb
  exact ⟨p, q, h1, h2, h3, by omega⟩, h.sym⟩
theorem FN.row {ks : List Nat} {i : Nat} {f : Nat → List Nat} (h : FN ks i i f) : FN ks (i + 1) 0 f := ⟨h.nd, fun a b hb => by
  obtain ⟨p, q, h1, h2, h3, h4⟩ := h.sub a b hb
  exact ⟨p, q, h1, h2, h3, by omega⟩, h.sym⟩
def addF (f : Nat → List Nat) (a b : Nat) : Nat → List Nat := fun k => if k = b then f b ++ [a] else if k = a then f a ++ [b] else f k
theorem FN.add {ks : List Nat} (nd : ks.Nodup) {i j a b : Nat} {f : Nat → List Nat} (h : FN ks i j f) (hij : j < i) (ha : ks[i]? = some a) (hb : ks[j]? = some b) : FN ks i (j + 1) (addF f a b) := by
  have nab : a ≠ b := fun e => by
    subst e
    have := idx_inj nd ha hb
    omega
  have out : b ∉ f a := fun hm => by
    obtain ⟨p, q, h1, h2, h3, h4⟩ := h.sub a b hm
    have e1 := idx_inj nd h1 ha
    have e2 := idx_inj nd h2 hb
    omega
  have out2 : a ∉ f b := fun hm => out (h.sym _ _ hm)
  have snoc : ∀ (l : List Nat) (x : Nat), l.Nodup → x ∉ l → (l ++ [x]).Nodup := fun l x n o => List.nodup_append.mpr ⟨n, by simp, fun y hy z hz e => o (by rw [List.mem_singleton.mp hz] at e; rw [← e]; exact hy)⟩
  have key : ∀ k x, x ∈ addF f a b k ↔ x ∈ f k ∨ (k = b ∧ x = a) ∨ (k = a ∧ x = b) := fun k x => by
    unfold addF
    by_cases c : k = b
    · subst c
      rw [if_pos rfl, List.mem_append, List.mem_singleton]
      constructor
      · rintro (z | z)
        · exact .inl z
        · exact .inr (.inl ⟨rfl, z⟩)
      · rintro (z | ⟨_, z⟩ | ⟨z, _⟩)
        · exact .inl z
        · exact .inr z
        · exact absurd z.symm nab
    · rw [if_neg c]
      by_cases c2 : k = a
      · subst c2
        rw [if_pos rfl, List.mem_append, List.mem_singleton]
        constructor
        · rintro (z | z)
          · exact .inl z
          · exact .inr (.inr ⟨rfl, z⟩)
        · rintro (z | ⟨z, _⟩ | ⟨_, z⟩)
          · exact .inl z
          · exact absurd z c
          · exact .inr z
      · rw [if_neg c2]
        constructor
        · exact .inl
        · rintro (z | ⟨z, _⟩ | ⟨z, _⟩)
          · exact z
          · exact absurd z c
          · exact absurd z c2
  refine ⟨fun k => ?_, fun k x hx => ?_, fun k x hx => ?_⟩
  · unfold addF
    by_cases c : k = b
    · rw [if_pos c]; exact snoc _ _ (h.nd _) out2
    · rw [if_neg c]
      by_cases c2 : k = a
      · rw [if_pos c2]; exact snoc _ _ (h.nd _) out
      · rw [if_neg c2]; exact h.nd _
  · rcases (key k x).mp hx with z | ⟨rfl, rfl⟩ | ⟨rfl, rfl⟩
    · obtain ⟨p, q, h1, h2, h3, h4⟩ := h.sub k x z
      exact ⟨p, q, h1, h2, h3, by omega⟩
    · exact ⟨j, i, hb, ha, by omega, by omega⟩
    · exact ⟨i, j, ha, hb, by omega, by omega⟩
  · rw [key]
    rcases (key k x).mp hx with z | ⟨z1, z2⟩ | ⟨z1, z2⟩
    · exact .inl (h.sym _ _ z)
    · exact .inr (.inr ⟨z2, z1⟩)
    · exact .inr (.inl ⟨z2, z1⟩)
theorem FN.len {ks : List Nat} {i j : Nat} {f : Nat → List Nat} (h : FN ks i j f) (a : Nat) : (f a).length ≤ ks.length := nodup_sub (h.nd a) fun b hb => by
  obtain ⟨p, q, h1, h2, h3, h4⟩ := h.sub a b hb
  exact List.mem_of_getElem? h2
def fX (f : Nat → List Nat) : Nat → Nat → Bool := fun a b => decide (b ∈ f a)
theorem FN.cross {ks : List Nat} (nd : ks.Nodup) {i j : Nat} {f : Nat → List Nat} (h : FN ks i j f) : Crossing (fX f) := ⟨fun a b => by
  unfold fX
  rw [decide_eq_decide]
  exact ⟨h.sym _ _, h.sym _ _⟩, fun a => by
  unfold fX
  rw [decide_eq_false_iff_not]
  intro hm
  obtain ⟨p, q, h1, h2, h3, _⟩ := h.sub a a hm
  exact h3 (idx_inj nd h1 h2)⟩
theorem FN.mem {ks : List Nat} {i j : Nat} {f : Nat → List Nat} (h : FN ks i j f) : ∀ a ∈ ks, (f a).Nodup ∧ ∀ b, b ∈ f a ↔ b ∈ ks ∧ fX f a b = true := fun a _ => ⟨h.nd a, fun b => by
  unfold fX
  rw [decide_eq_true_iff]
  refine ⟨fun hb => ⟨?_, hb⟩, fun hb => hb.2⟩
  obtain ⟨p, q, h1, h2, h3, h4⟩ := h.sub a b hb
  exact List.mem_of_getElem? h2⟩
/-! ### drawn letters -/
def stps : List Nat := [1, 3, 5, 7, 9, 11, 15, 17, 19, 21, 23, 25]
def letL (a s n : Nat) : List Nat := (List.range n).map fun k => 97 + (a + s * k) % 26
theorem let8 : ∀ a < 26, ∀ s ∈ stps, (letL a s 8).Nodup := by decide +kernel
theorem letL_nd {a s n : Nat} (ha : a < 26) (hs : s ∈ stps) (hn : n ≤ 8) : (letL a s n).Nodup := by
  have e : letL a s n = (letL a s 8).take n := by
    unfold letL
    rw [← List.map_take, List.take_range, Nat.min_eq_left hn]
  rw [e]
  exact (let8 a ha s hs).sublist (List.take_sublist _ _)
theorem letL_at {a s n k : Nat} (h : k < n) : (letL a s n)[k]? = some (97 + (a + s * k) % 26) := by
  unfold letL
  rw [List.getElem?_map, List.getElem?_range h]
  rfl
theorem letL_len (a s n : Nat) : (letL a s n).length = n := by unfold letL; rw [List.length_map, List.length_range]
def azN : List Nat := [97, 98, 99, 100, 101, 102, 103, 104, 105, 106, 107, 108, 109, 110, 111, 112, 113, 114, 115, 116, 117, 118, 119, 120, 121, 122]
theorem azN_S : ("abcdefghijklmnopqrstuvwxyz" : Str) = S azN := by decide +kernel
theorem azN_at : ∀ i < 26, azN[i]? = some (97 + i) := by decide +kernel
theorem stp_of {i : Nat} {x : V} (h : (stps.map fun s => V.int ((s : Nat) : Int))[i]? = some x) : ∃ s ∈ stps, x = .int ((s : Nat) : Int) := by
  obtain ⟨s, hs, e⟩ := List.mem_map.mp (List.mem_of_getElem? h)
  exact ⟨s, hs, e.symm⟩
theorem letters_sorted {l : List Nat} {ys : List Str} (nd : l.Nodup) (py : ys.Perm (l.map fun c => S [c])) (so : sortedS ys = true) : ∃ ks : List Nat, ys = ks.map (fun c => S [c]) ∧ ks.Perm l ∧ ks.Pairwise (· < ·) := by
  refine ⟨l.mergeSort, ?_, List.mergeSort_perm l _, ?_⟩
  · have up : (l.mergeSort).Pairwise (· < ·) := by
      have h1 : (l.mergeSort).Pairwise (fun a b => decide (a ≤ b) = true) := List.pairwise_mergeSort (fun a b c h1 h2 => by simp at *; omega) (fun a b => by simp; omega) l
      have h2 : (l.mergeSort).Nodup := (List.mergeSort_perm l _).nodup_iff.mpr nd
      have h3 : (l.mergeSort).Pairwise (fun a b => a ≠ b) := h2
      exact (h1.and h3).imp fun ⟨a, b⟩ => by
        have a := of_decide_eq_true a
        omega
    have ndl : (l.map fun c => S [c]).Nodup := by
      refine List.Pairwise.map _ (fun a b h e => h ?_) nd
      exact (List.cons.inj (S_inj e)).1
    refine sorted_is (fun k => S [k]) (fun k => k) lt_k1 (fun _ _ e => e) py ndl so (fun y hy => ?_) up (fun a => ?_)
    · obtain ⟨c, _, e⟩ := List.mem_map.mp hy
      exact ⟨c, e.symm⟩
    · rw [(List.mergeSort_perm l _).mem_iff, List.mem_map]
      constructor
      · rintro ⟨c, hc, e⟩
        rw [← (List.cons.inj (S_inj e)).1]
        exact hc
      · exact fun hc => ⟨a, hc, rfl⟩
  · have h1 : (l.mergeSort).Pairwise (fun a b => decide (a ≤ b) = true) := List.pairwise_mergeSort (fun a b c h1 h2 => by simp at *; omega) (fun a b => by simp; omega) l
    have h2 : (l.mergeSort).Nodup := (List.mergeSort_perm l _).nodup_iff.mpr nd
    have h3 : (l.mergeSort).Pairwise (fun a b => a ≠ b) := h2
    exact (h1.and h3).imp fun ⟨a, b⟩ => by
      have a := of_decide_eq_true a
      omega
def spIsCr : Sp := fun vs H Q _ => ∃ (p c : Addr) (m wy : Nat) (lo hi mn : Int), vs = [.ref p, .int ((wy : Nat) : Int), .int lo, .int hi, .int mn] ∧ PenAt H p c m ∧ m ≤ 1000000 ∧ wy < 7 ∧ ∀ (b : Bool) (H' : Hp), PenAt H' p c (m + 1) → But p H H' → Q (.bl b) H'
abbrev nIc : List Str := ["_law_pen", "_law_way", "_law_low", "_law_high", "_law_many"]
theorem sc_ic : FnScope nIc ["_law_pen", "_law_way", "_law_low", "_law_high", "_law_many"] (defScope s_law_is_crossing) := ⟨rfl, rfl, rfl, by decide +kernel, rfl, by decide +kernel, by decide +kernel⟩
section
variable {P : Program} {w : World} {K : PySem.W.Frag} {mg : Str → Option Value} {base : Heap}
theorem ok_iscr (F : D K mg "_law_is_crossing" s_law_is_crossing []) (cD : C8.Cal P w K mg base 1 "_law_draw" spDraw []) : C8.Cal P w K mg base 2 "_law_is_crossing" spIsCr [] := by
  refine F.cal (ps := ["_law_pen", "_law_way", "_law_low", "_law_high", "_law_many"]) sc_ic (fun f fd F => F.bindsN fun _ _ _ _ _ _ us hl => match us, hl with | [_, _, _, _, _], _ => rfl) (fun vs H Q E h => ?_) (fun f cdv A outer s H vs Q E hr h => ?_)
  · obtain ⟨p, c, m, wy, lo, hi, mn, rfl, _⟩ := h
    rfl
  · obtain ⟨p, c, m, wy, lo, hi, mn, rfl, hp, hm, hw, q⟩ := h
    refine ⟨_, pss_cons (ps_if (pt_cmpR op_lt (pv 1) pe_int (nomark _)) (pss_one (ps_ret (pe_cmpR op_eq (pv 1) pe_int (nomark _)))) pss_nil)
      (pss_cons (ps_if (pt_cmpR op_lt (pv 1) pe_int (nomark _)) (pss_one (ps_ret (pe_or (pe_cmpR op_eq (pe_op op_sub (pv 3) (pv 2)) pe_int (nomark _)) (pe_one (pe_and (pe_cmpR op_gt (pv 4) pe_int (nomark _)) (pe_one (pe_cmpR op_eq (pe_op op_sub (pv 3) (pv 2)) (pe_op op_sub (pv 4) pe_int) (nomark _)))))))) pss_nil)
      (pss_cons (ps_if (pt_cmpR op_eq (pv 1) pe_int (nomark _)) (pss_one (ps_ret (pe_or (pe_cmpR op_eq (pv 2) pe_int (nomark _)) (pe_one (pe_cmpR op_eq (C8.pe_c cD hr (by decide) (by rfl) (pa_cons (pv 0) (pa_cons pe_int pa_nil))) pe_int (nomark _)))))) pss_nil)
      (pss_one (ps_ret (pe_cmpR op_eq (C8.pe_c cD hr (by decide) (by rfl) (pa_cons (pv 0) (pa_cons (pe_op op_sub (pv 1) pe_int) pa_nil))) pe_int (nomark _)))))), ?_⟩
    have q0 : ∀ b, Q (.bl b) H := fun b => q b H (hp.mono (by omega)) (But.refl _ _)
    refine ⟨_, rfl, _, _, rfl, rfl, _, rfl, ite2 (fun _ => ⟨_, rfl, rfl, q0 _⟩) (fun c1 => ?_)⟩
    refine ⟨_, rfl, _, _, rfl, rfl, _, rfl, ite2 (fun _ => ?_) (fun c2 => ?_)⟩
    · refine ⟨_, rfl, _, rfl, _, _, rfl, rfl, rfl, _, rfl, ite2 (fun _ => q0 _) (fun _ => ?_)⟩
      refine ⟨_, rfl, _, _, rfl, rfl, _, rfl, ite2 (fun _ => ?_) (fun _ => q0 _)⟩
      exact ⟨_, rfl, _, rfl, _, _, rfl, rfl, _, rfl, _, _, rfl, rfl, rfl, q0 _⟩
    refine ⟨_, rfl, rfl, _, rfl, ite2 (fun _ => ?_) (fun c3 => ?_)⟩
    · refine ⟨_, rfl, rfl, _, rfl, ite2 (fun _ => q0 _) (fun _ => ?_)⟩
      exact ⟨_, rfl, p, c, m, 2, rfl, hp, by decide, by decide, by omega, fun d H1 hd gp1 b1 => ⟨rfl, q _ H1 gp1 b1⟩⟩
    have w5 : 5 ≤ wy := by
      have h2 : ¬ ((wy : Int) < 4) := fun z => c2 (decide_eq_true z)
      have h3 : ¬ (wy = 4) := fun z => c3 (by rw [z]; rfl)
      omega
    refine ⟨_, rfl, _, rfl, _, _, rfl, rfl, p, c, m, wy - 3, ?_, hp, by omega, by omega, by omega, fun d H1 hd gp1 b1 => ⟨rfl, q _ H1 gp1 b1⟩⟩
    show [V.ref p, V.int ((wy : Int) - 3)] = _
    rw [show (wy : Int) - 3 = ((wy - 3 : Nat) : Int) from by omega]
end
end TX
end
section
set_option maxRecDepth 100000
set_option maxHeartbeats 16000000
/-! a drawn floor -/
namespace TX
open PySem PySem.Spec PyProof.Rows L2 SX CW
def spFloorN : Sp := fun vs H Q _ => ∃ (p c : Addr) (m n : Nat), vs = [.ref p, .int ((n : Nat) : Int)] ∧ PenAt H p c m ∧ m ≤ 900000 ∧ n ≤ 8 ∧
  ∀ (fl : Addr) (ks : List Nat) (X : Nat → Nat → Bool) (H' : Hp), FlAt H' fl ks X → ks.length ≤ n → PenAt H' p c (m + 50) → But p H H' → Q (.ref fl) H'
abbrev nFl : List Str := ["_law_pen", "_law_upto", "_law_letters", "_law_front", "_law_step", "_law_many", "_law_kinds", "_law_way", "_law_spots", "_law_cross", "_law_kind", "_law_at", "_law_near", "_law_low", "_law_high", "_law_k"]
theorem sc_fl : FnScope nFl ["_law_pen", "_law_upto"] (defScope s_law_drawn_floor) := ⟨rfl, rfl, rfl, by decide +kernel, rfl, by decide +kernel, by decide +kernel⟩
def mnys : List Nat := [0, 1, 2, 2, 3, 3, 3, 4, 4, 4, 5, 5, 5, 6, 7, 8]
theorem mny_of {i : Nat} {x : V} (h : (mnys.map fun s => V.int ((s : Nat) : Int))[i]? = some x) : ∃ s, s ≤ 8 ∧ x = .int ((s : Nat) : Int) := by
  obtain ⟨s, hs, e⟩ := List.mem_map.mp (List.mem_of_getElem? h)
  exact ⟨s, (by decide : ∀ s ∈ mnys, s ≤ 8) s hs, e.symm⟩
theorem merge_fk (ks : List Nat) (cd : Addr) : mergeK [] (fkv ks cd) = fkv ks cd := by
  have k1 := fk_ne
  unfold mergeK fkv
  simp only [List.foldl_cons, List.foldl_nil]
  unfold putK
  simp only [List.any_nil, List.any_cons, List.nil_append, if_false, decide_eq_false k1, Bool.or_false, Bool.or_self, List.cons_append]
  rfl
theorem int_min (a b : Nat) : (if (b : Int) < (a : Int) then (b : Int) else (a : Int)) = ((min a b : Nat) : Int) := by
  split <;> omega
section
variable {P : Program} {w : World} {K : PySem.W.Frag} {mg : Str → Option Value} {base : Heap}
theorem ok_floorN (F : D K mg "_law_drawn_floor" s_law_drawn_floor []) (cD : C8.Cal P w K mg base 1 "_law_draw" spDraw []) (cP : C8.Cal P w K mg base 2 "_law_pick" spPick []) (cS : C8.Cal P w K mg base 2 "_law_shuffled" spShufO []) (cI : C8.Cal P w K mg base 2 "_law_is_crossing" spIsCr [])
    (zr : mg "range" = none) (zn : mg "int" = none) (zm : mg "min" = none) (zx : mg "max" = none) (zo : mg "sorted" = none) (zs : mg "str" = none) (zi : mg "list" = none) : C8.Cal P w K mg base 3 "_law_drawn_floor" spFloorN [] := by
  refine F.cal (ps := ["_law_pen", "_law_upto"]) sc_fl (fun f fd F => F.bindsN fun _ _ _ _ _ _ us hl => match us, hl with | [_, _], _ => rfl) (fun vs H Q E h => ?_) (fun f cdv A outer s H vs Q E hr h => ?_)
  · obtain ⟨p, c, m, n, rfl, _⟩ := h
    rfl
  · obtain ⟨p, c, m, n, rfl, hp, hm, n8, q⟩ := h
    have hu := hu_of hr
    refine ⟨_, pss_cons (ps_asg (pe_tup (pa_cons pe_str (pa_cons (C8.pe_c cD hr (by decide) (by rfl) (pa_cons (pv 0) (pa_cons pe_int pa_nil))) pa_nil))) (pg_tup (by rfl) (pgs_cons (pg_name (i := 2) sc_fl.nd rfl (.inr rfl)) (pgs_cons (pg_name (i := 3) sc_fl.nd rfl (.inr rfl)) pgs_nil))))
      (pss_cons (ps_set (i := 4) sc_fl.nd rfl (.inr rfl) (C8.pe_c cP hr (by decide) (by rfl) (pa_cons (pv 0) (pa_cons (pe_lst (pa_cons pe_int (pa_cons pe_int (pa_cons pe_int (pa_cons pe_int (pa_cons pe_int (pa_cons pe_int (pa_cons pe_int (pa_cons pe_int (pa_cons pe_int (pa_cons pe_int (pa_cons pe_int (pa_cons pe_int pa_nil))))))))))))) pa_nil))))
      (pss_cons (ps_set (i := 5) sc_fl.nd rfl (.inl rfl) (pe_callB (call_min2 rfl) (by rfl) zm (by decide +kernel) (pa_cons (pe_callTy call_int1 (by rfl) zn (by decide +kernel) (pa_cons (pv 1) pa_nil)) (pa_cons (pe_callTy call_int1 (by rfl) zn (by decide +kernel) (pa_cons (C8.pe_c cP hr (by decide) (by rfl) (pa_cons (pv 0) (pa_cons (pe_lst (pa_cons pe_int (pa_cons pe_int (pa_cons pe_int (pa_cons pe_int (pa_cons pe_int (pa_cons pe_int (pa_cons pe_int (pa_cons pe_int (pa_cons pe_int (pa_cons pe_int (pa_cons pe_int (pa_cons pe_int (pa_cons pe_int (pa_cons pe_int (pa_cons pe_int (pa_cons pe_int pa_nil))))))))))))))))) pa_nil))) pa_nil)) pa_nil))))
      (pss_cons (ps_set (i := 6) sc_fl.nd rfl (.inl rfl) (pe_join pe_str (pe_callB (r := rSortedSA K) cr_sortedSA (by rfl) zo (show bootBuiltins "sorted" = some (.builtin "sorted") from by decide +kernel) (pa_cons
        (pe_lc (own := [("_law_k", 15)]) (g := gName 15) rfl sc_fl.nd (pi_range1 rfl zr (pa_cons (pv 5) pa_nil)) (blkOk_by (own := [("_law_k", 15)]) (N := nFl) (sc := defScope s_law_drawn_floor) (by decide +kernel))
          (fun _ _ _ _ _ => pg_name (i := 15) sc_fl.nd rfl (.inl rfl)) (fun _ _ _ _ _ => pts_nil) (fun _ _ _ _ _ => pe_callTy SkE.call_str_str (by rfl) zs (by decide +kernel) (pa_cons (pe_ix ix_str (pv 2) (pe_op op_mod (pe_callTy call_int1 (by rfl) zn (by decide +kernel) (pa_cons (pe_op op_add (pv 3) (pe_op op_mul (pv 4) (pv 15))) pa_nil)) pe_int) (fun _ _ => rfl)) pa_nil))) pa_nil))))
      (pss_cons (ps_par3 (i := 7) (j := 8) (l := 9) (by rfl) sc_fl.nd rfl rfl rfl (by decide) (by decide) (by decide) rfl rfl rfl (pa_cons (C8.pe_c cD hr (by decide) (by rfl) (pa_cons (pv 0) (pa_cons pe_int pa_nil))) (pa_cons (C8.pe_c cS hr (by decide) (by rfl) (pa_cons (pv 0) (pa_cons (pe_listRg rfl (by rfl) zi (prg_1 (by rfl) zr (pv 5))) pa_nil))) (pa_cons pe_dnewK pa_nil))) (by rfl))
      (pss_cons (ps_for PassesOwn.never rfl (pi_str (pv 6)) (pg_name (i := 10) sc_fl.nd rfl (.inl rfl)) (pss_one (ps_dput hu (pv 9) (pv 10) pe_str rfl)))
      (pss_cons (ps_for PassesOwn.never rfl (pi_range1 rfl zr (pa_cons (pv 5) pa_nil)) (pg_name (i := 11) sc_fl.nd rfl (.inl rfl))
        (pss_one (ps_for PassesOwn.never rfl (pi_range1 rfl zr (pa_cons (pv 11) pa_nil)) (pg_name (i := 12) sc_fl.nd rfl (.inl rfl))
          (pss_cons (ps_par (i := 13) (j := 14) (by rfl) sc_fl.nd rfl rfl (by decide) rfl rfl
            (pa_cons (pe_callB (call_min2 rfl) (by rfl) zm (by decide +kernel) (pa_cons (pe_callTy call_int1 (by rfl) zn (by decide +kernel) (pa_cons (pe_ix ix_list (pv 8) (pv 11) (fun _ _ => rfl)) pa_nil)) (pa_cons (pe_callTy call_int1 (by rfl) zn (by decide +kernel) (pa_cons (pe_ix ix_list (pv 8) (pv 12) (fun _ _ => rfl)) pa_nil)) pa_nil)))
            (pa_cons (pe_callB (call_max2 rfl) (by rfl) zx (by decide +kernel) (pa_cons (pe_callTy call_int1 (by rfl) zn (by decide +kernel) (pa_cons (pe_ix ix_list (pv 8) (pv 11) (fun _ _ => rfl)) pa_nil)) (pa_cons (pe_callTy call_int1 (by rfl) zn (by decide +kernel) (pa_cons (pe_ix ix_list (pv 8) (pv 12) (fun _ _ => rfl)) pa_nil)) pa_nil))) pa_nil)) (by rfl))
          (pss_one (ps_if (pt_val (C8.pe_c cI hr (by decide) (by rfl) (pa_cons (pv 0) (pa_cons (pv 7) (pa_cons (pv 13) (pa_cons (pv 14) (pa_cons (pv 5) pa_nil)))))))
            (pss_cons (ps_dput hu (pv 9) (pe_ix ix_str (pv 6) (pv 11) (fun _ _ => rfl)) (pe_op op_add_str (pe_dget hu (pv 9) (pe_ix ix_str (pv 6) (pv 11) (fun _ _ => rfl)) (fun _ _ => rfl)) (pe_ix ix_str (pv 6) (pv 12) (fun _ _ => rfl))) rfl)
            (pss_one (ps_dput hu (pv 9) (pe_ix ix_str (pv 6) (pv 12) (fun _ _ => rfl)) (pe_op op_add_str (pe_dget hu (pv 9) (pe_ix ix_str (pv 6) (pv 12) (fun _ _ => rfl)) (fun _ _ => rfl)) (pe_ix ix_str (pv 6) (pv 11) (fun _ _ => rfl))) rfl))) pss_nil))))))
      (pss_one (ps_ret (pe_disp (pps_cons pe_str (pv 6) (pps_cons pe_str (pv 9) pps_nil)) (by rfl) (by rfl) (fun z => by cases z) (by decide)))))))))), ?_⟩
    have lz : (S azN).length ≤ sizeLine := by rw [S_len]; exact len_line (by decide)
    rw [azN_S]
    refine ⟨_, rfl, p, c, m, 26, rfl, hp, by decide, by decide, by omega, fun fr H1 hfr hp1 b1 => ?_⟩
    refine ⟨(by show 2 ≤ sizeLine; exact len_line (by omega)), fun tq htq => ?_⟩
    have s2 := same_new (o := .tup [V.str (S azN), V.int ((fr : Nat) : Int)]) htq
    refine ⟨tq, _, rfl, SqT.of upd_same, rfl, _, _, rfl, _, _, rfl, rfl, ?_⟩
    generalize (upd H1 tq (.tup [V.str (S azN), V.int ((fr : Nat) : Int)])) = H2 at s2 ⊢
    have hp2 := hp1.same s2
    have bH2 : But p H H2 := b1.trans (But.of s2)
    -- step
    refine ⟨_, rfl, (by show 12 ≤ sizeLine; exact len_line (by omega)), fun l hl => ?_⟩
    have s3 := same_new (o := .lst (stps.map fun s => V.int ((s : Nat) : Int))) hl
    have gl3 : (upd H2 l (.lst (stps.map fun s => V.int ((s : Nat) : Int)))) l = some (.lst (stps.map fun s => V.int ((s : Nat) : Int))) := upd_same
    have hp3 := hp2.same s3
    refine ⟨p, c, l, m + 1, _, rfl, hp3, by omega, gl3, by decide, by decide, fun i x H4 hx hp4 b4 => ?_⟩
    obtain ⟨st, hst, rfl⟩ := stp_of hx
    have bH4 : But p H H4 := (bH2.trans (But.of s3)).trans b4
    clear hx hp3 gl3 s3 hl hp2 s2 htq bH2 b4
    -- many
    refine ⟨_, rfl, .inl ⟨_, rfl, ?_⟩⟩
    refine ⟨_, rfl, (by show 16 ≤ sizeLine; exact len_line (by omega)), fun l hl => ?_⟩
    have s3 := same_new (o := .lst (mnys.map fun s => V.int ((s : Nat) : Int))) hl
    have gl3 : (upd H4 l (.lst (mnys.map fun s => V.int ((s : Nat) : Int)))) l = some (.lst (mnys.map fun s => V.int ((s : Nat) : Int))) := upd_same
    have hp3 := hp4.same s3
    refine ⟨p, c, l, m + 1 + 1, _, rfl, hp3, by omega, gl3, by decide, by decide, fun i x H5 hx hp5 b5 => ?_⟩
    obtain ⟨mv, hmv, rfl⟩ := mny_of hx
    have bH5 : But p H H5 := (bH4.trans (But.of s3)).trans b5
    clear hx hp3 gl3 s3 hl hp4 bH4 b5
    refine .inl ⟨_, rfl, _, _, rfl, ?_⟩
    rw [int_min n mv]
    have mn8 : min n mv ≤ 8 := by omega
    have mnn : min n mv ≤ n := Nat.min_le_left _ _
    generalize min n mv = mn at mn8 mnn ⊢
    -- kinds
    have stp25 : st ≤ 25 := (by decide : ∀ s ∈ stps, s ≤ 25) st hst
    refine ⟨⟨_, rfl⟩, _, rfl, _, rfl, by omega, by omega, fun D hD => ?_⟩
    have en : ((mn : Nat) : Int).toNat = mn := by omega
    refine lc_it walk_range (fun k G' => G' D = some (.lst (ones ((letL fr st mn).take k))) ∧ L2.Same H5 G') ⟨upd_same, same_new hD⟩ (fun _ _ _ _ => trivial) ?_ ?_
    · rintro k x G3 G4 hk ⟨gD, sm⟩ ⟨rfl, rfl⟩
      rw [en] at hk
      have ix : atI azN (((fr : Nat) : Int) + ((st : Nat) : Int) * (0 + (k : Int)) - 26 * ((((fr : Nat) : Int) + ((st : Nat) : Int) * (0 + (k : Int))) / 26)) = some (97 + (fr + st * k) % 26) := by
        rw [show ((fr : Nat) : Int) + ((st : Nat) : Int) * (0 + (k : Int)) - 26 * ((((fr : Nat) : Int) + ((st : Nat) : Int) * (0 + (k : Int))) / 26) = (((fr + st * k) % 26 : Nat) : Int) from by
          rw [Int.zero_add, ← Int.natCast_mul]
          omega]
        exact atI_nat (azN_at _ (Nat.mod_lt _ (by decide)))
      have ix2 : atI azN ((((fr : Nat) : Int) + ((st : Nat) : Int) * (0 + (k : Int))) % 26) = some (97 + (fr + st * k) % 26) := by
        rw [Int.emod_def]
        exact ix
      refine ⟨rfl, _, rfl, _, rfl, _, rfl, _, rfl, _, _, rfl, rfl, .inl ⟨by omega, by omega⟩, _, _, rfl, rfl, .inl ⟨_, rfl, _, _, rfl, rfl, (by decide : (0 : Int) < 26), ?_⟩⟩
      refine ⟨_, _, _, rfl, rfl, lz, ix2, _, rfl, _, gD, by rw [ones_len', List.length_take]; exact len_lt (by omega), ?_, fun b o e => by rw [upd_ne (ne_of_none e hD)]; exact sm _ _ e⟩
      rw [upd_same, take_one (letL_at (a := fr) (s := st) hk)]
      unfold ones
      rw [List.map_append]
      rfl
    rintro G3 ⟨gD, sm3⟩
    have ll := letL_len fr st mn
    rw [en, show (letL fr st mn).take mn = letL fr st mn from List.take_of_length_le (by omega)] at gD
    refine ⟨D, (letL fr st mn).map (fun c => S [c]), rfl, ones_sq gD, by rw [List.length_map]; exact len_line (by omega), fun ys p2 py so n2 => ?_⟩
    obtain ⟨ks, rfl, pk, up⟩ := letters_sorted (letL_nd hfr hst mn8) py so
    have lk : ks.length = mn := pk.length_eq.trans ll
    have abc : ∀ k ∈ ks, 97 ≤ k ∧ k ≤ 122 := fun k hk => by
      obtain ⟨i, _, rfl⟩ := List.mem_map.mp (pk.mem_iff.mp hk)
      have := Nat.mod_lt (fr + st * i) (by decide : 0 < 26)
      omega
    have nd := nodup_up up
    refine ⟨_, p2, ks.map (fun c => S [c]), rfl, rfl, .inl (SqL.of upd_same), ones_sum _ (by omega), ?_⟩
    rw [empty_S, S_join1]
    have s4 := same_new (o := .lst ((ks.map fun c => S [c]).map V.str)) n2
    have bH4 : But p H (upd G3 p2 (.lst ((ks.map fun c => S [c]).map V.str))) := (bH5.trans (But.of sm3)).trans (But.of s4)
    have hp4 : PenAt (upd G3 p2 (.lst ((ks.map fun c => S [c]).map V.str))) p c (m + 1 + 1 + 1) := (hp5.same sm3).same s4
    generalize (upd G3 p2 (.lst ((ks.map fun c => S [c]).map V.str))) = G4 at bH4 hp4 ⊢
    clear s4 n2 py so gD sm3 hD hp5 bH5 pk
    have lS : (S ks).length ≤ sizeLine := by rw [S_len]; exact len_line (by omega)
    -- way, spots, cross
    refine ⟨_, rfl, p, c, _, 7, rfl, hp4, by decide, by decide, by omega, fun wy G5 hwy hp5 b5 => ?_⟩
    have bH5 := bH4.trans b5
    refine ⟨_, rfl, _, rfl, _, rfl, RgOk.of_le (by decide) (by omega) (by decide) (by omega), fun g hg => ?_⟩
    have lrg : (rgV 0 ((mn : Nat) : Int)).length = mn := by rw [rgV_length]; omega
    have sg := same_new (o := .lst (rgV 0 ((mn : Nat) : Int))) hg
    refine ⟨p, c, .ref g, _, rgV 0 ((mn : Nat) : Int), rfl, hp5.same sg, by omega, .inr ⟨g, rfl, upd_same⟩, by rw [lrg]; omega, fun sp ys G6 pm gsp hp6 b6 hsp => ?_⟩
    rw [lrg] at hp6
    have bH6 := (bH5.trans (But.of sg)).trans b6
    have lys : ys.length = mn := pm.length_eq.trans lrg
    have ysI : ∀ i, i < mn → ∃ v : Int, ys[i]? = some (.int v) := fun i hi => by
      have hy := List.getElem?_eq_getElem (l := ys) (i := i) (by omega)
      have := pm.mem_iff.mp (List.getElem_mem (l := ys) (n := i) (by omega))
      obtain ⟨j, _, e⟩ := List.mem_map.mp this
      exact ⟨_, by rw [hy, ← e]⟩
    have nsp : sp ≠ p := pen_ne hp6 gsp fun _ _ _ z => by cases z
    intro t ht
    have ntp : t ≠ p := fun z => by
      obtain ⟨pl, r, cs, h1, _⟩ := hp6.ex
      rw [z, h1] at ht
      cases ht
    have nst : sp ≠ t := ne_of_none gsp ht
    have ht0 : H t = none := bH6.none ntp ht
    have gt7 : (upd G6 t (.dK [])) t = some (.dK []) := upd_same
    have s7 := same_new (o := .dK []) ht
    have hp7 : PenAt (upd G6 t (.dK [])) p c (m + 4 + mn) := (hp6.same s7).mono (by omega)
    have b7 : But p H (upd G6 t (.dK [])) := bH6.fresh ht0
    have gsp7 := s7 _ _ gsp
    generalize (upd G6 t (.dK [])) = G7 at gt7 hp7 b7 gsp7 ⊢
    clear s7 hp6 bH6 b6 gsp pm hp5 bH5 b5 sg hg hp4 bH4
    refine ⟨_, _, _, rfl, ?_⟩
    refine ⟨_, rfl, _, rfl, for_it walk_str (fun i σ G => ∃ u, σ = [some (.ref p), some (.int ((n : Nat) : Int)), some (.str (S azN)), some (.int ((fr : Nat) : Int)), some (.int ((st : Nat) : Int)), some (.int ((mn : Nat) : Int)), some (.str (S ks)), some (.int ((wy : Nat) : Int)), some (.ref sp), some (.ref t), u, none, none, none, none, none] ∧ G t = some (.dK (kvK (ks.take i) fun _ => [])) ∧ G sp = some (.lst ys) ∧ PenAt G p c (m + 4 + mn) ∧ But p H G) ⟨none, rfl, gt7, gsp7, hp7, b7⟩ (fun _ _ _ _ _ => trivial) ?_ ?_⟩
    · rintro i x σ G G2 hi ⟨u, rfl, gt, gs, gp, gb⟩ ⟨rfl, k, hk, rfl⟩
      have hk' := getS hk
      refine ⟨_, rfl, _, rfl, t, _, rfl, DPut.k (k := Sum.inr (S [k])) gt (by rw [kv_len, List.length_take]; exact len_lt (by omega)), ?_⟩
      rw [kvK_more (f := fun _ => []) hk' nd]
      exact ⟨some (.str (S [k])), rfl, upd_same, by rw [upd_ne nst]; exact gs, gp.fresh hp ht0, gb.fresh ht0⟩
    rintro σ G ⟨u, rfl, gt, gs, gp, gb⟩
    rw [sizeS, List.take_length] at gt
    refine ⟨_, rfl, _, rfl, by omega, by omega, ?_⟩
    refine for_range (lo := 0) (n := ((mn : Nat) : Int).toNat) (fun i σ G => ∃ (f : Nat → List Nat) (u10 u11 u12 u13 u14 : Option V), σ = [some (.ref p), some (.int ((n : Nat) : Int)), some (.str (S azN)), some (.int ((fr : Nat) : Int)), some (.int ((st : Nat) : Int)), some (.int ((mn : Nat) : Int)), some (.str (S ks)), some (.int ((wy : Nat) : Int)), some (.ref sp), some (.ref t), u10, u11, u12, u13, u14, none] ∧ FN ks i 0 f ∧ G t = some (.dK (kvK ks f)) ∧ G sp = some (.lst ys) ∧ PenAt G p c (m + 4 + mn + i * (i - 1) / 2) ∧ But p H G)
      ⟨_, u, none, none, none, none, rfl, FN.zero ks, gt, gs, by simpa using gp, gb⟩ ?_ ?_
    · rintro i σ G hi ⟨f, u10, u11, u12, u13, u14, rfl, fn, gt, gs, gp, gb⟩
      have hi' : i < ks.length := by omega
      have e0i : (0 + (i : Int)).toNat = i := by omega
      refine ⟨_, rfl, _, rfl, by omega, by omega, ?_⟩
      refine for_range (lo := 0) (n := (0 + (i : Int)).toNat) (fun j σ G => ∃ (f : Nat → List Nat) (u10 u12 u13 u14 : Option V), σ = [some (.ref p), some (.int ((n : Nat) : Int)), some (.str (S azN)), some (.int ((fr : Nat) : Int)), some (.int ((st : Nat) : Int)), some (.int ((mn : Nat) : Int)), some (.str (S ks)), some (.int ((wy : Nat) : Int)), some (.ref sp), some (.ref t), u10, some (.int (0 + (i : Int))), u12, u13, u14, none] ∧ FN ks i j f ∧ G t = some (.dK (kvK ks f)) ∧ G sp = some (.lst ys) ∧ PenAt G p c (m + 4 + mn + i * (i - 1) / 2 + j) ∧ But p H G)
        ⟨f, u10, u12, u13, u14, rfl, fn, gt, gs, gp, gb⟩ ?_ ?_
      · rintro j σ G hj ⟨f, u10, u12, u13, u14, rfl, fn, gt, gs, gp, gb⟩
        rw [e0i] at hj
        have ha : ks[i]? = some ks[i] := List.getElem?_eq_getElem hi'
        have hb : ks[j]? = some ks[j] := List.getElem?_eq_getElem (by omega)
        generalize ks[i] = a at ha
        generalize ks[j]'(by omega) = b at hb
        have ain := List.mem_of_getElem? ha
        have bin := List.mem_of_getElem? hb
        have nab : a ≠ b := fun e => by
          subst e
          have := idx_inj nd ha hb
          omega
        have hat1 : atI ks (0 + (i : Int)) = some a := by rw [Int.zero_add]; exact atI_nat ha
        have hat2 : atI ks (0 + (j : Int)) = some b := by rw [Int.zero_add]; exact atI_nat hb
        obtain ⟨va, hva⟩ := ysI i (by omega)
        obtain ⟨vb, hvb⟩ := ysI j (by omega)
        have sat1 : atI ys (0 + (i : Int)) = some (.int va) := by rw [Int.zero_add]; exact atI_nat hva
        have sat2 : atI ys (0 + (j : Int)) = some (.int vb) := by rw [Int.zero_add]; exact atI_nat hvb
        have sq := SqL.of (K := K) gs
        refine ⟨_, rfl, _, rfl, sp, _, _, _, rfl, rfl, sq, sat1, .inl ⟨_, rfl, ?_⟩⟩
        refine ⟨_, rfl, _, rfl, sp, _, _, _, rfl, rfl, sq, sat2, .inl ⟨_, rfl, _, _, rfl, ?_⟩⟩
        refine ⟨_, rfl, _, rfl, sp, _, _, _, rfl, rfl, sq, sat1, .inl ⟨_, rfl, ?_⟩⟩
        refine ⟨_, rfl, _, rfl, sp, _, _, _, rfl, rfl, sq, sat2, .inl ⟨_, rfl, _, _, rfl, ?_⟩⟩
        refine ⟨_, _, rfl, ?_⟩
        have tri : i * (i - 1) / 2 ≤ 28 := by
          have : i * (i - 1) ≤ 8 * 7 := Nat.mul_le_mul (by omega) (by omega)
          omega
        refine ⟨_, rfl, _, rfl, _, rfl, _, rfl, _, rfl, p, c, _, wy, _, _, _, rfl, gp, by omega, hwy, fun bb G1 gp1 b1 => ?_⟩
        have gt1 := b1 _ _ ntp gt
        have gs1 := b1 _ _ nsp gs
        have gb1 := gb.trans b1
        have la := fn.len a
        have lb := fn.len b
        refine ⟨_, rfl, ite2 (fun _ => ?_) (fun _ => ⟨f, _, _, _, _, rfl, fn.no, gt1, gs1, gp1, gb1⟩)⟩
        refine ⟨_, rfl, _, rfl, _, rfl, _, _, a, rfl, rfl, lS, hat1, t, _, rfl, get_kv gt1 ain, _, rfl, _, rfl, _, _, b, rfl, rfl, lS, hat2, _, _, rfl, rfl, (by rw [S_len]; show (f a).length + 1 ≤ sizeLine; exact len_line (by omega)), ?_⟩
        rw [show S (f a) ++ (⟨#[b]⟩ : Str) = S (f a ++ [b]) from S_cat (f a) [b]]
        refine ⟨_, rfl, _, rfl, _, rfl, _, _, a, rfl, rfl, lS, hat1, t, _, rfl, DPut.k (k := Sum.inr (S [a])) gt1 (by rw [kv_len]; exact len_lt (by omega)), ?_⟩
        rw [put_kv ain]
        have gt2 : (upd G1 t (.dK (kvK ks fun k => if k = a then f a ++ [b] else f k))) t = some (.dK (kvK ks fun k => if k = a then f a ++ [b] else f k)) := upd_same
        have gs2 : (upd G1 t (.dK (kvK ks fun k => if k = a then f a ++ [b] else f k))) sp = some (.lst ys) := by rw [upd_ne nst]; exact gs1
        have gp2 : PenAt (upd G1 t (.dK (kvK ks fun k => if k = a then f a ++ [b] else f k))) p c (m + 4 + mn + i * (i - 1) / 2 + j + 1) := gp1.fresh hp ht0
        have gb2 : But p H (upd G1 t (.dK (kvK ks fun k => if k = a then f a ++ [b] else f k))) := gb1.fresh ht0
        generalize (upd G1 t (.dK (kvK ks fun k => if k = a then f a ++ [b] else f k))) = G2 at gt2 gs2 gp2 gb2 ⊢
        refine ⟨_, rfl, _, rfl, _, rfl, _, _, b, rfl, rfl, lS, hat2, t, _, rfl, get_kv2 gt2 bin (fun e => nab e.symm), _, rfl, _, rfl, _, _, a, rfl, rfl, lS, hat1, _, _, rfl, rfl, (by rw [S_len]; show (f b).length + 1 ≤ sizeLine; exact len_line (by omega)), ?_⟩
        rw [show S (f b) ++ (⟨#[a]⟩ : Str) = S (f b ++ [a]) from S_cat (f b) [a]]
        refine ⟨_, rfl, _, rfl, _, rfl, _, _, b, rfl, rfl, lS, hat2, t, _, rfl, DPut.k (k := Sum.inr (S [b])) gt2 (by rw [kv_len]; exact len_lt (by omega)), ?_⟩
        rw [put_kv bin]
        exact ⟨addF f a b, _, _, _, _, rfl, fn.add nd hj ha hb, upd_same, by rw [upd_ne nst]; exact gs2, gp2.fresh hp ht0, gb2.fresh ht0⟩
      · rintro σ G ⟨f, u10, u12, u13, u14, rfl, fn, gt, gs, gp, gb⟩
        rw [e0i] at fn gp
        refine ⟨f, _, _, _, _, _, rfl, fn.row, gt, gs, gp.mono ?_, gb⟩
        have e2 : (i + 1) * (i + 1 - 1) = i * (i - 1) + 2 * i := by
          cases i with
          | zero => rfl
          | succ k =>
            rw [Nat.add_sub_cancel, Nat.add_sub_cancel, Nat.succ_mul, Nat.mul_succ]
            have := Nat.succ_mul k k
            omega
        rw [e2]
        omega
    · rintro σ G ⟨f, u10, u11, u12, u13, u14, rfl, fn, gt, gs, gp, gb⟩
      rw [en] at fn gp
      have tri : mn * (mn - 1) / 2 ≤ 28 := by
        have : mn * (mn - 1) ≤ 8 * 7 := Nat.mul_le_mul (by omega) (by omega)
        omega
      intro q2 hq2
      have q20 : H q2 = none := gb.none (fun z => by
        obtain ⟨pl, r, cs, h1, _⟩ := gp.ex
        rw [z, h1] at hq2
        cases hq2) hq2
      refine ⟨_, rfl, _, rfl, upd_same, fkv ks t, rfl, (by show 2 ≤ 15; decide), ?_⟩
      rw [merge_fk]
      have ntq : t ≠ q2 := ne_of_none gt hq2
      refine q q2 ks (fX f) _ ⟨up, abc, by omega, fn.cross nd, t, f, upd_same, ?_, fn.mem⟩ (by omega) ?_ ?_
      · rw [upd_ne ntq, upd_ne ntq]
        exact gt
      · exact ((gp.fresh hp q20).fresh hp q20).mono (by omega)
      · exact (gb.fresh q20).fresh q20
end
end TX
end
section
set_option maxRecDepth 100000
set_option maxHeartbeats 8000000
/-! a plan of a floor; drawn ways -/
namespace TX
open PySem PySem.Spec PyProof.Rows L2 SX CW
def spPlanN (C : Addr) : Sp := fun vs H Q _ => ∃ (p c fl : Addr) (m : Nat) (ks : List Nat) (X : Nat → Nat → Bool), vs = [.ref p, .ref fl] ∧ PenAt H p c m ∧ m ≤ 900000 ∧ FlAt H fl ks X ∧
  ∀ (r : Addr) (H' : Hp), PlanAt C H' r ks X → PenAt H' p c (m + 200) → But p H H' → Q (.ref r) H'
def spWayN : Sp := fun vs H Q _ => ∃ (p c fl : Addr) (m n : Nat) (ks : List Nat) (X : Nat → Nat → Bool), vs = [.ref p, .ref fl, .int ((n : Nat) : Int)] ∧ PenAt H p c m ∧ m ≤ 900000 ∧ n ≤ 100 ∧ FlAt H fl ks X ∧
  ∀ (v : List Nat) (H' : Hp), v.length ≤ n → (∀ k ∈ v, k ∈ ks) → PenAt H' p c (m + n + 1) → But p H H' → Q (.str (S v)) H'
abbrev nAp : List Str := ["_law_pen", "_law_floor", "_law_pairs", "_law_kind", "_law_other"]
theorem sc_ap : FnScope nAp ["_law_pen", "_law_floor"] (defScope s_law_as_plan) := ⟨rfl, rfl, rfl, by decide +kernel, rfl, by decide +kernel, by decide +kernel⟩
abbrev nDw : List Str := ["_law_pen", "_law_floor", "_law_upto", "_law_k"]
theorem sc_dw : FnScope nDw ["_law_pen", "_law_floor", "_law_upto"] (defScope s_law_drawn_way) := ⟨rfl, rfl, rfl, by decide +kernel, rfl, by decide +kernel, by decide +kernel⟩
/-- the pairs that were told so far: of the kinds ahead of i, and of the i-th up to j -/
structure PrN (ks : List Nat) (X : Nat → Nat → Bool) (f : Nat → List Nat) (i j : Nat) (es : List Str) : Prop where
  pr : ∀ e ∈ es, ∃ a b, e = S [a, b] ∧ a ∈ ks ∧ b ∈ ks ∧ X a b = true
  all : ∀ a b, a < b → b ∈ f a → (a ∈ ks.take i ∨ (ks[i]? = some a ∧ b ∈ (f a).take j)) → S [a, b] ∈ es ∨ S [b, a] ∈ es
  len : es.length ≤ 7 * i + j
theorem PrN.zero (ks : List Nat) (X : Nat → Nat → Bool) (f : Nat → List Nat) : PrN ks X f 0 0 [] := ⟨(fun e h => by cases h), (fun a b _ _ h => by rcases h with h | ⟨_, h⟩ <;> cases h), Nat.le_refl _⟩
theorem PrN.row {ks : List Nat} {X : Nat → Nat → Bool} {f : Nat → List Nat} {i a : Nat} {es : List Str} (h : PrN ks X f i (f a).length es) (ha : ks[i]? = some a) (l7 : (f a).length ≤ 7) : PrN ks X f (i + 1) 0 es := by
  refine ⟨h.pr, fun x y lt hy hx => ?_, by have := h.len; omega⟩
  rcases hx with hx | ⟨_, hx⟩
  · rw [take_one ha] at hx
    rcases List.mem_append.mp hx with hx | hx
    · exact h.all x y lt hy (.inl hx)
    · have e := List.mem_singleton.mp hx
      subst e
      exact h.all x y lt hy (.inr ⟨ha, by rw [List.take_length]; exact hy⟩)
  · cases hx
theorem PrN.skip {ks : List Nat} {X : Nat → Nat → Bool} {f : Nat → List Nat} {i j a b : Nat} {es : List Str} (h : PrN ks X f i j es) (ha : ks[i]? = some a) (hb : (f a)[j]? = some b) (n : ¬ a < b) : PrN ks X f i (j + 1) es := by
  refine ⟨h.pr, fun x y lt hy hx => ?_, by have := h.len; omega⟩
  rcases hx with hx | ⟨hx, hy2⟩
  · exact h.all x y lt hy (.inl hx)
  · rw [ha] at hx
    have e := Option.some.inj hx
    subst e
    rw [take_one hb] at hy2
    rcases List.mem_append.mp hy2 with hy2 | hy2
    · exact h.all a y lt hy (.inr ⟨ha, hy2⟩)
    · rw [List.mem_singleton.mp hy2] at lt
      exact absurd lt n
theorem PrN.add {ks : List Nat} {X : Nat → Nat → Bool} {f : Nat → List Nat} {i j a b : Nat} {es : List Str} {e : Str} (h : PrN ks X f i j es) (cr : Crossing X) (ha : ks[i]? = some a) (hb : (f a)[j]? = some b) (bin : b ∈ ks) (x : X a b = true) (he : e = S [a, b] ∨ e = S [b, a]) : PrN ks X f i (j + 1) (es ++ [e]) := by
  have ain := List.mem_of_getElem? ha
  refine ⟨fun z hz => ?_, fun x y lt hy hx => ?_, by rw [List.length_append]; have := h.len; simp only [List.length_cons, List.length_nil]; omega⟩
  · rcases List.mem_append.mp hz with hz | hz
    · exact h.pr z hz
    · rw [List.mem_singleton.mp hz]
      rcases he with he | he
      · exact ⟨a, b, he, ain, bin, x⟩
      · exact ⟨b, a, he, bin, ain, by rw [cr.sym]; exact x⟩
  · have up : (S [x, y] ∈ es ∨ S [y, x] ∈ es) → S [x, y] ∈ es ++ [e] ∨ S [y, x] ∈ es ++ [e] := fun z => z.imp (List.mem_append_left _) (List.mem_append_left _)
    rcases hx with hx | ⟨hx, hy2⟩
    · exact up (h.all x y lt hy (.inl hx))
    · rw [ha] at hx
      have e1 := Option.some.inj hx
      subst e1
      rw [take_one hb] at hy2
      rcases List.mem_append.mp hy2 with hy2 | hy2
      · exact up (h.all a y lt hy (.inr ⟨ha, hy2⟩))
      · have e2 := List.mem_singleton.mp hy2
        subst e2
        rcases he with he | he
        · exact .inl (List.mem_append_right _ (List.mem_singleton.mpr he.symm))
        · exact .inr (List.mem_append_right _ (List.mem_singleton.mpr he.symm))
theorem perm_mapI {α β : Type} (f : α → β) : ∀ (l : List α) {ys : List β}, ys.Perm (l.map f) → ∃ zs : List α, ys = zs.map f ∧ zs.Perm l
  | [], ys, h => by
    have e : ys = [] := List.Perm.eq_nil h
    subst e
    exact ⟨[], rfl, List.Perm.refl _⟩
  | a :: l, ys, h => by
    have hin : f a ∈ ys := h.mem_iff.mpr (by rw [List.map_cons]; exact List.mem_cons_self)
    obtain ⟨s, t, rfl⟩ := List.append_of_mem hin
    have h2 : (s ++ t).Perm (l.map f) := by
      have h3 : (f a :: (s ++ t)).Perm (f a :: l.map f) := (List.perm_middle.symm).trans h
      exact (List.perm_cons _).mp h3
    obtain ⟨zs, e, p⟩ := perm_mapI f l h2
    have es : s = (zs.take s.length).map f := by rw [List.map_take, ← e, List.take_left]
    have et : t = (zs.drop s.length).map f := by rw [List.map_drop, ← e, List.drop_left]
    refine ⟨zs.take s.length ++ a :: zs.drop s.length, ?_, ?_⟩
    · rw [List.map_append, List.map_cons, ← es, ← et]
    · refine List.perm_middle.trans ?_
      rw [List.take_append_drop]
      exact List.Perm.cons _ p
section
variable {P : Program} {w : World} {K : PySem.W.Frag} {mg : Str → Option Value} {base : Heap} {C : Addr}
theorem ok_planN (F : D K mg "_law_as_plan" s_law_as_plan []) (cD : C8.Cal P w K mg base 1 "_law_draw" spDraw []) (cP : C8.Cal P w K mg base 2 "_law_pick" spPick []) (cS : C8.Cal P w K mg base 2 "_law_shuffled" spShufO []) (kP : C8.Mak P w K mg base 3 "Plan" C (spPlanInit K C) []) : C8.Cal P w K mg base 5 "_law_as_plan" (spPlanN C) [] := by
  refine F.cal (ps := ["_law_pen", "_law_floor"]) sc_ap (fun f fd F => F.bindsN fun _ _ _ _ _ _ us hl => match us, hl with | [_, _], _ => rfl) (fun vs H Q E h => ?_) (fun f0 cdv A outer s H vs Q E hr h => ?_)
  · obtain ⟨p, c, fl, m, ks, X, rfl, _⟩ := h
    rfl
  · obtain ⟨p, c, fl, m, ks, X, rfl, hp, hm, hf, q⟩ := h
    have hu := hu_of hr
    refine ⟨_, pss_cons (ps_set (i := 2) sc_ap.nd rfl (.inl rfl) (pe_lst pa_nil))
      (pss_cons (ps_for PassesOwn.never rfl (pi_str (pe_dget hu (pv 1) pe_str (fun _ _ => rfl))) (pg_name (i := 3) sc_ap.nd rfl (.inl rfl))
        (pss_one (ps_for PassesOwn.never rfl (pi_str (pe_dget hu (pe_dget hu (pv 1) pe_str (fun _ _ => rfl)) (pv 3) (fun _ _ => rfl))) (pg_name (i := 4) sc_ap.nd rfl (.inl rfl))
          (pss_one (ps_if (PW.pt (pw_or (pt_cmpR op_lt_str (pv 3) (pv 4) (nomark _)) (pw_or1 (pt_cmpR op_eq (C8.pe_c cD hr (by decide) (by rfl) (pa_cons (pv 0) (pa_cons pe_int pa_nil))) pe_int (nomark _)))))
            (pss_one (ps_expr (pe_bm PySem.F.plainAttrs_list PySem.F.slot_list_append PySem.F.type_list_append mt_append (pv 2) (pa_cons (C8.pe_c cP hr (by decide) (by rfl) (pa_cons (pv 0) (pa_cons (pe_lst (pa_cons (pe_op op_add_str (pv 3) (pv 4)) (pa_cons (pe_op op_add_str (pv 4) (pv 3)) pa_nil))) pa_nil))) pa_nil)))) pss_nil)))))
      (pss_one (ps_ret (C8.pe_mk kP hr (by decide) (by rfl) (pa_cons (pe_join pe_str (C8.pe_c cS hr (by decide) (by rfl) (pa_cons (pv 0) (pa_cons (pe_dget hu (pv 1) pe_str (fun _ _ => rfl)) pa_nil)))) (pa_cons (C8.pe_c cS hr (by decide) (by rfl) (pa_cons (pv 0) (pa_cons (pv 2) pa_nil))) pa_nil)))))), ?_⟩
    refine ⟨(by show 0 ≤ sizeLine; exact Nat.zero_le _), fun pr hpr => ?_⟩
    have s1 := same_new (o := .lst []) hpr
    have g1 : (upd H pr (.lst [])) pr = some (.lst (([] : List Str).map V.str)) := upd_same
    have hp1 := hp.same s1
    have hf1 := hf.same s1
    have b1 : But p H (upd H pr (.lst [])) := But.of s1
    generalize (upd H pr (.lst [])) = H1 at s1 g1 hp1 hf1 b1 ⊢
    have up := hf.up
    have l8 := hf.l8
    have cr := hf.cr
    obtain ⟨cd, f, hf1', hf2', hfm⟩ := hf1.ex
    have f7 : ∀ a ∈ ks, (f a).length ≤ 7 := fun a ha => by
      obtain ⟨nda, ma⟩ := hfm a ha
      have out : a ∉ f a := fun h => by
        have := ((ma a).mp h).2
        rw [cr.irr] at this
        cases this
      have := nodup_sub (a := a :: f a) (b := ks) (List.nodup_cons.mpr ⟨out, nda⟩) (fun b hb => by
        rcases List.mem_cons.mp hb with e | hb
        · rw [e]; exact ha
        · exact ((ma b).mp hb).1)
      rw [List.length_cons] at this
      omega
    have nfl : fl ≠ p := pen_ne hp1 hf1' (fkv_ne _ _)
    have ncd : cd ≠ p := pen_ne hp1 hf2' (kcells _ _)
    have nflr : fl ≠ pr := ne_of hf1' g1 (by intro z; cases z)
    have ncdr : cd ≠ pr := ne_of hf2' g1 (by intro z; cases z)
    refine ⟨_, rfl, fl, _, rfl, get_fk hf1', _, rfl, ?_⟩
    refine for_it walk_str (fun i σ G => ∃ (es : List Str) (u3 u4 : Option V), σ = [some (.ref p), some (.ref fl), some (.ref pr), u3, u4] ∧ PrN ks X f i 0 es ∧ G pr = some (.lst (es.map V.str)) ∧ G fl = some (.dK (fkv ks cd)) ∧ G cd = some (.dK (kvK ks f)) ∧ PenAt G p c (m + 14 * i) ∧ But p H G) ⟨[], none, none, rfl, PrN.zero ks X f, g1, hf1', hf2', hp1, b1⟩ (fun _ _ _ _ _ => trivial) ?_ ?_
    · rintro i x σ G G' hi ⟨es, u3, u4, rfl, pn, gr, gfl, gcd, gp, gb⟩ ⟨rfl, a, ha, rfl⟩
      have ha' := getS ha
      have ain := List.mem_of_getElem? ha'
      have il : i < ks.length := (List.getElem?_eq_some_iff.mp ha').1
      obtain ⟨nda, ma⟩ := hfm a ain
      have fa7 := f7 a ain
      refine ⟨_, rfl, fl, _, rfl, get_fc gfl, _, rfl, cd, _, rfl, get_kv gcd ain, _, rfl, ?_⟩
      refine for_it walk_str (fun j σ G => ∃ (es : List Str) (u4 : Option V), σ = [some (.ref p), some (.ref fl), some (.ref pr), some (.str (S [a])), u4] ∧ PrN ks X f i j es ∧ G pr = some (.lst (es.map V.str)) ∧ G fl = some (.dK (fkv ks cd)) ∧ G cd = some (.dK (kvK ks f)) ∧ PenAt G p c (m + 14 * i + 2 * j) ∧ But p H G) ⟨es, u4, rfl, pn, gr, gfl, gcd, gp, gb⟩ (fun _ _ _ _ _ => trivial) ?_ ?_
      · rintro j y σ G G' hj ⟨es, u4, rfl, pn, gr, gfl, gcd, gp, gb⟩ ⟨rfl, b, hb, rfl⟩
        have hb' := getS hb
        rw [sizeS] at hj
        obtain ⟨bin, xab⟩ := (ma b).mp (List.mem_of_getElem? hb')
        have npr : pr ≠ p := pen_ne gp gr fun _ _ _ z => by cases z
        have les := pn.len
        have hpr0 : H pr = none := hpr
        refine ⟨_, rfl, _, rfl, _, _, rfl, rfl, _, rfl, ?_⟩
        refine ite2 (fun c1 => ?_) (fun c1 => ?_)
        · obtain ⟨G1, rfl⟩ : ∃ G1, G1 = G' := ⟨G', rfl⟩
          have gp1 : PenAt G1 p c (m + 14 * i + 2 * j + 1) := gp.mono (by omega)
          have gb1 := gb
          have gr1 := gr
          have gfl1 := gfl
          have gcd1 := gcd
          clear gp gb gr gfl gcd
          refine iteT ?_
          refine ⟨_, rfl, .inl ⟨rfl, _, SqL.of gr1⟩, ?_⟩
          refine ⟨_, rfl, _, rfl, _, rfl, _, _, rfl, rfl, (by show 1 + 1 ≤ sizeLine; exact len_line (by decide)), ?_⟩
          refine ⟨_, rfl, _, rfl, _, _, rfl, rfl, (by show 1 + 1 ≤ sizeLine; exact len_line (by decide)), (by show 2 ≤ sizeLine; exact len_line (by decide)), fun l hl => ?_⟩
          rw [show (⟨#[a]⟩ : Str) ++ ⟨#[b]⟩ = S [a, b] from S_cat [a] [b], show (⟨#[b]⟩ : Str) ++ ⟨#[a]⟩ = S [b, a] from S_cat [b] [a]]
          have s2 := same_new (o := .lst [V.str (S [a, b]), V.str (S [b, a])]) hl
          have gl2 : (upd G1 l (.lst [V.str (S [a, b]), V.str (S [b, a])])) l = some (.lst [V.str (S [a, b]), V.str (S [b, a])]) := upd_same
          have gr2 := s2 _ _ gr1
          have gfl2 := s2 _ _ gfl1
          have gcd2 := s2 _ _ gcd1
          have gp2 := gp1.same s2
          have gb2 := gb1.trans (But.of s2)
          generalize (upd G1 l (.lst [V.str (S [a, b]), V.str (S [b, a])])) = G2 at gl2 gr2 gfl2 gcd2 gp2 gb2 ⊢
          refine ⟨p, c, l, _, _, rfl, gp2, by omega, gl2, by simp, by simp, fun ix x G3 hx gp3 b3 => ?_⟩
          obtain ⟨e, rfl, he⟩ : ∃ e, x = V.str e ∧ (e = S [a, b] ∨ e = S [b, a]) := by
            have := List.mem_of_getElem? hx
            rcases List.mem_cons.mp this with z | z
            · exact ⟨_, z, .inl rfl⟩
            · exact ⟨_, List.mem_singleton.mp z, .inr rfl⟩
          have gr3 := b3 _ _ npr gr2
          have gfl3 := b3 _ _ nfl gfl2
          have gcd3 := b3 _ _ ncd gcd2
          refine ⟨pr, _, _, rfl, rfl, gr3, by rw [List.length_map]; exact len_lt (by omega), ?_⟩
          refine ⟨es ++ [e], _, rfl, pn.add cr ha' hb' bin xab he, ?_, ?_, ?_, ?_, ?_⟩
          · rw [upd_same, List.map_append]; rfl
          · rw [upd_ne nflr]; exact gfl3
          · rw [upd_ne ncdr]; exact gcd3
          · exact (gp3.fresh hp hpr0).mono (by omega)
          · exact (gb2.trans b3).fresh hpr0
        · refine ⟨_, rfl, p, c, _, 4, rfl, gp, by decide, by decide, by omega, fun dd G1 hdd gp1 b1 => ⟨rfl, _, rfl, ite2 (fun _ => ?_) (fun _ => ?_)⟩⟩
          · have gb1 := gb.trans b1
            have gr1 := b1 _ _ npr gr
            have gfl1 := b1 _ _ nfl gfl
            have gcd1 := b1 _ _ ncd gcd
            clear gp gb gr gfl gcd
            refine ⟨_, rfl, .inl ⟨rfl, _, SqL.of gr1⟩, ?_⟩
            refine ⟨_, rfl, _, rfl, _, rfl, _, _, rfl, rfl, (by show 1 + 1 ≤ sizeLine; exact len_line (by decide)), ?_⟩
            refine ⟨_, rfl, _, rfl, _, _, rfl, rfl, (by show 1 + 1 ≤ sizeLine; exact len_line (by decide)), (by show 2 ≤ sizeLine; exact len_line (by decide)), fun l hl => ?_⟩
            rw [show (⟨#[a]⟩ : Str) ++ ⟨#[b]⟩ = S [a, b] from S_cat [a] [b], show (⟨#[b]⟩ : Str) ++ ⟨#[a]⟩ = S [b, a] from S_cat [b] [a]]
            have s2 := same_new (o := .lst [V.str (S [a, b]), V.str (S [b, a])]) hl
            have gl2 : (upd G1 l (.lst [V.str (S [a, b]), V.str (S [b, a])])) l = some (.lst [V.str (S [a, b]), V.str (S [b, a])]) := upd_same
            have gr2 := s2 _ _ gr1
            have gfl2 := s2 _ _ gfl1
            have gcd2 := s2 _ _ gcd1
            have gp2 := gp1.same s2
            have gb2 := gb1.trans (But.of s2)
            generalize (upd G1 l (.lst [V.str (S [a, b]), V.str (S [b, a])])) = G2 at gl2 gr2 gfl2 gcd2 gp2 gb2 ⊢
            refine ⟨p, c, l, _, _, rfl, gp2, by omega, gl2, by simp, by simp, fun ix x G3 hx gp3 b3 => ?_⟩
            obtain ⟨e, rfl, he⟩ : ∃ e, x = V.str e ∧ (e = S [a, b] ∨ e = S [b, a]) := by
              have := List.mem_of_getElem? hx
              rcases List.mem_cons.mp this with z | z
              · exact ⟨_, z, .inl rfl⟩
              · exact ⟨_, List.mem_singleton.mp z, .inr rfl⟩
            have gr3 := b3 _ _ npr gr2
            have gfl3 := b3 _ _ nfl gfl2
            have gcd3 := b3 _ _ ncd gcd2
            refine ⟨pr, _, _, rfl, rfl, gr3, by rw [List.length_map]; exact len_lt (by omega), ?_⟩
            refine ⟨es ++ [e], _, rfl, pn.add cr ha' hb' bin xab he, ?_, ?_, ?_, ?_, ?_⟩
            · rw [upd_same, List.map_append]; rfl
            · rw [upd_ne nflr]; exact gfl3
            · rw [upd_ne ncdr]; exact gcd3
            · exact (gp3.fresh hp hpr0).mono (by omega)
            · exact (gb2.trans b3).fresh hpr0
          · have nlt : ¬ a < b := fun lt => c1 ((lt_one a b).trans (decide_eq_true lt))
            exact ⟨es, _, rfl, pn.skip ha' hb' nlt, b1 _ _ npr gr, b1 _ _ nfl gfl, b1 _ _ ncd gcd, gp1.mono (by omega), gb.trans b1⟩
      · rintro σ G ⟨es, u4, rfl, pn, gr, gfl, gcd, gp, gb⟩
        rw [sizeS] at pn gp
        exact ⟨es, _, _, rfl, pn.row ha' fa7, gr, gfl, gcd, gp.mono (by omega), gb⟩
    · rintro σ G ⟨es, u3, u4, rfl, pn, gr, gfl, gcd, gp, gb⟩
      rw [sizeS] at pn gp
      have kl : ks.length ≤ 8 := l8
      refine ⟨⟨_, rfl⟩, _, rfl, _, rfl, fl, _, rfl, get_fk gfl, p, c, _, _, ones ks, rfl, gp, by omega, .inl ⟨ks, rfl, rfl⟩, by unfold ones; rw [List.length_map]; omega, fun lz yz G1 pmz gz gp1 b1 hlz => ?_⟩
      obtain ⟨zs, rfl, pz⟩ := perm_mapI (fun c => V.str (S [c])) ks pmz
      have lz8 : zs.length = ks.length := pz.length_eq
      refine ⟨_, lz, zs.map (fun c => S [c]), rfl, rfl, .inl (ones_sq gz), ones_sum _ (by omega), ?_⟩
      rw [empty_S, S_join1]
      have npr : pr ≠ p := pen_ne gp gr fun _ _ _ z => by cases z
      have gr1 := b1 _ _ npr gr
      have lo : (ones ks).length = ks.length := List.length_map ..
      rw [lo] at gp1
      have les := pn.len
      refine ⟨_, rfl, _, rfl, p, c, _, _, es.map V.str, rfl, gp1, by omega, .inr ⟨pr, rfl, gr1⟩, by rw [List.length_map]; omega, fun le ye G2 pme ge gp2 b2 hle => ?_⟩
      obtain ⟨us, rfl, pu⟩ := perm_mapI V.str es pme
      rw [List.length_map] at gp2
      intro x dx hx hdx nd
      have s2 : L2.Same G2 (upd (upd G2 dx (.own x)) x (.ins C dx [])) := fun b o e => by
        rw [upd_ne (ne_of_none e hx), upd_ne (ne_of_none e hdx)]
        exact e
      have bG2 : But p H G2 := (gb.trans b1).trans b2
      have hpx : p ≠ x := by
        obtain ⟨_, _, _, z, _⟩ := gp2.ex
        exact ne_of_none z hx
      have hcx : c ≠ x := by
        obtain ⟨_, _, _, _, z, _⟩ := gp2.ex
        exact ne_of_none z hx
      refine ⟨x, dx, le, zs, ks, X, us, rfl, upd_same, pz, up, hf.abc, kl, cr, .inl (SqL.of (s2 _ _ ge)), by rw [pu.length_eq]; omega, fun e he => pn.pr e (pu.mem_iff.mp he), fun a b ha hb lt xab => ?_, fun H' bb pl => ⟨rfl, q x H' pl ?_ fun a o na e => ?_⟩⟩
      · have hm : b ∈ f a := ((hfm a ha).2 b).mpr ⟨hb, xab⟩
        exact (pn.all a b lt hm (.inl (by rw [List.take_length]; exact ha))).imp pu.mem_iff.mpr pu.mem_iff.mpr
      · have gp3 := gp2.same s2
        obtain ⟨pl', r', cs', q1, q2, q3, q4, q5⟩ := gp3.ex
        exact ⟨pl', r', cs', bb _ _ hpx q1, bb _ _ hcx q2, by omega, q4, q5⟩
      · have e2 := bG2 a o na e
        exact bb _ _ (ne_of_none e2 hx) (s2 _ _ e2)
end
end TX
end
section
set_option maxRecDepth 100000
set_option maxHeartbeats 8000000
/-! drawn ways; vectors of a floor -/
namespace TX
open PySem PySem.Spec PyProof.Rows L2 SX CW
theorem idx_occ {ks : List Nat} (nd : ks.Nodup) {i c : Nat} (h : ks[i]? = some c) : ∃ rest, Builtin.Str.occurrences (S ks) (S [c]) 0 (S ks).length 1 = i :: rest := by
  have f := StrLaws.found_one (S ks) c
  have m : decide (c ∈ (S ks).cps.toList) = true := decide_eq_true (show c ∈ ks from List.mem_of_getElem? h)
  rw [m] at f
  cases e : Builtin.Str.occurrences (S ks) (S [c]) 0 (S ks).length 1 with
  | nil =>
    have e' : Builtin.Str.occurrences (S ks) ⟨#[c]⟩ 0 (S ks).length 1 = [] := e
    rw [e'] at f
    cases f
  | cons j rest =>
    have sp := StrLaws.occ_spec (S ks) (S [c]) 0 (S ks).length 1 j (by rw [e]; exact List.mem_cons_self)
    have hj : ks[j]? = some c := (StrLaws.subAt_one (S ks) c j).mp sp
    have := idx_inj nd hj h
    subst this
    exact ⟨rest, rfl⟩
theorem tyStr {K : PySem.W.Frag} {H : Hp} (z : Str) : tyV K "str" (.str z) H := rfl
theorem tupV_i {ks : List Nat} {v : Vec} {i a : Nat} (h : ks[i]? = some a) : (tupV ks v)[i]? = some (.int (v a)) := by
  unfold tupV
  rw [List.getElem?_map, h]
  rfl
theorem tupV_set {ks : List Nat} (nd : ks.Nodup) {v : Vec} {i a : Nat} {x : Int} (h : ks[i]? = some a) : (tupV ks v).set i (.int x) = tupV ks (fun j => if j = a then x else v j) := by
  refine List.ext_getElem? fun j => ?_
  have li := (List.getElem?_eq_some_iff.mp h).1
  by_cases hj : j < ks.length
  · have hk := List.getElem?_eq_getElem hj
    rw [tupV_i hk]
    by_cases e : i = j
    · subst e
      rw [List.getElem?_set_self (by rw [tupV_len]; exact li)]
      rw [h] at hk
      rw [if_pos (Option.some.inj hk).symm]
    · rw [List.getElem?_set_ne e, tupV_i hk, if_neg fun z => e (idx_inj nd h (by rw [hk, z]))]
  · rw [List.getElem?_eq_none (by rw [List.length_set, tupV_len]; omega), List.getElem?_eq_none (by rw [tupV_len]; omega)]
theorem tupV_congr {ks : List Nat} {v w : Vec} (h : ∀ j ∈ ks, v j = w j) : tupV ks v = tupV ks w := List.map_congr_left fun j hj => by rw [h j hj]
theorem farS_more {ks : List Nat} {X : Nat → Nat → Bool} {a i b : Nat} {v : Vec} (h : ks[i]? = some b) : farS ks X a v (ks.take (i + 1)) = farS ks X a v (ks.take i) + (if (decide (b ≠ a) && !(X a b)) = true then v b else 0) := by
  unfold farS
  rw [take_one h, List.filter_append, List.map_append, List.sum_append]
  congr 1
  by_cases z : (decide (b ≠ a) && !(X a b)) = true
  · rw [if_pos z, List.filter_cons_of_pos (p := fun i => decide (i ≠ a) && !(X a i)) z]; simp
  · rw [if_neg z, List.filter_cons_of_neg (p := fun i => decide (i ≠ a) && !(X a i)) z]; simp
def spTurn : Sp := fun vs H Q _ => ∃ (fl vl : Addr) (ks : List Nat) (X : Nat → Nat → Bool) (v : Vec) (a : Nat), vs = [.ref fl, .ref vl, .str (S [a])] ∧ FlAt H fl ks X ∧ H vl = some (.lst (tupV ks v)) ∧ a ∈ ks ∧
  ∀ (r : Addr) (H' : Hp), H' r = some (.lst (tupV ks (rf ks X a v))) → L2.Same H H' → Q (.ref r) H'
abbrev nTu : List Str := ["_law_floor", "_law_vector", "_law_letter", "_law_spot", "_law_found", "_law_part", "_law_at"]
theorem sc_tu : FnScope nTu ["_law_floor", "_law_vector", "_law_letter"] (defScope s_law_turned) := ⟨rfl, rfl, rfl, by decide +kernel, rfl, by decide +kernel, by decide +kernel⟩
section
variable {P : Program} {w : World} {K : PySem.W.Frag} {mg : Str → Option Value} {base : Heap} {C : Addr}
theorem ok_wayN (F : D K mg "_law_drawn_way" s_law_drawn_way []) (cD : C8.Cal P w K mg base 1 "_law_draw" spDraw []) (cP : C8.Cal P w K mg base 2 "_law_pick" spPickS []) (zr : mg "range" = none) : C8.Cal P w K mg base 3 "_law_drawn_way" spWayN [] := by
  refine F.cal (ps := ["_law_pen", "_law_floor", "_law_upto"]) sc_dw (fun f fd F => F.bindsN fun _ _ _ _ _ _ us hl => match us, hl with | [_, _, _], _ => rfl) (fun vs H Q E h => ?_) (fun f0 cdv A outer s H vs Q E hr h => ?_)
  · obtain ⟨p, c, fl, m, n, ks, X, rfl, _⟩ := h
    rfl
  · obtain ⟨p, c, fl, m, n, ks, X, rfl, hp, hm, hn, hf, q⟩ := h
    have hu := hu_of hr
    refine ⟨_, pss_cons (ps_if (pt_cmpR op_eq (pe_dget hu (pv 1) pe_str (fun _ _ => rfl)) pe_str (nomark _)) (pss_one (ps_ret pe_str)) pss_nil)
      (pss_one (ps_ret (pe_join pe_str (pe_lc (own := [("_law_k", 3)]) (g := gName 3) (te := tCall spPickS [] C8.E0 (tCons (tVar 0) (tCons (tDGet (tVar 1) (tC (.str "kinds"))) tNil))) rfl sc_dw.nd (pi_range1 rfl zr (pa_cons (C8.pe_c cD hr (by decide) (by rfl) (pa_cons (pv 0) (pa_cons (pe_op op_add (pv 2) pe_int) pa_nil))) pa_nil)) (blkOk_by (own := [("_law_k", 3)]) (N := nDw) (sc := defScope s_law_drawn_way) (by decide +kernel))
        (fun _ _ _ _ _ => pg_name (i := 3) sc_dw.nd rfl (.inl rfl)) (fun _ _ _ _ _ => pts_nil) (fun _ _ _ _ _ => by exact C8.pe_c cP hr (by decide) (by rfl) (pa_cons (pv 0) (pa_cons (pe_dget hu (pv 1) pe_str (fun _ _ => rfl)) pa_nil))))))), ?_⟩
    obtain ⟨cd, f, h1, h2, h3⟩ := hf.ex
    have nfl : fl ≠ p := pen_ne hp h1 (fkv_ne _ _)
    have lk := hf.l8
    refine ⟨_, rfl, fl, _, rfl, get_fk h1, rfl, _, rfl, ?_⟩
    rw [empty_S]
    by_cases e : ks = []
    · subst e
      refine Eq.mpr (if_pos (decide_eq_true rfl)) ?_
      exact q [] H (Nat.zero_le _) (fun k h => by cases h) (hp.mono (by omega)) (But.refl _ _)
    · refine Eq.mpr (if_neg (by rw [decide_eq_false (fun z => e (S_inj (V.str.inj z)))]; decide)) ?_
      have l0 : 0 < ks.length := List.length_pos_iff.mpr e
      refine ⟨⟨_, rfl⟩, _, rfl, _, rfl, _, _, rfl, rfl, p, c, m, n + 1, rfl, hp, by omega, by omega, by omega, fun d H1 hd gp1 b1 => ?_⟩
      have g1 := b1 _ _ nfl h1
      refine ⟨_, rfl, by omega, by omega, fun D hD => ?_⟩
      have en : ((d : Nat) : Int).toNat = d := by omega
      have nDp : D ≠ p := fun z => by
        obtain ⟨_, _, _, hq, _⟩ := gp1.ex
        rw [z, hq] at hD
        cases hD
      have hD0 : H D = none := b1.none nDp hD
      refine lc_it walk_range (fun j G => ∃ v : List Nat, G D = some (.lst (ones v)) ∧ v.length = j ∧ (∀ k ∈ v, k ∈ ks) ∧ PenAt G p c (m + 1 + j) ∧ But p H G ∧ G fl = some (.dK (fkv ks cd))) ⟨[], upd_same, rfl, (fun k h => by cases h), gp1.same (same_new hD), b1.trans (But.of (same_new hD)), by rw [upd_ne (ne_of_none g1 hD)]; exact g1⟩ (fun _ _ _ _ => trivial) ?_ ?_
      · rintro j x G G2 hj ⟨v, gD, lv, kv, gp, gb, gfl⟩ ⟨rfl, rfl⟩
        rw [en] at hj
        refine ⟨rfl, _, rfl, _, rfl, fl, _, rfl, get_fk gfl, p, c, _, ks, rfl, gp, by omega, l0, by omega, fun k G3 hk gp3 b3 => ?_⟩
        have gD3 := b3 _ _ nDp gD
        refine ⟨_, gD3, by rw [ones_len']; exact len_lt (by omega), v ++ [k], ?_, by simp [lv], fun x hx => ?_, (gp3.fresh hp hD0), (gb.trans b3).fresh hD0, ?_⟩
        · rw [upd_same]
          unfold ones
          rw [List.map_append]
          rfl
        · rcases List.mem_append.mp hx with z | z
          · exact kv x z
          · rw [List.mem_singleton.mp z]; exact hk
        · rw [upd_ne (ne_of (b3 _ _ nfl gfl) gD3 (by intro z; cases z))]
          exact b3 _ _ nfl gfl
      · rintro G ⟨v, gD, lv, kv, gp, gb, gfl⟩
        rw [en] at lv gp
        refine ⟨_, D, v.map (fun c => S [c]), rfl, rfl, .inl (ones_sq gD), ones_sum _ (by omega), ?_⟩
        rw [S_join1]
        exact q v G (by omega) kv (gp.mono (by omega)) gb
theorem ok_turn (F : D K mg "_law_turned" s_law_turned []) (zl : mg "len" = none) (zr : mg "range" = none) (zi : mg "list" = none) : C8.Cal P w K mg base 1 "_law_turned" spTurn [] := by
  refine F.cal (ps := ["_law_floor", "_law_vector", "_law_letter"]) sc_tu (fun f fd F => F.bindsN fun _ _ _ _ _ _ us hl => match us, hl with | [_, _, _], _ => rfl) (fun vs H Q E h => ?_) (fun f0 cdv A outer s H vs Q E hr h => ?_)
  · obtain ⟨fl, vl, ks, X, v, a, rfl, _⟩ := h
    rfl
  · obtain ⟨fl, vl, ks, X, v, a, rfl, hf, hv, ain, q⟩ := h
    have hu := hu_of hr
    refine ⟨_, pss_cons (ps_set (i := 3) sc_tu.nd rfl (.inl rfl) (pe_bm PySem.F.plainAttrs_str PySem.F.slot_str_index PySem.F.type_str_index mt_sindex (pe_dget hu (pv 0) pe_str (fun _ _ => rfl)) (pa_cons (pv 2) pa_nil)))
      (pss_cons (ps_par (i := 4) (j := 5) (by rfl) sc_tu.nd rfl rfl (by decide) rfl rfl (pa_cons (pe_callTy call_list_of (by rfl) zi (by decide +kernel) (pa_cons (pv 1) pa_nil)) (pa_cons (pe_un un_neg (pe_ix ix_list (pv 1) (pv 3) (fun _ _ => rfl))) pa_nil)) (by rfl))
      (pss_cons (ps_for PassesOwn.never rfl (pi_range1 rfl zr (pa_cons (pe_callB call_len_seq (by rfl) zl PySem.boot_len (pa_cons (pv 1) pa_nil)) pa_nil)) (pg_name (i := 6) sc_tu.nd rfl (.inl rfl))
        (pss_one (ps_if (PW.pt (pw_and (pt_cmpR op_ne (pv 6) (pv 3) (nomark _)) (pw_and1 (pt_cmpR op_notIn_sign (pe_ix ix_str (pe_dget hu (pv 0) pe_str (fun _ _ => rfl)) (pv 6) (fun _ _ => rfl)) (pe_dget hu (pe_dget hu (pv 0) pe_str (fun _ _ => rfl)) (pv 2) (fun _ _ => rfl)) (by rfl)))))
          (pss_one (ps_set (i := 5) sc_tu.nd rfl (.inl rfl) (pe_op op_add (pv 5) (pe_op op_mul pe_int (pe_ix ix_list (pv 1) (pv 6) (fun _ _ => rfl)))))) pss_nil)))
      (pss_cons (ps_asg (pv 5) (pg_sub (pv 4) (pv 3) L2.set_list))
      (pss_one (ps_ret (pv 4)))))), ?_⟩
    obtain ⟨cd, f, h1, h2, h3⟩ := hf.ex
    have nd := nodup_up hf.up
    have cr := hf.cr
    have lk := hf.l8
    obtain ⟨i, hi⟩ := List.getElem?_of_mem ain
    have il := (List.getElem?_eq_some_iff.mp hi).1
    obtain ⟨rest, ho⟩ := idx_occ nd hi
    have lS : (S ks).length ≤ sizeLine := by rw [S_len]; exact len_line (by omega)
    have vat : atI (tupV ks v) ((i : Nat) : Int) = some (.int (v a)) := atI_nat (tupV_i hi)
    refine ⟨_, rfl, fl, _, rfl, get_fk h1, tyStr _, _, rfl, _, _, i, rest, rfl, rfl, ho, ?_⟩
    refine ⟨_, rfl, vl, _, rfl, .inl (SqL.of hv), fun g hg => ?_⟩
    have s1 := same_new (o := .lst (tupV ks v)) hg
    have gg : (upd H g (.lst (tupV ks v))) g = some (.lst (tupV ks v)) := upd_same
    have hv1 := s1 _ _ hv
    have h11 := s1 _ _ h1
    have h21 := s1 _ _ h2
    generalize (upd H g (.lst (tupV ks v))) = H1 at s1 gg hv1 h11 h21 ⊢
    refine ⟨_, rfl, _, rfl, vl, _, _, _, rfl, rfl, SqL.of hv1, vat, _, rfl, _, _, rfl, ?_⟩
    refine ⟨_, rfl, vl, _, rfl, .inl (SqL.of hv1), _, rfl, by rw [tupV_len]; omega, by rw [tupV_len]; omega, ?_⟩
    refine for_range (lo := 0) (n := (((tupV ks v).length : Nat) : Int).toNat) (fun j σ G => ∃ u6 : Option V, σ = [some (.ref fl), some (.ref vl), some (.str (S [a])), some (.int ((i : Nat) : Int)), some (.ref g), some (.int (-(v a) + 2 * farS ks X a v (ks.take j))), u6] ∧ G = H1)
      ⟨none, by rw [show farS ks X a v (ks.take 0) = 0 from rfl, Int.mul_zero, Int.add_zero]; rfl, rfl⟩ ?_ ?_
    · rintro j σ G hj ⟨u6, rfl, rfl⟩
      rw [tupV_len] at hj
      have hj' : j < ks.length := by omega
      have hb : ks[j]? = some ks[j] := List.getElem?_eq_getElem hj'
      generalize ks[j] = b at hb
      have bin := List.mem_of_getElem? hb
      have more := farS_more (X := X) (a := a) (v := v) hb
      have bat : atI ks (0 + (j : Int)) = some b := by rw [Int.zero_add]; exact atI_nat hb
      have vbt : atI (tupV ks v) (0 + (j : Int)) = some (.int (v b)) := by rw [Int.zero_add]; exact atI_nat (tupV_i hb)
      refine ⟨_, rfl, _, rfl, rfl, _, rfl, ?_⟩
      by_cases e : b = a
      · have eij : j = i := by subst e; exact idx_inj nd hb hi
        rw [show (!decide (V.int (0 + (j : Int)) = V.int ((i : Nat) : Int))) = false from by rw [eij]; simp]
        have eqn : farS ks X a v (ks.take (j + 1)) = farS ks X a v (ks.take j) := by rw [more, if_neg (by simp [e]), Int.add_zero]
        exact iteF (iteF ⟨some (.int (0 + (j : Int))), by rw [eqn]; rfl, rfl⟩)
      · have eij : j ≠ i := fun z => by subst z; rw [hb] at hi; exact e (Option.some.inj hi)
        rw [show (!decide (V.int (0 + (j : Int)) = V.int ((i : Nat) : Int))) = true from by
          rw [decide_eq_false (fun z => eij (by have := V.int.inj z; omega))]; rfl]
        refine iteT ?_
        refine ⟨_, rfl, fl, _, rfl, get_fk h11, _, rfl, _, _, b, rfl, rfl, lS, bat, _, rfl, fl, _, rfl, get_fc h11, _, rfl, cd, _, rfl, get_kv h21 ain, b, _, rfl, rfl, _, rfl, ?_⟩
        have ec : (!decide (b ∈ (S (f a)).cps.toList)) = !(X a b) := by
          congr 1
          rw [Bool.eq_iff_iff, decide_eq_true_iff]
          show b ∈ f a ↔ _
          rw [(h3 a ain).2 b]
          exact ⟨fun z => z.2, fun z => ⟨bin, z⟩⟩
        rw [ec]
        cases x : X a b with
        | true =>
          have eqn : farS ks X a v (ks.take (j + 1)) = farS ks X a v (ks.take j) := by rw [more, if_neg (by simp [x]), Int.add_zero]
          exact iteF ⟨some (.int (0 + (j : Int))), by rw [eqn]; rfl, rfl⟩
        | false =>
          have eqn : -(v a) + 2 * farS ks X a v (ks.take (j + 1)) = -(v a) + 2 * farS ks X a v (ks.take j) + 2 * v b := by rw [more, if_pos (by simp [e, x]), Int.mul_add, Int.add_assoc]
          exact iteT ⟨_, rfl, _, rfl, _, rfl, vl, _, _, _, rfl, rfl, SqL.of hv1, vbt, _, _, rfl, rfl, .inl ⟨by decide, by decide⟩, _, _, rfl, rfl, some (.int (0 + (j : Int))), by rw [eqn]; rfl, rfl⟩
    · rintro σ G ⟨u6, rfl, rfl⟩
      rw [tupV_len, show ((ks.length : Nat) : Int).toNat = ks.length from by omega, List.take_length]
      refine ⟨_, rfl, _, rfl, _, rfl, g, _, _, i, rfl, rfl, gg, ?_, ?_⟩
      · rw [tupV_len]
        unfold ixN
        rw [if_pos (by omega), if_pos (by omega), Int.toNat_natCast]
      · rw [tupV_set nd hi]
        refine ⟨_, rfl, q g _ upd_same fun b o e => ?_⟩
        rw [upd_ne (ne_of_none e hg)]
        exact s1 _ _ e
end
end TX
end
section
set_option maxRecDepth 100000
set_option maxHeartbeats 8000000
/-! the plain table; which text is least -/
namespace TX
open PySem PySem.Spec PyProof.Rows L2 SX CW
def spPlain : Sp := fun vs H Q _ => ∃ (t : Addr) (ks : List Nat) (X : Nat → Nat → Bool), vs = [.ref t] ∧ TabAt H t ks X ∧
  ∀ (r : Addr) (H' : Hp), TabAt H' r ks zeroX → L2.Same H H' → Q (.ref r) H'
def spLeast : Sp := fun vs H Q _ => ∃ (t : Addr) (ks : List Nat) (X : Nat → Nat → Bool) (v : List Nat), vs = [.ref t, .str (S v)] ∧ TabAt H t ks X ∧ (∀ k ∈ v, k ∈ ks) ∧ v.length ≤ 100000 ∧ Q (.bl (isName X v)) H
theorem merge_kv (ks : List Nat) (nd : ks.Nodup) (f : Nat → List Nat) : mergeK [] (kvK ks f) = kvK ks f := by
  have gen : ∀ i, i ≤ ks.length → mergeK [] (kvK (ks.take i) f) = kvK (ks.take i) f := by
    intro i
    induction i with
    | zero => exact fun _ => rfl
    | succ i ih =>
      intro hi
      have e : ks[i]? = some ks[i] := List.getElem?_eq_getElem hi
      have e1 : kvK (ks.take (i + 1)) f = kvK (ks.take i) f ++ [(Sum.inr (S [ks[i]]), V.str (S (f ks[i])))] := by
        unfold kvK
        rw [take_one e, List.map_append]
        rfl
      have e2 := kvK_more (f := f) e nd
      rw [← e2]
      have h := ih (by omega)
      rw [e2, e1]
      unfold mergeK at h ⊢
      rw [List.foldl_append, h]
      show putK (kvK (ks.take i) f) (Sum.inr (S [ks[i]])) (V.str (S (f ks[i]))) = _
      rw [e2, e1]
  have := gen ks.length (Nat.le_refl _)
  rw [List.take_length] at this
  exact this
theorem name_bar {X : Nat → Nat → Bool} {v : List Nat} {i o : Nat} (ho : v[i]? = some o) (h : bar X (v.take i).reverse o = true) : isName X v = false := by
  cases e : isName X v with
  | false => rfl
  | true =>
    have z := isName_take (i := i + 1) e
    rw [take_one ho, isName_snoc, h] at z
    cases z
section
variable {P : Program} {w : World} {K : PySem.W.Frag} {mg : Str → Option Value} {base : Heap}
end
end TX
end
section
set_option maxRecDepth 100000
set_option maxHeartbeats 8000000
/-! roots, what is beyond them, halves told by them -/
namespace TX
open PySem PySem.Spec PyProof.Rows L2 SX CW
/-- the root of the wall behind a door, and what is beyond it -/
def anyNeg (ks : List Nat) (v : Vec) : Bool := ks.any fun j => decide (v j < 0)
def spRoot : Sp := fun vs H Q _ => ∃ (fl : Addr) (ks : List Nat) (X : Nat → Nat → Bool) (w : List Nat) (k : Nat), vs = [.ref fl, .str (S w), .str (S [k])] ∧ FlAt H fl ks X ∧ (∀ c ∈ w, c ∈ ks) ∧ k ∈ ks ∧ w.length ≤ 1000 ∧
  ∀ (r : Addr) (H' : Hp), H' r = some (.lst (tupV ks (posV ks (mr X w.reverse k)))) → L2.Same H H' → Q (.ref r) H'
def spBeyN : Sp := fun vs H Q _ => ∃ (fl bl : Addr) (ks : List Nat) (X : Nat → Nat → Bool) (l0 w : List Nat) (k : Nat), vs = [.ref fl, .ref bl, .str (S w)] ∧ FlAt H fl ks X ∧ H bl = some (.lst (tupV ks (mr X l0 k))) ∧ (∀ c ∈ l0, c ∈ ks) ∧ (∀ c ∈ w, c ∈ ks) ∧ k ∈ ks ∧ w.length ≤ 1000 ∧
  ∀ H', L2.Same H H' → Q (.bl (anyNeg ks (mr X (l0 ++ w) k))) H'
def hkv (w : List Nat) (k : Nat) (sd : Bool) (rl : Addr) : List (Key × V) := [(Sum.inr "way", .str (S w)), (Sum.inr "kind", .str (S [k])), (Sum.inr "side", .bl sd), (Sum.inr "root", .ref rl)]
structure HfAt (H : Hp) (hd : Addr) (ks : List Nat) (w : List Nat) (k : Nat) (sd : Bool) (v : Vec) : Prop where
  ex : ∃ rl, H hd = some (.dK (hkv w k sd rl)) ∧ H rl = some (.lst (tupV ks v))
theorem HfAt.same {H H' : Hp} {hd : Addr} {ks w : List Nat} {k : Nat} {sd : Bool} {v : Vec} (h : HfAt H hd ks w k sd v) (s : L2.Same H H') : HfAt H' hd ks w k sd v := by
  obtain ⟨rl, h1, h2⟩ := h.ex
  exact ⟨rl, s _ _ h1, s _ _ h2⟩
theorem hk1 : ¬ ((Sum.inr ("way" : Str) : Key) = Sum.inr ("kind" : Str)) := by decide +kernel
theorem hk2 : ¬ ((Sum.inr ("way" : Str) : Key) = Sum.inr ("side" : Str)) := by decide +kernel
theorem hk3 : ¬ ((Sum.inr ("way" : Str) : Key) = Sum.inr ("root" : Str)) := by decide +kernel
theorem hk4 : ¬ ((Sum.inr ("kind" : Str) : Key) = Sum.inr ("side" : Str)) := by decide +kernel
theorem hk5 : ¬ ((Sum.inr ("kind" : Str) : Key) = Sum.inr ("root" : Str)) := by decide +kernel
theorem hk6 : ¬ ((Sum.inr ("side" : Str) : Key) = Sum.inr ("root" : Str)) := by decide +kernel
theorem get_hw {G : Hp} {hd rl : Addr} {w : List Nat} {k : Nat} {sd : Bool} (h : G hd = some (.dK (hkv w k sd rl))) : DGet G hd (.str "way") (some (.str (S w))) := by
  have z := DGet.k (k := Sum.inr "way") h
  unfold hkv at z
  rw [valV_cons, if_pos rfl] at z
  exact z
theorem get_hk {G : Hp} {hd rl : Addr} {w : List Nat} {k : Nat} {sd : Bool} (h : G hd = some (.dK (hkv w k sd rl))) : DGet G hd (.str "kind") (some (.str (S [k]))) := by
  have z := DGet.k (k := Sum.inr "kind") h
  unfold hkv at z
  rw [valV_cons, if_neg hk1, valV_cons, if_pos rfl] at z
  exact z
theorem get_hs {G : Hp} {hd rl : Addr} {w : List Nat} {k : Nat} {sd : Bool} (h : G hd = some (.dK (hkv w k sd rl))) : DGet G hd (.str "side") (some (.bl sd)) := by
  have z := DGet.k (k := Sum.inr "side") h
  unfold hkv at z
  rw [valV_cons, if_neg hk2, valV_cons, if_neg hk4, valV_cons, if_pos rfl] at z
  exact z
theorem get_hr {G : Hp} {hd rl : Addr} {w : List Nat} {k : Nat} {sd : Bool} (h : G hd = some (.dK (hkv w k sd rl))) : DGet G hd (.str "root") (some (.ref rl)) := by
  have z := DGet.k (k := Sum.inr "root") h
  unfold hkv at z
  rw [valV_cons, if_neg hk3, valV_cons, if_neg hk5, valV_cons, if_neg hk6, valV_cons, if_pos rfl] at z
  exact z
theorem hkv_ne (w : List Nat) (k : Nat) (sd : Bool) (rl c : Addr) (pl r : Int) : (.dK (hkv w k sd rl) : HO) ≠ .dK (pkv c pl r) := fun e => by
  have e2 := congrArg List.length (HO.dK.inj e)
  exact absurd e2 (by unfold hkv pkv; simp)
theorem HfAt.pen {H H' : Hp} {p c hd : Addr} {m : Nat} {ks w : List Nat} {k : Nat} {sd : Bool} {v : Vec} (h : HfAt H hd ks w k sd v) (hp : PenAt H p c m) (b : But p H H') : HfAt H' hd ks w k sd v := by
  obtain ⟨rl, h1, h2⟩ := h.ex
  exact ⟨rl, b _ _ (pen_ne hp h1 (hkv_ne _ _ _ _)) h1, b _ _ (pen_ne hp h2 fun _ _ _ z => by cases z) h2⟩
theorem merge_hk (w : List Nat) (k : Nat) (sd : Bool) (rl : Addr) : mergeK [] (hkv w k sd rl) = hkv w k sd rl := by
  have k1 := hk1
  have k2 := hk2
  have k3 := hk3
  have k4 := hk4
  have k5 := hk5
  have k6 := hk6
  unfold mergeK hkv
  simp only [List.foldl_cons, List.foldl_nil]
  unfold putK
  simp only [List.any_nil, List.any_cons, List.nil_append, if_false, decide_eq_false k1, decide_eq_false k2, decide_eq_false k3, decide_eq_false k4, decide_eq_false k5, decide_eq_false k6, Bool.or_false, Bool.or_self, List.cons_append]
  rfl
theorem tup_ints (ks : List Nat) (v : Vec) : tupV ks v = (ks.map v).map V.int := by
  unfold tupV
  rw [List.map_map]
  rfl
theorem any_min {ks : List Nat} {v : Vec} {mn : Int} (h : mn ∈ ks.map v) (le : ∀ x ∈ ks.map v, mn ≤ x) : decide (mn < 0) = anyNeg ks v := by
  unfold anyNeg
  rw [Bool.eq_iff_iff, decide_eq_true_iff, List.any_eq_true]
  constructor
  · intro lt
    obtain ⟨j, hj, e⟩ := List.mem_map.mp h
    exact ⟨j, hj, decide_eq_true (by rw [e]; exact lt)⟩
  · rintro ⟨j, hj, lt⟩
    have := le _ (List.mem_map.mpr ⟨j, hj, rfl⟩)
    have := of_decide_eq_true lt
    omega
abbrev nRo : List Str := ["_law_floor", "_law_way", "_law_kind", "_law_vector", "_law_letter", "_law_other", "_law_part"]
theorem sc_ro : FnScope nRo ["_law_floor", "_law_way", "_law_kind"] (defScope s_law_root_of) := ⟨rfl, rfl, rfl, by decide +kernel, rfl, by decide +kernel, by decide +kernel⟩
abbrev nBy : List Str := ["_law_floor", "_law_beam", "_law_way", "_law_vector", "_law_letter", "_law_part"]
theorem sc_by : FnScope nBy ["_law_floor", "_law_beam", "_law_way"] (defScope s_law_is_beyond) := ⟨rfl, rfl, rfl, by decide +kernel, rfl, by decide +kernel, by decide +kernel⟩
section
variable {P : Program} {w : World} {K : PySem.W.Frag} {mg : Str → Option Value} {base : Heap} {C : Addr}
theorem ok_rootN (F : D K mg "_law_root_of" s_law_root_of []) (cT : C8.Cal P w K mg base 1 "_law_turned" spTurn []) (zm : mg "min" = none) (zi : mg "int" = none) : C8.Cal P w K mg base 2 "_law_root_of" spRoot [] := by
  refine F.cal (ps := ["_law_floor", "_law_way", "_law_kind"]) sc_ro (fun f fd F => F.bindsN fun _ _ _ _ _ _ us hl => match us, hl with | [_, _, _], _ => rfl) (fun vs H Q E h => ?_) (fun f0 cdv A outer s H vs Q E hr h => ?_)
  · obtain ⟨fl, ks, X, v, k, rfl, _⟩ := h
    rfl
  · obtain ⟨fl, ks, X, v, k, rfl, hf, kv, kin, lv, q⟩ := h
    have hu := hu_of hr
    refine ⟨_, pss_cons (ps_setLc (i := 3) (own := [("_law_other", 5)]) (g := gName 5) rfl sc_ro.nd rfl rfl (sw_true rfl rfl rfl (by decide +kernel)) (pi_str (pe_dget hu (pv 0) pe_str (fun _ _ => rfl))) (blkOk_by (own := [("_law_other", 5)]) (N := nRo) (sc := defScope s_law_root_of) (by decide +kernel))
        (fun _ _ _ _ _ => pg_name (i := 5) sc_ro.nd rfl (.inl rfl)) (fun _ _ _ _ _ => pts_nil) (fun _ _ _ _ _ => pe_callTy call_int1 (by rfl) zi (by decide +kernel) (pa_cons (pe_cmpR op_eq (pv 5) (pv 2) (nomark _)) pa_nil)))
      (pss_cons (ps_for PassesOwn.never rfl (pi_str (pe_revS (pv 1) (pe_un un_neg pe_int))) (pg_name (i := 4) sc_ro.nd rfl (.inl rfl))
        (pss_one (ps_set (i := 3) sc_ro.nd rfl (.inl rfl) (C8.pe_c cT hr (by decide) (by rfl) (pa_cons (pv 0) (pa_cons (pv 3) (pa_cons (pv 4) pa_nil)))))))
      (pss_cons (ps_if (pt_cmpR op_lt (pe_callB (r := rMin K) (cr_min rfl) (by rfl) zm (show bootBuiltins "min" = some (.builtin "min") from by decide +kernel) (pa_cons
          (pe_lc (own := [("_law_part", 6)]) (g := gName 6) rfl sc_ro.nd (pi_list (pv 3)) (blkOk_by (own := [("_law_part", 6)]) (N := nRo) (sc := defScope s_law_root_of) (by decide +kernel))
            (fun _ _ _ _ _ => pg_name (i := 6) sc_ro.nd rfl (.inl rfl)) (fun _ _ _ _ _ => pts_nil) (fun _ _ _ _ _ => pe_callTy call_int1 (by rfl) zi (by decide +kernel) (pa_cons (pv 6) pa_nil))) pa_nil)) pe_int (nomark _))
        (pss_one (ps_ret (pe_lc (own := [("_law_part", 6)]) (g := gName 6) rfl sc_ro.nd (pi_list (pv 3)) (blkOk_by (own := [("_law_part", 6)]) (N := nRo) (sc := defScope s_law_root_of) (by decide +kernel))
            (fun _ _ _ _ _ => pg_name (i := 6) sc_ro.nd rfl (.inl rfl)) (fun _ _ _ _ _ => pts_nil) (fun _ _ _ _ _ => pe_un un_neg (pv 6))))) pss_nil)
      (pss_one (ps_ret (pv 3))))), ?_⟩
    obtain ⟨cd, f, h1, h2, h3⟩ := hf.ex
    have nd := nodup_up hf.up
    have cr := hf.cr
    have lk := hf.l8
    refine ⟨_, rfl, fl, _, rfl, get_fk h1, _, rfl, fun D hD => ?_⟩
    refine lc_it walk_str (fun j G => G D = some (.lst (tupV (ks.take j) (unitV k))) ∧ L2.Same H G) ⟨upd_same, same_new hD⟩ (fun _ _ _ _ => trivial) ?_ ?_
    · rintro j x G G2 hj ⟨g, sm⟩ ⟨rfl, c, hc, rfl⟩
      have hc' := getS hc
      rw [sizeS] at hj
      refine ⟨rfl, _, rfl, _, rfl, rfl, .inr ⟨_, rfl, ?_⟩⟩
      refine ⟨_, g, by rw [tupV_len, List.length_take]; exact len_lt (by omega), ?_, fun b o e => by rw [upd_ne (ne_of_none e hD)]; exact sm _ _ e⟩
      have eu : (if decide (V.str (⟨#[c]⟩ : Str) = V.str (S [k])) = true then (1 : Int) else 0) = unitV k c := by
        show (if decide (V.str (S [c]) = V.str (S [k])) = true then (1 : Int) else 0) = if k = c then 1 else 0
        by_cases e : k = c
        · rw [e, if_pos (decide_eq_true rfl), if_pos rfl]
        · rw [if_neg e, decide_eq_false (fun z => e ((List.cons.inj (S_inj (V.str.inj z))).1).symm)]
          rfl
      rw [eu, upd_same, tupV_more hc']
    rintro G1 ⟨g1, s1⟩
    rw [sizeS, List.take_length] at g1
    have lr : v.reverse.length = v.length := List.length_reverse
    refine ⟨_, rfl, v, rfl, by omega, _, rfl, ?_⟩
    refine for_it walk_str (fun i σ G => ∃ (va : Addr) (u4 : Option V), σ = [some (.ref fl), some (.str (S v)), some (.str (S [k])), some (.ref va), u4, none, none] ∧ G va = some (.lst (tupV ks (mr X (v.reverse.take i) k))) ∧ (∀ b o, H b = some o → G b = some o)) ⟨D, none, rfl, g1, s1⟩ (fun _ _ _ _ _ => trivial) ?_ ?_
    · rintro i x σ G G2 hi ⟨va, u4, rfl, gv, sm⟩ ⟨rfl, a, ha, rfl⟩
      have ha' := getS ha
      have ain : a ∈ ks := kv a (List.mem_reverse.mp (List.mem_of_getElem? ha'))
      refine ⟨_, rfl, _, rfl, _, rfl, fl, va, ks, X, _, a, rfl, hf.same sm, gv, ain, fun r G3 gr s3 => ⟨r, _, rfl, ?_, fun b o e => s3 _ _ (sm _ _ e)⟩⟩
      rw [gr, take_one ha']
      congr 2
      exact tupV_congr fun j hj => (rf_mr cr nd kin ain (fun c hc => kv c (List.mem_reverse.mp (List.mem_of_mem_take hc))) hj).symm
    rintro σ G ⟨va, u4, rfl, gv, sm⟩
    rw [sizeS, List.take_length] at gv
    have l0 : 0 < ks.length := List.length_pos_of_mem kin
    refine ⟨_, rfl, va, rfl, ⟨_, SqL.of gv⟩, fun D2 hD2 => ?_⟩
    refine lc_it (walk_list (K := K) (a := va) (xs := tupV ks (mr X v.reverse k))) (fun j G1 => G1 D2 = some (.lst (tupV (ks.take j) (mr X v.reverse k))) ∧ L2.Same G G1) ⟨upd_same, same_new hD2⟩ (fun j G1 _ z => z.2.seq (SqL.of gv)) ?_ ?_
    · rintro j x2 G1 G3 hj ⟨hl1, sm1⟩ ⟨rfl, hx2⟩
      obtain ⟨c2, hc2, rfl⟩ := tupV_idx hx2
      rw [tupV_len] at hj
      refine ⟨rfl, _, rfl, .inl ⟨_, rfl, _, hl1, (by rw [tupV_len, List.length_take]; exact len_lt (by omega)), ?_, fun b o e => ?_⟩⟩
      · rw [upd_same, tupV_more hc2]
      · rw [upd_ne (ne_of_none e hD2)]
        exact sm1 b o e
    rintro G1 ⟨hl1, sm1⟩
    rw [tupV_len, List.take_length, tup_ints] at hl1
    refine ⟨D2, ks.map (mr X v.reverse k), rfl, SqL.of hl1, by rw [List.length_map]; exact l0, fun mn hmn hle => ⟨_, _, rfl, rfl, _, rfl, ?_⟩⟩
    rw [any_min hmn hle]
    have gv1 := sm1 _ _ gv
    have sH : ∀ b o, H b = some o → G1 b = some o := fun b o e => sm1 _ _ (sm _ _ e)
    cases e : anyNeg ks (mr X v.reverse k) with
    | false =>
      refine iteF ⟨_, rfl, q va G1 ?_ sH⟩
      rw [gv1]
      congr 2
      unfold posV
      unfold anyNeg at e
      rw [if_neg (by rw [e]; decide)]
    | true =>
      refine iteT ⟨_, rfl, va, rfl, ⟨_, SqL.of gv1⟩, fun D3 hD3 => ?_⟩
      refine lc_it (walk_list (K := K) (a := va) (xs := tupV ks (mr X v.reverse k))) (fun j G2 => G2 D3 = some (.lst (tupV (ks.take j) fun i => -(mr X v.reverse k i))) ∧ L2.Same G1 G2) ⟨upd_same, same_new hD3⟩ (fun j G2 _ z => z.2.seq (SqL.of gv1)) ?_ ?_
      · rintro j x2 G2 G3 hj ⟨hl2, sm2⟩ ⟨rfl, hx2⟩
        obtain ⟨c2, hc2, rfl⟩ := tupV_idx hx2
        rw [tupV_len] at hj
        refine ⟨rfl, _, rfl, _, rfl, _, hl2, (by rw [tupV_len, List.length_take]; exact len_lt (by omega)), ?_, fun b o e => ?_⟩
        · rw [upd_same, tupV_more hc2]
        · rw [upd_ne (ne_of_none e hD3)]
          exact sm2 b o e
      · rintro G2 ⟨hl2, sm2⟩
        rw [tupV_len, List.take_length] at hl2
        refine q D3 G2 ?_ fun b o e => sm2 _ _ (sH _ _ e)
        rw [hl2]
        congr 2
        unfold posV
        unfold anyNeg at e
        rw [if_pos e]
theorem ok_beyN (F : D K mg "_law_is_beyond" s_law_is_beyond []) (cT : C8.Cal P w K mg base 1 "_law_turned" spTurn []) (zm : mg "min" = none) (zi : mg "int" = none) (zl : mg "list" = none) : C8.Cal P w K mg base 2 "_law_is_beyond" spBeyN [] := by
  refine F.cal (ps := ["_law_floor", "_law_beam", "_law_way"]) sc_by (fun f fd F => F.bindsN fun _ _ _ _ _ _ us hl => match us, hl with | [_, _, _], _ => rfl) (fun vs H Q E h => ?_) (fun f0 cdv A outer s H vs Q E hr h => ?_)
  · obtain ⟨fl, bl, ks, X, l0, v, k, rfl, _⟩ := h
    rfl
  · obtain ⟨fl, bl, ks, X, l0, v, k, rfl, hf, hb, kl, kv, kin, lv, q⟩ := h
    refine ⟨_, pss_cons (ps_set (i := 3) sc_by.nd rfl (.inl rfl) (pe_callTy call_list_of (by rfl) zl (by decide +kernel) (pa_cons (pv 1) pa_nil)))
      (pss_cons (ps_for PassesOwn.never rfl (pi_str (pv 2)) (pg_name (i := 4) sc_by.nd rfl (.inl rfl))
        (pss_one (ps_set (i := 3) sc_by.nd rfl (.inl rfl) (C8.pe_c cT hr (by decide) (by rfl) (pa_cons (pv 0) (pa_cons (pv 3) (pa_cons (pv 4) pa_nil)))))))
      (pss_one (ps_ret (pe_cmpR op_lt (pe_callB (r := rMin K) (cr_min rfl) (by rfl) zm (show bootBuiltins "min" = some (.builtin "min") from by decide +kernel) (pa_cons
          (pe_lc (own := [("_law_part", 5)]) (g := gName 5) rfl sc_by.nd (pi_list (pv 3)) (blkOk_by (own := [("_law_part", 5)]) (N := nBy) (sc := defScope s_law_is_beyond) (by decide +kernel))
            (fun _ _ _ _ _ => pg_name (i := 5) sc_by.nd rfl (.inl rfl)) (fun _ _ _ _ _ => pts_nil) (fun _ _ _ _ _ => pe_callTy call_int1 (by rfl) zi (by decide +kernel) (pa_cons (pv 5) pa_nil))) pa_nil)) pe_int (nomark _))))), ?_⟩
    have nd := nodup_up hf.up
    have cr := hf.cr
    have lk := hf.l8
    refine ⟨_, rfl, bl, _, rfl, .inl (SqL.of hb), fun D hD => ?_⟩
    have s1 := same_new (o := .lst (tupV ks (mr X l0 k))) hD
    have g1 : (upd H D (.lst (tupV ks (mr X l0 k)))) D = some (.lst (tupV ks (mr X (l0 ++ v.take 0) k))) := by rw [upd_same, List.take_zero, List.append_nil]
    generalize (upd H D (.lst (tupV ks (mr X l0 k)))) = H1 at s1 g1 ⊢
    refine ⟨_, rfl, _, rfl, ?_⟩
    refine for_it walk_str (fun i σ G => ∃ (va : Addr) (u4 : Option V), σ = [some (.ref fl), some (.ref bl), some (.str (S v)), some (.ref va), u4, none] ∧ G va = some (.lst (tupV ks (mr X (l0 ++ v.take i) k))) ∧ (∀ b o, H b = some o → G b = some o)) ⟨D, none, rfl, g1, s1⟩ (fun _ _ _ _ _ => trivial) ?_ ?_
    · rintro i x σ G G2 hi ⟨va, u4, rfl, gv, sm⟩ ⟨rfl, a, ha, rfl⟩
      have ha' := getS ha
      have ain : a ∈ ks := kv a (List.mem_of_getElem? ha')
      refine ⟨_, rfl, _, rfl, _, rfl, fl, va, ks, X, _, a, rfl, hf.same sm, gv, ain, fun r G3 gr s3 => ⟨r, _, rfl, ?_, fun b o e => s3 _ _ (sm _ _ e)⟩⟩
      rw [gr, take_one ha', ← List.append_assoc]
      congr 2
      exact tupV_congr fun j hj => (rf_mr cr nd kin ain (fun c hc => (List.mem_append.mp hc).elim (kl c) fun z => kv c (List.mem_of_mem_take z)) hj).symm
    rintro σ G ⟨va, u4, rfl, gv, sm⟩
    rw [sizeS, List.take_length] at gv
    have l0' : 0 < ks.length := List.length_pos_of_mem kin
    refine ⟨_, rfl, va, rfl, ⟨_, SqL.of gv⟩, fun D2 hD2 => ?_⟩
    refine lc_it (walk_list (K := K) (a := va) (xs := tupV ks (mr X (l0 ++ v) k))) (fun j G1 => G1 D2 = some (.lst (tupV (ks.take j) (mr X (l0 ++ v) k))) ∧ L2.Same G G1) ⟨upd_same, same_new hD2⟩ (fun j G1 _ z => z.2.seq (SqL.of gv)) ?_ ?_
    · rintro j x2 G1 G3 hj ⟨hl1, sm1⟩ ⟨rfl, hx2⟩
      obtain ⟨c2, hc2, rfl⟩ := tupV_idx hx2
      rw [tupV_len] at hj
      refine ⟨rfl, _, rfl, .inl ⟨_, rfl, _, hl1, (by rw [tupV_len, List.length_take]; exact len_lt (by omega)), ?_, fun b o e => ?_⟩⟩
      · rw [upd_same, tupV_more hc2]
      · rw [upd_ne (ne_of_none e hD2)]
        exact sm1 b o e
    rintro G1 ⟨hl1, sm1⟩
    rw [tupV_len, List.take_length, tup_ints] at hl1
    refine ⟨D2, ks.map (mr X (l0 ++ v) k), rfl, SqL.of hl1, by rw [List.length_map]; exact l0', fun mn hmn hle => ⟨_, _, rfl, rfl, ?_⟩⟩
    show Q (.bl (decide (mn < 0))) G1
    rw [any_min hmn hle]
    exact q G1 fun b o e => sm1 _ _ (sm _ _ e)
end
end TX
end
section
set_option maxRecDepth 100000
set_option maxHeartbeats 4000000
/-! halves: is_in, beyond and the law's own reckoning agree -/
namespace TX
open CW
section
variable {ks : List Nat} {X : Nat → Nat → Bool}
theorem sum_scale (s : Int) {f g : Nat → Int} (h : ∀ i, f i = s * g i) : ∀ l : List Nat, (l.map f).sum = s * (l.map g).sum
  | [] => by simp
  | i :: l => by
    rw [List.map_cons, List.sum_cons, List.map_cons, List.sum_cons, sum_scale s h l, h i, Int.mul_add]
theorem anyNeg_iff {v : Vec} : anyNeg ks v = true ↔ ∃ j ∈ ks, v j < 0 := by
  unfold anyNeg
  rw [List.any_eq_true]
  exact ⟨fun ⟨j, a, b⟩ => ⟨j, a, of_decide_eq_true b⟩, fun ⟨j, a, b⟩ => ⟨j, a, decide_eq_true b⟩⟩
theorem rd_neg (cr : Crossing X) {r : List Nat} {k : Nat} (h : red X r = true) (hk : k ∈ ks) : rd X r k = anyNeg ks (mr X r k) := by
  rw [Bool.eq_iff_iff, ← back_iff cr h hk, anyNeg_iff]
theorem inH_neg (cr : Crossing X) {u n : List Nat} {d : Nat} (hu : ∀ c ∈ u, c ∈ ks) (hn : ∀ c ∈ n, c ∈ ks) (hd : d ∈ ks) : inH ks X u d n = anyNeg ks (mr X (u.reverse ++ n) d) := by
  have ir : ∀ c ∈ n.reverse ++ u, c ∈ ks := fun c hc => (List.mem_append.mp hc).elim (fun z => hn c (List.mem_reverse.mp z)) (hu c)
  have nf := fol_name (ks := ks) cr (n.reverse ++ u) [] (fun c h => by cases h) ir rfl
  unfold inH
  rw [rd_neg cr (name_red nf.1) hd, ← mr_revs cr, List.reverse_append, List.reverse_reverse]
theorem bey_neg (cr : Crossing X) {u n : List Nat} {d : Nat} (hu : ∀ c ∈ u, c ∈ ks) (un : isName X u = true) (hn : ∀ c ∈ n, c ∈ ks) (hd : d ∈ ks) : rd X (fol ks X u.reverse n) d = anyNeg ks (mr X (u.reverse ++ n) d) := by
  rw [rd_neg cr (fol_red cr n u.reverse (fun c h => hu c (List.mem_reverse.mp h)) hn (name_red un)) hd, mr_fol0 cr]
theorem mr_room (cr : Crossing X) (l w : List Nat) : mr X (l ++ fol ks X [] w) = mr X (l ++ w) := by
  have z := mr_app (X := X) (t := fol ks X [] w) (t' := w) (by rw [mr_fol0 cr, List.nil_append]) l
  exact z
theorem neg_unit {d : Nat} (hd : d ∈ ks) (s : Int) : anyNeg ks (fun j => s * unitV d j) = decide (s < 0) := by
  rw [Bool.eq_iff_iff, anyNeg_iff, decide_eq_true_iff]
  constructor
  · rintro ⟨j, _, lt⟩
    by_cases e : d = j
    · rw [show unitV d j = 1 from if_pos e] at lt
      omega
    · rw [show unitV d j = 0 from if_neg e] at lt
      omega
  · intro lt
    exact ⟨d, hd, by rw [show unitV d d = 1 from if_pos rfl]; omega⟩
theorem anyNeg_congr {v w : Vec} (h : ∀ j, v j = w j) : anyNeg ks v = anyNeg ks w := by
  rw [show v = w from funext h]
/-- the two rooms at a door lie on two sides of its wall -/
theorem two_sides (cr : Crossing X) (nd : ks.Nodup) {n : List Nat} {d : Nat} (hn : ∀ c ∈ n, c ∈ ks) (hd : d ∈ ks) :
    anyNeg ks (mr X ((toD ks X n d).reverse ++ beh ks X n d) d) = !anyNeg ks (mr X ((toD ks X n d).reverse ++ n) d) := by
  have hu : ∀ c ∈ (toD ks X n d).reverse, c ∈ ks := fun c h => toD_in hn c (List.mem_reverse.mp h)
  have hr : ∀ c ∈ n.reverse, c ∈ ks := fun c h => hn c (List.mem_reverse.mp h)
  have e1 : mr X ((toD ks X n d).reverse ++ beh ks X n d) = mr X ((toD ks X n d).reverse ++ (n ++ [d])) := by
    refine mr_app ?_ _
    have z := mr_beh (ks := ks) cr n d []
    rw [List.append_nil] at z
    exact z
  have b1 : mr X (n.reverse ++ n) d = unitV d := by
    have z := mr_back (X := X) [] n.reverse
    rw [List.reverse_reverse, List.append_nil] at z
    rw [z]
    rfl
  have b2 : mr X (n.reverse ++ (n ++ [d])) d = fun j => -(unitV d j) := by
    have z := mr_back (X := X) [d] n.reverse
    rw [List.reverse_reverse] at z
    rw [z]
    funext j
    show (if d = d then -(unitV d j) else _) = _
    rw [if_pos rfl]
  have sc : ∀ (s : Int) (t : List Nat), (∀ j, mr X (toD ks X n d).reverse d j = s * mr X n.reverse d j) → ∀ j, mr X ((toD ks X n d).reverse ++ t) d j = s * mr X (n.reverse ++ t) d j := fun s t e j => by
    rw [mr_lin nd t _ d hd hu j, mr_lin nd t _ d hd hr j]
    exact sum_scale s (fun i => by rw [e i, Int.mul_assoc]) ks
  rw [e1]
  rcases toD_vec (ks := ks) cr n d with e | e
  · have q := fun t => sc 1 t fun j => by rw [e j, Int.one_mul]
    rw [anyNeg_congr (q (n ++ [d])), anyNeg_congr (q n), b1, b2]
    rw [anyNeg_congr (w := fun j => (-1) * unitV d j) (fun j => by dsimp only; omega), neg_unit hd, neg_unit hd]
    rfl
  · have q := fun t => sc (-1) t fun j => by rw [e j]; omega
    rw [anyNeg_congr (q (n ++ [d])), anyNeg_congr (q n), b1, b2]
    rw [anyNeg_congr (w := fun j => 1 * unitV d j) (fun j => by dsimp only; omega), neg_unit hd, neg_unit hd]
    rfl
/-- letters that cross a kind leave the vector of its door -/
theorem mr_partners {d : Nat} : ∀ (t r : List Nat), (∀ c ∈ t, X c d = true) → (∀ c ∈ t, d ≠ c) → mr X (t ++ r) d = mr X r d
  | [], _, _, _ => rfl
  | c :: t, r, h, ne => by
    have ih := mr_partners t r (fun a ha => h a (List.mem_cons_of_mem _ ha)) (fun a ha => ne a (List.mem_cons_of_mem _ ha))
    rw [← ih]
    funext j
    show (if d = c then _ else if X c d = true then mr X (t ++ r) d j else _) = _
    rw [if_neg (ne c List.mem_cons_self), if_pos (h c List.mem_cons_self)]
/-- the wall behind a way that goes on along it -/
theorem twin_wall (cr : Crossing X) (nd : ks.Nodup) {w t : List Nat} {d : Nat} (hd : d ∈ ks) (hw : ∀ c ∈ w, c ∈ ks) (ht : ∀ c ∈ t, c ∈ ks) (hx : ∀ c ∈ t, X d c = true) : toD ks X (fol ks X [] (w ++ t)) d = toD ks X (fol ks X [] w) d := by
  have hwt : ∀ c ∈ w ++ t, c ∈ ks := fun c hc => (List.mem_append.mp hc).elim (hw c) (ht c)
  have n1 := fol_name (ks := ks) cr (w ++ t) [] (fun c h => by cases h) hwt rfl
  have n2 := fol_name (ks := ks) cr w [] (fun c h => by cases h) hw rfl
  rw [wall_iff cr nd hd n1.1 n2.1 n1.2 n2.2]
  intro j _
  rw [← mr_revs cr, ← mr_revs cr, List.reverse_append, mr_partners]
  · intro c hc
    rw [cr.sym]
    exact hx c (List.mem_reverse.mp hc)
  · intro c hc
    exact cr.ne (hx c (List.mem_reverse.mp hc))
/-- what the law reckons of a way, and what the halves say of its room -/
theorem root_toD (cr : Crossing X) {w : List Nat} {d : Nat} (hw : ∀ c ∈ w, c ∈ ks) (hd : d ∈ ks) : posV ks (mr X w.reverse d) = mr X (toD ks X (fol ks X [] w) d).reverse d := by
  have n2 := fol_name (ks := ks) cr w [] (fun c h => by cases h) hw rfl
  rw [mr_revs (ks := ks) cr w, posV_toD cr n2.1 hd]
end
end TX
end
section
set_option maxRecDepth 100000
set_option maxHeartbeats 8000000
/-! halves told by roots; the floor of which no kinds cross -/
namespace TX
open PySem PySem.Spec PyProof.Rows L2 SX CW
def spHalfN : Sp := fun vs H Q _ => ∃ (fl : Addr) (ks : List Nat) (X : Nat → Nat → Bool) (w : List Nat) (k : Nat) (sd : Bool), vs = [.ref fl, .str (S w), .str (S [k]), .bl sd] ∧ FlAt H fl ks X ∧ (∀ c ∈ w, c ∈ ks) ∧ k ∈ ks ∧ w.length ≤ 1000 ∧
  ∀ (hd : Addr) (H' : Hp), HfAt H' hd ks w k sd (posV ks (mr X w.reverse k)) → L2.Same H H' → Q (.ref hd) H'
def spHasN : Sp := fun vs H Q _ => ∃ (fl hd : Addr) (ks : List Nat) (X : Nat → Nat → Bool) (w w2 l0 : List Nat) (k : Nat) (sd : Bool) (v : Vec), vs = [.ref fl, .ref hd, .str (S w2)] ∧ FlAt H fl ks X ∧ HfAt H hd ks w k sd v ∧ (∀ j ∈ ks, v j = mr X l0 k j) ∧ (∀ c ∈ l0, c ∈ ks) ∧ (∀ c ∈ w2, c ∈ ks) ∧ k ∈ ks ∧ w2.length ≤ 1000 ∧
  ∀ H', L2.Same H H' → Q (.bl (decide (anyNeg ks (mr X (l0 ++ w2) k) = sd))) H'
def spBareN : Sp := fun vs H Q _ => ∃ (fl : Addr) (ks : List Nat) (X : Nat → Nat → Bool), vs = [.ref fl] ∧ FlAt H fl ks X ∧ ∀ (r : Addr) (H' : Hp), FlAt H' r ks (fun _ _ => false) → L2.Same H H' → Q (.ref r) H'
abbrev nHo : List Str := ["_law_floor", "_law_way", "_law_kind", "_law_side"]
theorem sc_ho : FnScope nHo ["_law_floor", "_law_way", "_law_kind", "_law_side"] (defScope s_law_half_of) := ⟨rfl, rfl, rfl, by decide +kernel, rfl, by decide +kernel, by decide +kernel⟩
abbrev nHs : List Str := ["_law_floor", "_law_half", "_law_way"]
theorem sc_hs : FnScope nHs ["_law_floor", "_law_half", "_law_way"] (defScope s_law_has) := ⟨rfl, rfl, rfl, by decide +kernel, rfl, by decide +kernel, by decide +kernel⟩
abbrev nBr : List Str := ["_law_floor", "_law_letter"]
theorem sc_br : FnScope nBr ["_law_floor"] (defScope s_law_bare) := ⟨rfl, rfl, rfl, by decide +kernel, rfl, by decide +kernel, by decide +kernel⟩
section
variable {P : Program} {w : World} {K : PySem.W.Frag} {mg : Str → Option Value} {base : Heap} {C : Addr}
theorem ok_halfN (F : D K mg "_law_half_of" s_law_half_of []) (cR : C8.Cal P w K mg base 2 "_law_root_of" spRoot []) : C8.Cal P w K mg base 3 "_law_half_of" spHalfN [] := by
  refine F.cal (ps := ["_law_floor", "_law_way", "_law_kind", "_law_side"]) sc_ho (fun f fd F => F.bindsN fun _ _ _ _ _ _ us hl => match us, hl with | [_, _, _, _], _ => rfl) (fun vs H Q E h => ?_) (fun f0 cdv A outer s H vs Q E hr h => ?_)
  · obtain ⟨fl, ks, X, v, k, sd, rfl, _⟩ := h
    rfl
  · obtain ⟨fl, ks, X, v, k, sd, rfl, hf, kv, kin, lv, q⟩ := h
    refine ⟨_, pss_one (ps_ret (pe_disp (pps_cons pe_str (pv 1) (pps_cons pe_str (pv 2) (pps_cons pe_str (pv 3) (pps_cons pe_str (C8.pe_c cR hr (by decide) (by rfl) (pa_cons (pv 0) (pa_cons (pv 1) (pa_cons (pv 2) pa_nil)))) pps_nil)))) (by rfl) (by rfl) (fun z => by cases z) (by decide))), ?_⟩
    intro hd hhd
    have s1 := same_new (o := .dK []) hhd
    have g1 : (upd H hd (.dK [])) hd = some (.dK []) := upd_same
    have hf1 := hf.same s1
    generalize (upd H hd (.dK [])) = H1 at s1 g1 hf1 ⊢
    refine ⟨_, rfl, _, rfl, _, rfl, _, rfl, _, rfl, _, rfl, fl, ks, X, v, k, rfl, hf1, kv, kin, lv, fun rl H2 gr s2 => ⟨s2 _ _ g1, hkv v k sd rl, rfl, (by show 4 ≤ 15; decide), ?_⟩⟩
    rw [merge_hk]
    have nrl : rl ≠ hd := ne_of gr (s2 _ _ g1) (by intro z; cases z)
    refine q hd _ ⟨rl, upd_same, by rw [upd_ne nrl]; exact gr⟩ fun b o e => ?_
    rw [upd_ne (ne_of_none e hhd)]
    exact s2 _ _ (s1 _ _ e)
theorem ok_hasN (F : D K mg "_law_has" s_law_has []) (cB : C8.Cal P w K mg base 2 "_law_is_beyond" spBeyN []) : C8.Cal P w K mg base 3 "_law_has" spHasN [] := by
  refine F.cal (ps := ["_law_floor", "_law_half", "_law_way"]) sc_hs (fun f fd F => F.bindsN fun _ _ _ _ _ _ us hl => match us, hl with | [_, _, _], _ => rfl) (fun vs H Q E h => ?_) (fun f0 cdv A outer s H vs Q E hr h => ?_)
  · obtain ⟨fl, hd, ks, X, v, v2, l0, k, sd, u, rfl, _⟩ := h
    rfl
  · obtain ⟨fl, hd, ks, X, v, v2, l0, k, sd, u, rfl, hf, hh, eu, kl, kv, kin, lv, q⟩ := h
    have hu := hu_of hr
    refine ⟨_, pss_one (ps_ret (pe_cmpR op_eq (C8.pe_c cB hr (by decide) (by rfl) (pa_cons (pv 0) (pa_cons (pe_dget hu (pv 1) pe_str (fun _ _ => rfl)) (pa_cons (pv 2) pa_nil)))) (pe_dget hu (pv 1) pe_str (fun _ _ => rfl)) (nomark _))), ?_⟩
    obtain ⟨rl, h1, h2⟩ := hh.ex
    rw [tupV_congr eu] at h2
    refine ⟨_, rfl, _, rfl, hd, _, rfl, get_hr h1, _, rfl, fl, rl, ks, X, l0, v2, k, rfl, hf, h2, kl, kv, kin, lv, fun H1 s1 => ?_⟩
    refine ⟨_, rfl, hd, _, rfl, get_hs (s1 _ _ h1), rfl, ?_⟩
    have e : decide (V.bl (anyNeg ks (mr X (l0 ++ v2) k)) = V.bl sd) = decide (anyNeg ks (mr X (l0 ++ v2) k) = sd) := decide_eq_decide.mpr ⟨fun z => V.bl.inj z, fun z => by rw [z]⟩
    show Q (.bl (decide (V.bl (anyNeg ks (mr X (l0 ++ v2) k)) = V.bl sd))) H1
    rw [e]
    exact q H1 s1
theorem ok_bareN (F : D K mg "_law_bare" s_law_bare []) (zd : mg "dict" = none) : C8.Cal P w K mg base 1 "_law_bare" spBareN [] := by
  refine F.cal (ps := ["_law_floor"]) sc_br (fun f fd F => F.bindsN fun _ _ _ _ _ _ us hl => match us, hl with | [_], _ => rfl) (fun vs H Q E h => ?_) (fun f0 cdv A outer s H vs Q E hr h => ?_)
  · obtain ⟨fl, ks, X, rfl, _⟩ := h
    rfl
  · obtain ⟨fl, ks, X, rfl, hf, q⟩ := h
    have hu := hu_of hr
    refine ⟨_, pss_one (ps_ret (pe_disp (pps_cons pe_str (pe_dget hu (pv 0) pe_str (fun _ _ => rfl)) (pps_cons pe_str (pe_callTy (call_dictP rfl) (by rfl) zd (by decide +kernel) (pa_cons (pe_lc (own := [("_law_letter", 1)]) (g := gName 1) rfl sc_br.nd (pi_str (pe_dget hu (pv 0) pe_str (fun _ _ => rfl))) (blkOk_by (own := [("_law_letter", 1)]) (N := nBr) (sc := defScope s_law_bare) (by decide +kernel))
      (fun _ _ _ _ _ => pg_name (i := 1) sc_br.nd rfl (.inl rfl)) (fun _ _ _ _ _ => pts_nil) (fun _ _ _ _ _ => pe_tup (pa_cons (pv 1) (pa_cons pe_str pa_nil)))) pa_nil)) pps_nil)) (by rfl) (by rfl) (fun z => by cases z) (by decide))), ?_⟩
    obtain ⟨cd, f, h1, h2, h3⟩ := hf.ex
    have knd := nodup_up hf.up
    have l8 := hf.l8
    intro hd hhd
    have s1 := same_new (o := .dK []) hhd
    have g1 : (upd H hd (.dK [])) hd = some (.dK []) := upd_same
    have h11 := s1 _ _ h1
    generalize (upd H hd (.dK [])) = H1 at s1 g1 h11 ⊢
    refine ⟨_, rfl, fl, _, rfl, get_fk h11, _, rfl, fl, _, rfl, get_fk h11, _, rfl, fun D hD => ?_⟩
    refine lc_it walk_str (fun i G => ∃ ps : List Addr, G D = some (.lst (ps.map V.ref)) ∧ ps.length = i ∧ Paired (fun p kv => SqT K G p [kV kv.1, kv.2]) ps (kvK (ks.take i) fun _ => []) ∧ L2.Same H1 G) ⟨[], upd_same, rfl, .nil, same_new hD⟩ (fun _ _ _ _ => trivial) ?_ ?_
    · rintro i x G G2 hi ⟨ps, gD, lp, pr, sm⟩ ⟨rfl, k, hk, rfl⟩
      have hk' := getS hk
      rw [sizeS] at hi
      refine ⟨rfl, _, rfl, (by show 2 ≤ sizeLine; exact len_line (by omega)), fun tp htp => ?_⟩
      rw [empty_S]
      have s2 : L2.Same G2 (upd G2 tp (.tup [V.str ⟨#[k]⟩, V.str (S [])])) := same_new htp
      have gtp : (upd G2 tp (.tup [V.str ⟨#[k]⟩, V.str (S [])])) tp = some (.tup [V.str ⟨#[k]⟩, V.str (S [])]) := upd_same
      have gD2 := s2 _ _ gD
      have ntD : tp ≠ D := fun z => by rw [z, gD] at htp; cases htp
      refine ⟨_, gD2, (by rw [List.length_map]; exact len_lt (by omega)), ps ++ [tp], ?_, by rw [List.length_append, lp]; rfl, ?_, ?_⟩
      · rw [upd_same, List.map_append]
        rfl
      · rw [take_one hk']
        have e1 : kvK (ks.take i ++ [k]) (fun _ => []) = kvK (ks.take i) (fun _ => []) ++ [(Sum.inr (S [k]), V.str (S []))] := by
          unfold kvK
          rw [List.map_append]
          rfl
        rw [e1]
        have up : ∀ p xs, SqT K G2 p xs → SqT K (upd (upd G2 tp (.tup [V.str ⟨#[k]⟩, V.str (S [])])) D (.lst (ps.map V.ref ++ [V.ref tp]))) p xs := fun p xs h => sqT_upd (sameT s2 h) gD2 (fun ys z => by cases z) (fun o ys z => by cases z)
        refine paired_snoc (.inl (.inl ?_)) (paired_imp (fun p kv h => up _ _ h) pr)
        rw [upd_ne ntD]
        exact gtp
      · intro b o e
        have n : b ≠ D := ne_of_none e hD
        rw [upd_ne n]
        exact s2 _ _ (sm _ _ e)
    · rintro G ⟨ps, gD, lp, pr, sm⟩
      rw [sizeS, List.take_length] at pr
      refine ⟨D, ps, kvK ks fun _ => [], rfl, SqL.of gD, pr, fun r hr2 => ?_⟩
      rw [merge_kv ks knd]
      have s3 := same_new (o := .dK (kvK ks fun _ => [])) hr2
      refine ⟨s3 _ _ (sm _ _ g1), fkv ks r, rfl, (by show 2 ≤ 15; decide), ?_⟩
      rw [merge_fk]
      have nr : r ≠ hd := fun z => by rw [z, sm _ _ g1] at hr2; cases hr2
      refine q hd _ ⟨hf.up, hf.abc, hf.l8, ⟨fun _ _ => rfl, fun _ => rfl⟩, r, fun _ => [], upd_same, by rw [upd_ne nr]; exact upd_same, fun a ha => ⟨List.nodup_nil, fun b => ⟨fun z => (by cases z), fun z => (by cases z.2)⟩⟩⟩ fun b o e => ?_
      rw [upd_ne (ne_of_none e hhd)]
      exact s3 _ _ (sm _ _ (s1 _ _ e))
end
end TX
end
section
set_option maxRecDepth 100000
set_option maxHeartbeats 8000000
/-! beyond a wall: by the vectors of a way -/
namespace TX
open PySem PySem.Spec PyProof.Rows L2 SX CW
theorem bey_dec {ks : List Nat} {X : Nat → Nat → Bool} (cr : Crossing X) (nd : ks.Nodup) {fi v : List Nat} {d : Nat} (hd : d ∈ ks) (hf : ∀ c ∈ fi, c ∈ ks) (hv : ∀ c ∈ v, c ∈ ks) :
    rd X (fol ks X (toD ks X (fol ks X [] fi) d).reverse (fol ks X [] v)) d = decide (∃ w ∈ crsA X [] (fol ks X [] v), ∀ j ∈ ks, w j = posV ks (mr X fi.reverse d) j) := by
  have nf := fol_isName (ks := ks) cr hf
  have kf := fol_in (ks := ks) cr hf
  have e : posV ks (mr X fi.reverse d) = mr X (toD ks X (fol ks X [] fi) d).reverse d := by rw [mr_revs (ks := ks) cr fi, posV_toD cr nf hd]
  rw [e, Bool.eq_iff_iff, decide_eq_true_iff]
  exact bey_iff cr nd hd (toD_in kf) (fol_in cr hv) (toD_name cr nf) (fol_isName cr hv) (toD_rd List.mem_cons_self)
end TX
end
section
set_option maxRecDepth 100000
set_option maxHeartbeats 8000000
namespace TX
open PySem PySem.Spec PyProof.Rows L2 SX CW
theorem mk_wall {C CR CL : Addr} {H : Hp} {x dx b p : Addr} {ks : List Nat} {X : Nat → Nat → Bool} {n : List Nat} {d : Nat} {Q : VK} (hx : H x = none) (hdx : H dx = none) (hb : RoomAt C CR H b p ks X n) (hd : d ∈ ks) (hn : ∀ c ∈ n, c ∈ ks) (ln : n.length ≤ 2000)
    (q : ∀ H' y, WallAt C CR CL H' x y p ks X (toD ks X n d) d → L2.Same H H' → Q .non H') : spWallInit C CR CL [.ref x, .ref b, .str (S [d])] (upd (upd H dx (.own x)) x (.ins CL dx [])) Q C8.E0 :=
  ⟨x, dx, b, p, ks, X, n, d, rfl, upd_same, hb.same (same_born hx hdx), hd, hn, ln, fun H' y bt hw => q H' y hw (born_same hx hdx bt)⟩
theorem noW (f : Str) (p x : Addr) (d : Nat) (h1 : (f == ("plan" : Str)) = false) (h2 : (f == ("room" : Str)) = false) (h3 : (f == ("kind" : Str)) = false) : (wflds p x d).lookup f = none := by
  unfold wflds
  rw [List.lookup_cons, h1]
  dsimp only
  rw [List.lookup_cons, h2]
  dsimp only
  rw [List.lookup_cons, h3]
  rfl
/-- Wall.beyond, as it is called -/
structure BeyC (P : Program) (w : World) (K : PySem.W.Frag) (mg : Str → Option Value) (base : Heap) (C CR CL : Addr) (f : Addr) (fd : FuncData) : Prop where
  F : FnOk P w K mg base C8.CX0 4 f fd ["self", "room"] (spBeyond C CR CL)
  M : Meth K CL "beyond" f
  b : L2.Binds K fd ["self", "room"] []
end TX
end
section
set_option maxRecDepth 100000
set_option maxHeartbeats 8000000
/-! _law_has_its_side -/
namespace TX
open PySem PySem.Spec PyProof.Rows L2 SX CW
/-- what the law's halves need -/
structure Hv (P : Program) (w : World) (K : PySem.W.Frag) (mg : Str → Option Value) (base : Heap) (C CR CL CH IK : Addr) : Prop where
  TR : RoomT K CR
  TW : WallT K CL
  TH : HalfT K CH
  hm : HfMk P w K mg base C CR CL CH
  DC : Dun P w K mg base 5 CH "__contains__" (spHasR K C CR CL CH)
  DI : Dun P w K mg base 3 CH "__invert__" (spInv C CR CL CH)
  DE : Dun P w K mg base 4 CH "__eq__" (spHalfEq K C CR CL CH)
  NE : ∃ f fd, FnOk P w K mg base C8.CX0 4 f fd ["self", "other"] (spHalfEq K C CR CL CH) ∧ PySem.W.isFn K (.ref f) = true ∧ L2.Binds K fd ["self", "other"] [] ∧ neB K CH f = true
  bes : ∃ p g fd mc, CSt K CH mc "beside" p g ∧ FnOk P w K mg base C8.CX0 8 g fd ["room", "kind"] (spBes C CR CL CH) ∧ FnOk P w K mg base (L2N.CX P w) 8 g fd ["room", "kind"] (spBesE K C CR IK) ∧ L2.Binds K fd ["room", "kind"] []
  mW : C8.Mak P w K mg base 6 "Wall" CL (spWallInit C CR CL) []
  DW : Dun P w K mg base 3 CL "__eq__" (spWallEq C CR CL)
  mR : C8.Mak P w K mg base 3 "Room" CR (spRoomInit C CR) []
  get : ∃ (f : Addr) (fd : FuncData), FnOk P w K mg base C8.CX0 6 f fd ["self", "at"] (spGet C CR) ∧ Meth K CR "__getitem__" f ∧ PySem.W.fnIn K f = true ∧ L2.Binds K fd ["self", "at"] []
def spSideN (C CR CL CH : Addr) : Sp := fun vs H Q _ => ∃ (p c fl pl hd md a x q : Addr) (m : Nat) (ks : List Nat) (X : Nat → Nat → Bool) (w : List Nat) (k : Nat) (sd : Bool), vs = [.ref p, .ref fl, .ref pl, .ref hd, .ref md] ∧ PenAt H p c m ∧ m ≤ 800000 ∧ FlAt H fl ks X ∧ PlanAt C H pl ks X ∧
  HfAt H hd ks w k sd (posV ks (mr X w.reverse k)) ∧ (∀ c ∈ w, c ∈ ks) ∧ k ∈ ks ∧ w.length ≤ 100 ∧ HalfAt C CR CL CH H md a x q ks X (toD ks X (fol ks X [] w) k) k sd ∧
  ∀ H', PenAt H' p c (m + 31) → But p H H' → Q (.bl true) H'
abbrev nSd : List Str := ["_law_pen", "_law_floor", "_law_plan", "_law_half", "_law_made", "_law_near", "_law_way", "_law_due", "_law_room", "_law_kind", "_law_told"]
theorem sc_sd : FnScope nSd ["_law_pen", "_law_floor", "_law_plan", "_law_half", "_law_made"] (defScope s_law_has_its_side) := ⟨rfl, rfl, rfl, by decide +kernel, rfl, by decide +kernel, by decide +kernel⟩
/-- what stays within the walk over the five ways -/
structure Sd (C CR CL CH : Addr) (H : Hp) (fl pl hd md a x q : Addr) (ks : List Nat) (X : Nat → Nat → Bool) (w : List Nat) (k : Nat) (sd : Bool) : Prop where
  fa : FlAt H fl ks X
  pa : PlanAt C H pl ks X
  ha : HfAt H hd ks w k sd (posV ks (mr X w.reverse k))
  ma : HalfAt C CR CL CH H md a x q ks X (toD ks X (fol ks X [] w) k) k sd
theorem Sd.same {C CR CL CH : Addr} {H H' : Hp} {fl pl hd md a x q : Addr} {ks : List Nat} {X : Nat → Nat → Bool} {w : List Nat} {k : Nat} {sd : Bool} (h : Sd C CR CL CH H fl pl hd md a x q ks X w k sd) (s : L2.Same H H') : Sd C CR CL CH H' fl pl hd md a x q ks X w k sd :=
  ⟨h.fa.same s, h.pa.same s, h.ha.same s, h.ma.same s⟩
theorem Sd.pen {C CR CL CH : Addr} {H H' : Hp} {fl pl hd md a x q p c : Addr} {m : Nat} {ks : List Nat} {X : Nat → Nat → Bool} {w : List Nat} {k : Nat} {sd : Bool} (h : Sd C CR CL CH H fl pl hd md a x q ks X w k sd) (hp : PenAt H p c m) (b : But p H H') : Sd C CR CL CH H' fl pl hd md a x q ks X w k sd :=
  ⟨h.fa.pen hp b, h.pa.pen (List.length_pos_of_mem h.ma.kn) hp b, h.ha.pen hp b, h.ma.pen hp b⟩
section
variable {P : Program} {w : World} {K : PySem.W.Frag} {mg : Str → Option Value} {base : Heap} {C CR CL CH IK : Addr}
theorem ok_sideN (F : D K mg "_law_has_its_side" s_law_has_its_side []) (Z : Hv P w K mg base C CR CL CH IK) (cWy : C8.Cal P w K mg base 3 "_law_drawn_way" spWayN []) (cHs : C8.Cal P w K mg base 3 "_law_has" spHasN []) (cPk : C8.Cal P w K mg base 2 "_law_pick" spPickS []) :
    C8.Cal P w K mg base 10 "_law_has_its_side" (spSideN C CR CL CH) [] := by
  obtain ⟨TR, TW, TH, mk, DC, DI, DE, NE, ⟨bp, bg, bfd, bmc, cst, GB, _, bB⟩, mW, DW, mR, ⟨fg, fdg, GG, MG, hnG, bG⟩⟩ := Z
  refine F.cal (ps := ["_law_pen", "_law_floor", "_law_plan", "_law_half", "_law_made"]) sc_sd (fun f fd F => F.bindsN fun _ _ _ _ _ _ us hl => match us, hl with | [_, _, _, _, _], _ => rfl) (fun vs H Q E h => ?_) (fun f0 cdv A outer s H vs Q E hr h => ?_)
  · obtain ⟨p, c, fl, pl, hd, md, a, x, q, m, ks, X, w, k, sd, rfl, _⟩ := h
    rfl
  · obtain ⟨p, c, fl, pl, hd, md, a, x, q, m, ks, X, v0, k, sd, rfl, hp, hm, hf, hpl, hh, kv, hk, lv, hmd, fin⟩ := h
    have hu := hu_of hr
    refine ⟨_, pss_cons (ps_set (i := 5) sc_sd.nd rfl (.inl rfl) (C8.pe_c cWy hr (by decide) (by rfl) (pa_cons (pv 0) (pa_cons (pv 1) (pa_cons pe_int pa_nil)))))
      (pss_cons (ps_for PassesOwn.never rfl (pi_list (pe_lst (pa_cons (pe_dget hu (pv 3) pe_str (fun _ _ => rfl)) (pa_cons (pe_op op_add_str (pe_dget hu (pv 3) pe_str (fun _ _ => rfl)) (pe_dget hu (pv 3) pe_str (fun _ _ => rfl))) (pa_cons (pe_op op_add_str (pe_dget hu (pv 3) pe_str (fun _ _ => rfl)) (pv 5)) (pa_cons pe_str (pa_cons (C8.pe_c cWy hr (by decide) (by rfl) (pa_cons (pv 0) (pa_cons (pv 1) (pa_cons pe_int pa_nil)))) pa_nil))))))) (pg_name (i := 6) sc_sd.nd rfl (.inl rfl))
        (pss_cons (ps_par (i := 7) (j := 8) (by rfl) sc_sd.nd rfl rfl (by decide) rfl rfl (pa_cons (C8.pe_c cHs hr (by decide) (by rfl) (pa_cons (pv 1) (pa_cons (pv 3) (pa_cons (pv 6) pa_nil)))) (pa_cons (C8.pe_mk mR hr (by decide) (by rfl) (pa_cons (pv 2) (pa_cons (pv 6) pa_nil))) pa_nil)) (by rfl))
        (pss_cons (ps_if (PW.pt (pw_or (pt_cmpR op_ne (pe_cmpR (op_inOwn DC (hr.mono (by decide))) (pv 8) (pv 4) (by rfl)) (pv 7) (nomark _)) (pw_or1 (pt_cmpR op_eq (pe_cmpR (op_inOwn DC (hr.mono (by decide))) (pv 8) (pe_un (un_invOwn DI (hr.mono (by decide))) (pv 4)) (by rfl)) (pv 7) (nomark _))))) (pss_one (ps_ret pe_bl)) pss_nil)
        (pss_cons (ps_set (i := 9) sc_sd.nd rfl (.inl rfl) (C8.pe_c cPk hr (by decide) (by rfl) (pa_cons (pv 0) (pa_cons (pe_dget hu (pv 1) pe_str (fun _ _ => rfl)) pa_nil))))
        (pss_cons (ps_set (i := 10) sc_sd.nd rfl (.inl rfl) (pe_cst (C8.pe_gc (v := .ref CH) (by rfl) ⟨_, mk.gH, rfl⟩) cst GB bB (hr.mono (by decide)) pass0 (pa_cons (pv 8) (pa_cons (pv 9) pa_nil))))
        (pss_one (ps_if (PW.pt (pw_or (pt_cmpR (op_notInOwn DC (hr.mono (by decide))) (pv 8) (pv 10) (by rfl)) (pw_or (pt_cmpR (op_inOwn DC (hr.mono (by decide))) (pe_ixOwn GG MG hnG bG (hr.mono (by decide)) (pv 8) (pv 9)) (pv 10) (by rfl))
          (pw_or1 (pt_not (pt_cmpR (op_cmpOwn (op := .Eq) (fun _ _ => rfl) DW (hr.mono (by decide))) (pe_fld (pv 10) rfl) (C8.pe_mk mW hr (by decide) (by rfl) (pa_cons (pv 8) (pa_cons (pv 9) pa_nil))) (nomark _))))))) (pss_one (ps_ret pe_bl)) pss_nil)))))))
      (pss_one (ps_ret pe_bl))), ?_⟩
    have lk : ∀ z ∈ toD ks X (fol ks X [] v0) k, z ∈ ks := toD_in (fol_name (ks := ks) hf.cr v0 [] (fun c h => by cases h) kv rfl).2
    have un : isName X (toD ks X (fol ks X [] v0) k) = true := toD_name hf.cr (fol_name (ks := ks) hf.cr v0 [] (fun c h => by cases h) kv rfl).1
    have l0 : 0 < ks.length := List.length_pos_of_mem hk
    have cr := hf.cr
    have nd := nodup_up hf.up
    refine ⟨_, rfl, _, rfl, p, c, fl, m, 12, ks, X, rfl, hp, by omega, by decide, hf, fun nr H1 lnr knr hp1 b1 => ?_⟩
    have sd1 := Sd.pen ⟨hf, hpl, hh, hmd⟩ hp b1
    obtain ⟨rl, h1, _⟩ := sd1.ha.ex
    refine ⟨_, rfl, hd, _, rfl, get_hw h1, _, rfl, hd, _, rfl, get_hw h1, _, rfl, hd, _, rfl, get_hk h1, _, _, rfl, rfl, (by rw [S_len, S_len]; exact len_line (by simp; omega)), ?_⟩
    refine ⟨_, rfl, hd, _, rfl, get_hw h1, _, rfl, _, _, rfl, rfl, (by rw [S_len, S_len]; exact len_line (by omega)), ?_⟩
    refine ⟨_, rfl, _, rfl, p, c, fl, _, 12, ks, X, rfl, hp1, by omega, by decide, sd1.fa, fun w5 H2 lw5 kw5 hp2 b2 => ?_⟩
    have sd2 := Sd.pen sd1 hp1 b2
    rw [S_cat, S_cat, empty_S]
    refine ⟨(by show 5 ≤ sizeLine; exact len_line (by omega)), fun ql hql => ?_⟩
    have s3 := same_new (o := .lst [V.str (S v0), V.str (S (v0 ++ [k])), V.str (S (v0 ++ nr)), V.str (S []), V.str (S w5)]) hql
    have g3 : (upd H2 ql (.lst [V.str (S v0), V.str (S (v0 ++ [k])), V.str (S (v0 ++ nr)), V.str (S []), V.str (S w5)])) ql = some (.lst [V.str (S v0), V.str (S (v0 ++ [k])), V.str (S (v0 ++ nr)), V.str (S []), V.str (S w5)]) := upd_same
    generalize (upd H2 ql (.lst [V.str (S v0), V.str (S (v0 ++ [k])), V.str (S (v0 ++ nr)), V.str (S []), V.str (S w5)])) = H3 at s3 g3 ⊢
    have all : ∀ (i : Nat) (x : V), [V.str (S v0), V.str (S (v0 ++ [k])), V.str (S (v0 ++ nr)), V.str (S []), V.str (S w5)][i]? = some x → ∃ v : List Nat, x = .str (S v) ∧ (∀ c ∈ v, c ∈ ks) ∧ v.length ≤ 200 := fun i x hx => by
      match i, hx with
      | 0, hx => cases hx; exact ⟨_, rfl, kv, by omega⟩
      | 1, hx => cases hx; exact ⟨_, rfl, fun c h => (List.mem_append.mp h).elim (kv c) (fun z => by rw [List.mem_singleton.mp z]; exact hk), by simp; omega⟩
      | 2, hx => cases hx; exact ⟨_, rfl, fun c h => (List.mem_append.mp h).elim (kv c) (knr c), by simp; omega⟩
      | 3, hx => cases hx; exact ⟨[], rfl, (fun c h => by cases h), by simp⟩
      | 4, hx => cases hx; exact ⟨_, rfl, kw5, by omega⟩
    refine ⟨ql, rfl, ⟨_, SqL.of g3⟩, ?_⟩
    refine for_it (walk_list (K := K) (a := ql) (xs := [V.str (S v0), V.str (S (v0 ++ [k])), V.str (S (v0 ++ nr)), V.str (S []), V.str (S w5)])) (fun i σ G => ∃ u6 u7 u8 u9 u10 : Option V, σ = [some (.ref p), some (.ref fl), some (.ref pl), some (.ref hd), some (.ref md), some (.str (S nr)), u6, u7, u8, u9, u10] ∧
      Sd C CR CL CH G fl pl hd md a x q ks X v0 k sd ∧ PenAt G p c (m + 26 + i) ∧ But p H G ∧ G ql = some (.lst [V.str (S v0), V.str (S (v0 ++ [k])), V.str (S (v0 ++ nr)), V.str (S []), V.str (S w5)]))
      ⟨none, none, none, none, none, rfl, sd2.same s3, by have := hp2.same s3; rw [show m + 26 + 0 = m + 12 + 1 + 12 + 1 from by omega]; exact this, (b1.trans b2).trans (But.of s3), g3⟩ (fun i σ G _ ⟨_, _, _, _, _, _, _, _, _, z⟩ => SqL.of z) ?_ ?_
    · rintro i y σ G G' hi ⟨u6, u7, u8, u9, u10, rfl, st, gp, gb, gq⟩ ⟨rfl, hy⟩
      obtain ⟨v, rfl, kvv, lvv⟩ := all i y hy
      have i5 : i < 5 := hi
      have lt := toD_len (ks := ks) (X := X) (n := fol ks X [] v0) (d := k)
      refine ⟨_, rfl, _, rfl, _, rfl, fl, hd, ks, X, v0, v, (toD ks X (fol ks X [] v0) k).reverse, k, sd, _, rfl, st.fa, st.ha, (fun j _ => congrFun (root_toD cr kv hk) j), (fun z h => lk z (List.mem_reverse.mp h)), kvv, hk, by omega, fun G1 s1 => ?_⟩
      have st1 := st.same s1
      refine ⟨_, rfl, _, rfl, fun b db hb hdb _ => mk_room hb hdb st1.pa kvv (by omega) fun G2 ra s2 => ⟨rfl, ?_⟩⟩
      obtain ⟨dr, hdr⟩ := ra.ex
      have st2 := st1.same s2
      have gp2 := (gp.same s1).same s2
      have gb2 := gb.trans (But.of (s1.trans s2))
      have gq2 := (s1.trans s2) _ _ gq
      have kn : ∀ z ∈ fol ks X [] v, z ∈ ks := (fol_name (ks := ks) cr v [] (fun c h => by cases h) kvv rfl).2
      have nn : isName X (fol ks X [] v) = true := (fol_name (ks := ks) cr v [] (fun c h => by cases h) kvv rfl).1
      have ln : (fol ks X [] v).length ≤ 200 := by
        have := fol_length ks X v []
        simp only [List.length_nil] at this
        omega
      have ein : inH ks X (toD ks X (fol ks X [] v0) k) k (fol ks X [] v) = anyNeg ks (mr X ((toD ks X (fol ks X [] v0) k).reverse ++ v) k) := by
        rw [inH_neg cr lk kn hk, mr_room cr]
      refine ⟨_, _, rfl, ?_⟩
      generalize fol ks X [] v = n at ra ein kn nn ln
      obtain ⟨dm, hdm⟩ := st2.ma.ex
      refine ⟨_, rfl, _, rfl, md, dm, _, rfl, hdm, md, a, x, q, ks, X, _, k, sd, _, rfl, st2.ma, .inl ⟨b, pl, n, rfl, ra, kn, by omega, fun G3 s3 => ⟨_, rfl, ?_⟩⟩⟩
      have st3 := st2.same s3
      refine ⟨_, rfl, rfl, _, rfl, ?_⟩
      rw [ein, show ∀ b : Bool, (!decide (V.bl b = V.bl b)) = false from fun b => by simp]
      refine iteF ?_
      have hdm3 := s3 _ _ hdm
      refine ⟨_, rfl, _, rfl, md, dm, _, rfl, hdm3, md, a, x, q, ks, X, _, k, sd, rfl, st3.ma, fun r G4 hr4 s4 => ?_⟩
      obtain ⟨dn, hdn⟩ := hr4.ex
      refine ⟨r, dn, _, rfl, hdn, r, a, x, q, ks, X, _, k, !sd, _, rfl, hr4, .inl ⟨b, pl, n, rfl, (ra.same s3).same s4, kn, by omega, fun G5 s5 => ⟨_, rfl, ?_⟩⟩⟩
      have st5 := (st3.same s4).same s5
      refine ⟨_, rfl, rfl, _, rfl, ?_⟩
      rw [ein, show ∀ b c : Bool, decide (V.bl (decide (b = !c)) = V.bl (decide (b = c))) = false from fun b c => by cases b <;> cases c <;> simp]
      refine iteF ?_
      have s25 := s3.trans (s4.trans s5)
      have ra5 := ra.same s25
      have gp5 := gp2.same s25
      have gb5 := gb2.trans (But.of s25)
      have gq5 := s25 _ _ gq2
      clear ra hdr gp gb gq gp2 gb2 gq2 s25 s3 s4 s5 s1 s2 st st1 st2 st3 hdm hdm3 hdn hr4
      obtain ⟨cd, _, f1, _⟩ := st5.fa.ex
      refine ⟨_, rfl, _, rfl, fl, _, rfl, get_fk f1, p, c, _, ks, rfl, gp5, by omega, l0, by have := st5.fa.l8; omega, fun k2 G6 hk2 gp6 b6 => ?_⟩
      have st6 := st5.pen gp5 b6
      have ra6 := ra5.pen l0 gp5 b6
      have gb6 := gb5.trans b6
      have gq6 := b6 _ _ (pen_ne gp5 gq5 fun _ _ _ z => by cases z) gq5
      refine ⟨rfl, _, rfl, _, rfl, b, pl, ks, X, n, k2, rfl, ra6, hk2, kn, by omega, fun r2 a2 x2 G7 h7 s7 => ?_⟩
      have lu2 := toD_len (ks := ks) (X := X) (n := n) (d := k2)
      have ku2 : ∀ z ∈ toD ks X n k2, z ∈ ks := toD_in kn
      have nu2 : isName X (toD ks X n k2) = true := toD_name cr nn
      obtain ⟨d7, e7⟩ := h7.ex
      refine ⟨_, rfl, _, rfl, r2, d7, _, rfl, e7, r2, a2, x2, pl, ks, X, _, k2, _, _, rfl, h7, .inl ⟨b, pl, n, rfl, ra6.same s7, kn, by omega, fun G8 s8 => ⟨_, rfl, _, rfl, ?_⟩⟩⟩
      rw [inH_neg cr ku2 kn hk2, bey_neg cr ku2 nu2 kn hk2, decide_eq_true rfl]
      refine iteF ?_
      have s68 := s7.trans s8
      refine ⟨_, rfl, _, rfl, get_room (ra6.same s68) hk2 (by omega) fun y G9 ry s9 => ?_⟩
      have h9 := (h7.same s8).same s9
      refine ⟨_, rfl, r2, d7, _, rfl, s9 _ _ (s8 _ _ e7), r2, a2, x2, pl, ks, X, _, k2, _, _, rfl, h9, .inl ⟨y, pl, _, rfl, ry, beh_letters kn hk2, by have := beh_length ks X n k2; omega, fun G10 s10 => ⟨_, rfl, _, rfl, ?_⟩⟩⟩
      rw [inH_neg cr ku2 (beh_letters kn hk2) hk2, bey_neg cr ku2 nu2 kn hk2, two_sides cr nd kn hk2, show ∀ b : Bool, decide ((!b) = b) = false from fun b => by cases b <;> rfl]
      refine iteF ?_
      have s6a := s68.trans (s9.trans s10)
      have ha := h9.same s10
      obtain ⟨d10, e10⟩ := ha.ex
      refine ⟨_, rfl, r2, CH, d10, _, _, rfl, e10, TH.cl, TH.nw, hf_wall _ _ _, _, rfl, _, rfl, fun z dz hz hdz _ => mk_wallS hz hdz (ra6.same s6a) hk2 kn (by omega) fun G11 t2 hw s11 => ⟨rfl, ?_⟩⟩
      obtain ⟨da, ea⟩ := (ha.wl.same s11).ex
      obtain ⟨dw, ew⟩ := hw.ex
      refine ⟨a2, da, _, z, dw, _, rfl, rfl, ea, ew, a2, z, x2, pl, ks, X, _, k2, rfl, ha.wl.same s11, .inl ⟨t2, pl, _, k2, hw, _, rfl, ?_⟩⟩
      rw [decide_eq_true rfl, decide_eq_true rfl]
      refine iteF ?_
      have s6b := s6a.trans s11
      refine ⟨_, _, _, _, _, rfl, st6.same s6b, ?_, gb6.trans (But.of s6b), s6b _ _ gq6⟩
      have := gp6.same s6b
      rw [show m + 26 + (i + 1) = m + 26 + i + 1 from by omega]
      exact this
    · rintro σ G ⟨u6, u7, u8, u9, u10, rfl, st, gp, gb, gq⟩
      exact fin G gp gb
end
end TX
end
section
set_option maxRecDepth 100000
set_option maxHeartbeats 2000000
/-! try with several handlers, each of the form `except X as n` with the same n -/
namespace L2N
open PySem PySem.Spec PyProof.Rows L2
/-- what is wished where the body lets an exception out: the first handler whose class fits -/
def wAsL (K : PySem.W.Frag) (i : Nat) (Wout : WX) (D : Ends) : List (Value × (Addr → Value → Option Addr → TS)) → WX
  | [] => Wout
  | (c, ts) :: r => wAs K c i ts (wAsL K i Wout D r) D
inductive HdsAs (X : Cx) (n : Str) : List ExceptHandler → List (Value × (Addr → Value → Option Addr → TS)) → Prop
  | nil : HdsAs X n [] []
  | cons {x : Str} {c : Value} {ts : Addr → Value → Option Addr → TS} {b₀ : Stmt} {su : List Stmt} {p1 p2 : Pos} {hds : List ExceptHandler} {l : List (Value × (Addr → Value → Option Addr → TS))} (hc : Names X x c)
      (hsu : ∀ (a : Addr) (oe : Obj) (cls : Value) (d : Option Addr) (pn : List (Addr × Obj)), Zn cls d oe → (∃ vs, oe.data = .fields vs) → PSs (X.suite a ((a, oe) :: pn)) (b₀ :: su) (ts a cls d))
      (r : HdsAs X n hds l) : HdsAs X n (.ExceptHandler (some (.Name x p1)) (some n) (b₀ :: su) p2 :: hds) ((c, ts) :: l)
section
variable {X : Cx} {n : Str} {i : Nat} {body : List Stmt} {h₀ : ExceptHandler} {hds : List ExceptHandler} {l : List (Value × (Addr → Value → Option Addr → TS))} {pos : Pos} {tb : WX → TS} {Wout : WX}
theorem ps_try_asL (hs : X.stack = X.env :: X.outer) (hf : X.env.frame = some X.env.locals) (hN : X.N.Nodup) (hi : X.N[i]? = some n) (hln : X.env.kindOf n = some .local) (tk : Takes X Wout)
    (hb : ∀ (W : WX) (pn : List (Addr × Obj)) (xe : Value → Shared → Prop), Takes (X.tr pn xe) W → PassesOwn (model X.prog X.w) X.A X.env xe → PSs (X.tr pn xe) body (tb W))
    (hh : HdsAs X n (h₀ :: hds) l) : PS X (.Try body (h₀ :: hds) [] [] pos) (fun D σ H => tb (wAsL X.K i Wout D l) D σ H) := by
  refine ⟨fun pins s σ H D I h => ?_⟩
  have ok := I.ok
  have fr0 : X.A.frames = some (X.env :: X.outer) := by rw [ok.frames, hs]
  have hloc : Loc X.env.scope n := .inl hln
  refine wpAny_Try_except ?_
  refine wpAny_mono ((hb (wAsL X.K i Wout D l) (X.pn ++ pins)
    (fun e s₁ => wpAny (model X.prog X.w) X.A (noteFrame e X.env) (fun _ s₂ => wpAny (model X.prog X.w) X.A (setFlight e none) (fun _ s₃ => wpAny (model X.prog X.w) X.A (handleBy e X.env (h₀ :: hds)) (SP X pins D) X.xe s₃) X.xe s₂) X.xe s₁)
    (fun u s' xx => ?_) PassesOwn.looking).run [] s σ H D (I.toTry _) h) (fun f s1 fin => ?_) (fun _ _ z => z)
  · obtain ⟨a, B, sI, pins', τ, G, cls, d, rfl, J', nb, up, sky, na, os, ag, w⟩ := xx
    have J : Inv X pins τ G sI := J'.ofTry ok
    have sky2 : Sky B (X.env :: X.outer) a (Zn cls d) X.env.locals s'.heap := by rw [← hs]; exact sky
    show wpAny (model X.prog X.w) X.A (noteFrame (.ref a) X.env) _ _ _
    refine Sky.land Zn.steady fr0 hf sky2 fun h3 fl3 up3 => ?_
    have J3 : Inv X pins τ G { s' with heap := h3 } := J.landed nb fl3.1 (up.trans up3) os ag
    obtain ⟨oe3, vs3, he3, hz3, hd3⟩ := fl3.there
    have apart : a ∉ frs (X.env :: X.outer) := fun hm => by
      obtain ⟨_, o', e', hnf⟩ := fl3.2.2.1.mem hm
      rw [he3] at e'
      cases e'
      exact hnf _ hd3
    have nL : a ≠ X.env.locals := fun z => apart (List.mem_filterMap.mpr ⟨X.env, List.mem_cons_self, by rw [hf, z]⟩)
    have nF : a ∉ X.fs := fun hm => by
      obtain ⟨e, he, q⟩ := List.mem_filterMap.mp hm
      exact apart (List.mem_filterMap.mpr ⟨e, List.mem_cons_of_mem _ he, q⟩)
    have S3 := J3.suite he3 hd3 na nL nF
    have go : ∀ {hs' : List ExceptHandler} {l' : List (Value × (Addr → Value → Option Addr → TS))}, HdsAs X n hs' l' → wAsL X.K i Wout D l' cls d τ G →
        wpAny (model X.prog X.w) X.A (handleBy (.ref a) X.env hs') (SP X pins D) X.xe { s' with heap := h3 } := by
      intro hs' l' hk
      induction hk with
      | nil =>
        intro w
        refine wpAny_handleBy_nil ?_
        obtain ⟨_, _, _, oe, vs, T, oT, _, he, hz, hd, h1, _⟩ := id fl3
        unfold PySem.passOn
        refine wpAny_bind (wpAny_field he hd h1 ?_)
        rw [if_neg (show ¬ ((Value.ref T == Value.none) = true) from by simp)]
        have out : wpAny (model X.prog X.w) X.A (setFlight (.ref a) X.env.frame) (fun _ s4 => wpAny (model X.prog X.w) X.A (throw (.ref a) : Sem Flow) (SP X pins D) X.xe s4) X.xe { s' with heap := h3 } := by
          rw [hf]
          refine HandSPX.setFlight_upZ fl3 fun h4 hh4 up4 => wpAny_throw (tk _ _ ?_)
          exact ⟨a, B, sI, pins, τ, G, cls, d, rfl, J, nb, (up.trans up3).trans up4, .inr (.inr (by rw [hs]; exact hh4)), na, os, ag, w⟩
        first
          | exact wpAny_bind (wpAny_pure (wpAny_bind out))
          | exact wpAny_bind out
      | @cons x c ts b₀ su p1 p2 hds2 l2 hc hsu r ih =>
        intro w
        obtain ⟨b, fits, yes, no⟩ := w
        refine wpAny_handleBy_cons (codeAny_handlers_test ?_) (by intro q; cases q)
        have LT : PySem.W.Looks (model X.prog X.w) h3 (typeOf (.ref a)) cls := fun A Q E s k q => wpAny_typeOf_ref (k _ _ he3) (by rw [hz3.1]; exact q)
        have LM := PySem.W.exm_one (M := model X.prog X.w) J3.kIn LT fits
        have named : ∀ {Q : Value → Shared → Prop} {E : Value → Shared → Prop}, Q c { s' with heap := h3 } → wpAny (model X.prog X.w) (X.A.mark (some (.ref a))) (eval (.Name x p1) X.env) Q E { s' with heap := h3 } := fun {Q E} q => by
          obtain ⟨hg, hdbg, hm | ⟨hm, hv, hnn⟩⟩ := hc
          · exact ld_glob (X := X.suite a ((a, oe3) :: (X.pn ++ pins))) S3 hg hm q hdbg
          · exact ld_blt (X := X.suite a ((a, oe3) :: (X.pn ++ pins))) S3 hg hm hv q hnn hdbg
        refine named (LM.here ?_)
        cases b with
        | true =>
          refine codeAny_handlers_suite_as ?_
          refine HandSPX.lands_againZ fl3 fun h4 fl4 up4 => ?_
          have J4 : Inv X pins τ G { s' with heap := h4 } := J.landed nb fl4.1 ((up.trans up3).trans up4) os ag
          obtain ⟨oe4, vs4, he4, hz4, hd4⟩ := fl4.there
          have S4 := J4.suite he4 hd4 na nL nF
          refine store_ok (X := X.suite a ((a, oe4) :: (X.pn ++ pins))) (v := .ref a) S4 hN hi hloc rfl (fun s5 S5 => ?_) (.inr hln)
          refine wpAny_mono ((hsu a oe4 cls d (X.pn ++ pins) hz4 ⟨_, hd4⟩).run [] s5 _ G _ S5 (yes rfl a na)) (fun f s6 hsp => ?_) (fun _ _ z => False.elim z)
          have gone : ∀ {σ6 : St} {H6 : Hp} {Q : Shared → Prop}, Inv (X.suite a ((a, oe4) :: (X.pn ++ pins))) [] σ6 H6 s6 → (∀ s7, Inv X pins (σ6.set i none) H6 s7 → Q s7) →
              wpAny (model X.prog X.w) X.A (do bindName X.env n .none; unbindBehindTheSuite X.env n p2) (fun _ s7 => Q s7) X.xe s6 := fun {σ6 H6 Q} S6 hq => gone_ok (S6.unsuite ok) hN hi hln hq
          cases f with
          | next => obtain ⟨_, _, S6, q6⟩ := hsp; exact gone S6 fun s7 J7 => ⟨_, _, J7, q6⟩
          | brk => obtain ⟨_, _, S6, q6⟩ := hsp; exact gone S6 fun s7 J7 => ⟨_, _, J7, q6⟩
          | cont => obtain ⟨_, _, S6, q6⟩ := hsp; exact gone S6 fun s7 J7 => ⟨_, _, J7, q6⟩
          | ret u => obtain ⟨_, _, _, S6, r6, q6⟩ := hsp; exact gone S6 fun s7 J7 => ⟨_, _, _, J7, r6, q6⟩
        | false =>
          show wpAny _ X.A (handleBy (.ref a) X.env hds2) _ _ _
          exact ih (no rfl)
    exact go hh w
  · cases f with
    | next => obtain ⟨_, _, J2, q⟩ := fin; exact wpAny_execs_nil ⟨_, _, J2.ofTry ok, q⟩
    | brk => obtain ⟨_, _, J2, q⟩ := fin; exact ⟨_, _, J2.ofTry ok, q⟩
    | cont => obtain ⟨_, _, J2, q⟩ := fin; exact ⟨_, _, J2.ofTry ok, q⟩
    | ret u => obtain ⟨_, _, _, J2, r, q⟩ := fin; exact ⟨_, _, _, J2.ofTry ok, r, q⟩
end
end L2N
end
section
set_option maxRecDepth 100000
set_option maxHeartbeats 4000000
/-! isinstance(e, C) of an error that has fields -/
namespace L2
open PySem PySem.Spec PyProof.Rows
def rIsEF (K : PySem.W.Frag) (D a : Addr) (cls : Value) (d : Option Addr) : List V → Hp → VK → Prop := fun xs H Q => ∃ (c : V) (cv : Value) (b : Bool) (dd : Addr) (fs : List (Str × V)), xs = [.ref a, c] ∧ cls = .ref D ∧ d = some dd ∧ (∀ u, RelV c u → u = cv) ∧ PySem.W.kitOne K (.ref D) cv = some b ∧ H dd = some (.xd fs) ∧ Q (.bl b) H
theorem call_isEF {X : Cx} {a D : Addr} {oe : Obj} {cls : Value} {d : Option Addr} {pn : List (Addr × Obj)} (C : ExcC X.K D) (hz : Zc cls d oe) (hf : ∃ vs, oe.data = .fields vs) : CallR (X.suite a ((a, oe) :: pn)) (.builtin "isinstance") (rIsEF X.K D a cls d) := by
  rintro pins s σ H xs us Q I r ⟨c, cv, b, dd, fs, rfl, ec, ed, hcv, e, eh, q⟩
  subst ec
  subst ed
  cases r with
  | cons rx rr =>
    cases rr with
    | cons rt rn =>
      cases rn
      rename_i u1 u2
      obtain rfl : u1 = Value.ref a := rx
      have ec := hcv u2 rt
      subst ec
      obtain ⟨ha, _⟩ := I.pin (a, oe) (List.mem_append_left _ List.mem_cons_self)
      obtain ⟨vs, hd⟩ := hf
      have hx : ObjOk X.prog X.w H s.heap dd (.xd fs) := I.hok dd _ eh
      obtain ⟨mA, hns, hr⟩ := hx
      obtain ⟨od, ho, hl⟩ := lookIn_ns hns
      have J : PySem.W.InstAt s.heap a oe D (some od) := ⟨ha, hz.1, by unfold PySem.W.notCls; rw [hd] <;> rfl, by rw [hz.2]; exact ho⟩
      have hc : (PySem.W.clsIn X.K D).isSome = true := by
        have z := C.hd
        unfold PySem.W.hasDictIn at z
        cases y : PySem.W.clsIn X.K D with
        | none => rw [y] at z; cases z
        | some _ => rfl
      exact PySem.W.kia_one (PySem.W.kitx_exc hc C.hg C.hk C.hs C.ha C.hn C.ht C.hm) I.kIn J e (fun z => nomatch z) fun tk => ⟨.bl b, H, I.kept fun _ _ z => z, rfl, q⟩
end L2
end
section
set_option maxRecDepth 100000
set_option maxHeartbeats 8000000
/-! _law_no_kind: how beside refuses a value -/
namespace TX
open PySem PySem.Spec PyProof.Rows L2 SX CW
theorem takesN0 {X : Cx} : L2N.Takes X fun _ _ _ _ => False := fun u s' h => by
  unfold L2N.XE at h
  simp at h
def tCStS (C : Addr) (sp : Sp) (E : L2.St → XK) (ta : TE) (t : TA) : TE := fun σ H Q => ta σ H fun x H1 => x = .ref C ∧ t σ H1 fun vs H2 => sp vs H2 Q (E σ)
section
variable {X : Cx} {CX : CXT} {k : Nat} {C p g : Addr} {mc : Value} {sp : Sp} {E : L2.St → XK} {o e : Expr} {es : List Expr} {m : Str} {pos apos : Pos} {ta : TE} {t : TA} {pl : Sem Bool} {fd : FuncData} {ps : List Str}
theorem pe_cstS (he : PE X o ta) (c : CSt X.K C mc m p g) (F : FnOk X.prog X.w X.K X.mg X.base CX k g fd ps sp) (hb : L2.Binds X.K fd ps []) (hr : L2.Room k X.A) (hx : ∀ σ, PassesAt CX X σ (E σ)) (ha : PA X (e :: es) t)
    (hst : starEach (e :: es) X.env = (false, eval e X.env) :: starEach es X.env := by rfl) (hpl : (backTo pos (starEach es X.env)).any (·.1) = false := by rfl)
    (ht : eval (.Call (.Attribute o m apos) (e :: es) [] pos) X.env = (do
      let ov ← eval o X.env
      standAt apos.atName
      let (f, first) ← holding [ov] (getMethod ov m pl)
      callWith pos f first (backTo pos (starEach (e :: es) X.env)) (backToKw pos (keywordEach [] X.env))) := by rfl) :
    PE X (.Call (.Attribute o m apos) (e :: es) [] pos) (tCStS C sp E ta t) := by
  refine ⟨fun pins s σ H Q I h => PySem.W.methodCall_KW (pl := pl) (thn (he.run pins s σ H _ I h) fun u s1 ⟨x, H1, I1, rx, ex, q⟩ => ?_) ht⟩
  subst ex
  have eu : u = Value.ref C := rx
  subst eu
  obtain ⟨rest, hp⟩ := c.rc
  refine PySem.W.method_cls I1.kIn c.rd.ga (PySem.W.cls_bind I1.kIn c.rd.rd c.at_ (wpAny_call (PySem.W.sm_get (s := { s1 with toks := s1.toks + 1 }) I1.kIn hp (PySem.W.handed_on rfl ?_))))
  have I2 : L2.Inv X pins σ H1 { s1 with toks := s1.toks + 1 } := I1.tok _
  refine PySem.W.callWith_K (h₀ := X.base) I2.ok.mod.kin c.kp (thn (ha.run pos pins _ σ H1 _ I2 q) fun us s3 ⟨vs, H3, I3, r, q3⟩ => ⟨I3.kIn, ?_⟩) hst hpl
  exact run_fnS F hr hb (hx σ) I3 r q3
end
/-- an error's class, as it is caught and its field read -/
structure XcV (K : PySem.W.Frag) (mg : Str → Option Value) (nm fl : Str) (D FE : Addr) : Prop where
  xf : XfC K D
  ec : ExcC K D
  nf : PySem.W.findIn K (.ref D) fl = some none
  ko : PySem.W.kitOne K (.ref D) (.ref FE) = some true
  kv : PySem.W.kitOne K (.ref D) (.type "ValueError") = some true
  mm : PySem.W.exmOne K (.ref D) (.ref D) = some true
  g : mg nm = some (.ref D)
  gF : mg "FloorError" = some (.ref FE)
abbrev tsV (K : PySem.W.Frag) (D FE : Addr) (fl : Str) : Addr → Value → Option Addr → TS := fun ea cls d => tRet (tLst (tCons (tXf ea cls d D fl (tVar 2)) (tCons (tCB (rIsEF K D ea cls d) (tCons (tVar 2) (tCons (tC (.ref FE)) tNil))) (tCons (tCB (rIsEF K D ea cls d) (tCons (tVar 2) (tCons (tC (.ty "ValueError")) tNil))) tNil))))
def spNoK (K : PySem.W.Frag) (C CR : Addr) : Sp := fun vs H Q _ => ∃ (b p : Addr) (ks : List Nat) (X : Nat → Nat → Bool) (n : List Nat) (y : V), vs = [.ref b, y] ∧ RoomAt C CR H b p ks X n ∧ ((∃ t, TyX K H y t ∧ PySem.W.kitOne K t (.type "str") = some false) ∨ ∃ l : List Nat, y = .str (S l) ∧ l.length ≤ 90000 ∧ ∀ c ∈ ks, l ≠ [c]) ∧
  ∀ (r : Addr) (H' : Hp), H' r = some (.lst [y, .bl true, .bl true]) → L2.Same H H' → Q (.ref r) H'
abbrev nNk : List Str := ["_law_room", "_law_value", "e"]
theorem sc_nk : FnScope nNk ["_law_room", "_law_value"] (defScope s_law_no_kind) := ⟨rfl, rfl, rfl, by decide +kernel, rfl, by decide +kernel, by decide +kernel⟩
section
variable {P : Program} {w : World} {K : PySem.W.Frag} {mg : Str → Option Value} {base : Heap} {C CR CL CH IK FE : Addr}
theorem ok_nok (F : D K mg "_law_no_kind" s_law_no_kind []) (zi : mg "isinstance" = none) (zv : mg "ValueError" = none) (Z : Hv P w K mg base C CR CL CH IK) (R : XcV K mg "InvalidKind" "value" IK FE) : C8.Cal P w K mg base 9 "_law_no_kind" (spNoK K C CR) [] := by
  obtain ⟨bp, bg, bfd, bmc, cst, _, GB, bB⟩ := Z.bes
  have gH := Z.hm.gH
  refine F.cal (ps := ["_law_room", "_law_value"]) sc_nk (fun f fd F => F.bindsN fun _ _ _ _ _ _ us hl => match us, hl with | [_, _], _ => rfl) (fun vs H Q E h => ?_) (fun f cdv A outer s H vs Q E hr h => ?_)
  · obtain ⟨b, p, ks, X, n, y, rfl, _⟩ := h
    rfl
  · obtain ⟨b, p, ks, X, n, y, rfl, hb, hy, q⟩ := h
    refine ⟨_, pss_cons (L2N.ps_try_asL (i := 2) (tb := fun W => tDrop (tCStS CH (spBesE K C CR IK) (WE W) (tC (.ref CH)) (tCons (tVar 0) (tCons (tVar 1) tNil)))) (l := [(.ref IK, tsV K IK FE "value")]) rfl rfl sc_nk.nd rfl rfl takesN0
        (fun W pn xe tk _ => pss_one (ps_expr (pe_cstS (C8.pe_gc (v := .ref CH) (by rfl) ⟨_, gH, rfl⟩) cst GB bB (hr.mono (by decide)) (fun σ => L2N.passAt tk σ) (pa_cons (pv 0) (pa_cons (pv 1) pa_nil)))))
        (.cons ⟨by rfl, by decide, .inl R.g⟩ (fun ea oe cls d pn hz hf => pss_one (ps_ret (pe_lst (pa_cons (pe_xf R.xf R.nf hz.zc hf (pv 2)) (pa_cons (pe_callB (r := rIsEF K IK ea cls d) (call_isEF R.ec hz.zc hf) (by rfl) zi PyProof.Rows.boot_isinstance (pa_cons (pv 2) (pa_cons (C8.pe_gc (v := .ref FE) (by rfl) ⟨_, R.gF, rfl⟩) pa_nil)))
          (pa_cons (pe_callB (r := rIsEF K IK ea cls d) (call_isEF R.ec hz.zc hf) (by rfl) zi PyProof.Rows.boot_isinstance (pa_cons (pv 2) (pa_cons (pe_bltn (v := .ty "ValueError") (by rfl) zv (by decide +kernel) rfl) pa_nil))) pa_nil)))))) .nil))
      (pss_one (ps_ret (pe_lst pa_nil))), ?_⟩
    refine ⟨rfl, _, rfl, _, rfl, b, p, ks, X, n, y, rfl, hb, hy, fun dd G gd sm => ?_⟩
    refine ⟨true, R.mm, fun _ ea hea => ?_, fun z => nomatch z⟩
    refine ⟨_, rfl, rfl, rfl, dd, _, y, rfl, gd, ?_, ?_⟩
    · rw [List.lookup_cons, show (("value" : Str) == ("value" : Str)) = true from by decide +kernel]
    refine ⟨_, rfl, .ref FE, .ref FE, true, dd, _, rfl, rfl, rfl, fun u hu => hu, R.ko, gd, ?_⟩
    refine ⟨_, rfl, .ty "ValueError", .type "ValueError", true, dd, _, rfl, rfl, rfl, fun u hu => hu, R.kv, gd, ?_⟩
    refine ⟨(by show 3 ≤ sizeLine; exact len_line (by decide)), fun ll hll => ?_⟩
    exact q ll _ upd_same (sm.trans (same_new hll))
end
end TX
end
section
set_option maxRecDepth 100000
set_option maxHeartbeats 4000000
/-! what ways have in common, from their beginning on -/
namespace CW
variable {X : Nat → Nat → Bool} {ks : List Nat}
def outF (ks : List Nat) (X : Nat → Nat → Bool) (way : List Nat) (k : Nat) : List Nat :=
  way.take (way.length - (way.dropWhile fun c => (acr ks X k).contains c).length) ++ (way.dropWhile fun c => (acr ks X k).contains c).drop 1
def firstB (ks : List Nat) (X : Nat → Nat → Bool) (one other : List Nat) : List Nat := (ks.filter fun k => rd X one k && rd X other k).take 1
theorem outF_split (cr : Crossing X) {way : List Nat} {k : Nat} (kw : ∀ c ∈ way, c ∈ ks) (h : rd X way k = true) : ∃ p q, way = p ++ k :: q ∧ (∀ c ∈ p, X c k = true) ∧ outF ks X way k = p ++ q := by
  have e := take_drop_while (fun c => (acr ks X k).contains c) way
  have hd := drop_rd (ks := ks) cr (k := k) kw
  rw [h, beq_iff_eq] at hd
  have al := take_all (fun c => (acr ks X k).contains c) way
  unfold outF
  cases q : way.dropWhile fun c => (acr ks X k).contains c with
  | nil => rw [q] at hd; cases hd
  | cons a r =>
    rw [q] at hd e
    cases hd
    refine ⟨way.takeWhile fun c => (acr ks X k).contains c, r, e.symm, fun c hc => ?_, ?_⟩
    · have z := (mem_acr (ks := ks) (X := X)).mp (al c hc)
      rw [cr.sym]
      exact z.2
    · have l : way.length - (k :: r).length = (way.takeWhile fun c => (acr ks X k).contains c).length := by
        have := congrArg List.length e
        rw [List.length_append] at this
        omega
      rw [l]
      conv => lhs; arg 1; arg 2; rw [← e]
      rw [List.take_left]
      rfl
/-- the letters that may come next stand well behind the name that has been told -/
theorem out_front (cr : Crossing X) {a : List Nat} {c x : Nat} (ka : ∀ y ∈ a, y ∈ ks) (f : rd X a c = true) (ra : red X a = true) (h : rd X (outF ks X a c) x = true) : x ≠ c ∧ (X c x = true → rd X a x = true) := by
  obtain ⟨p, q, e, xp, eo⟩ := outF_split (ks := ks) cr ka f
  rw [eo] at h
  rw [e] at ra ⊢
  have rq : rd X q c = false := by
    have z : red X (c :: q) = true := red_suf ra
    unfold red at z
    rw [Bool.and_eq_true] at z
    cases y : rd X q c with
    | false => rfl
    | true => rw [y] at z; exact absurd z.1 (by decide)
  constructor
  · rintro rfl
    rw [rd_over cr (fun y hy => by rw [cr.sym]; exact xp y hy), rq] at h
    cases h
  · intro hx
    rcases rd_cat h with z | ⟨z1, z2⟩
    · exact rd_more z
    · rw [show p ++ c :: q = (p ++ [c]) ++ q from by rw [List.append_assoc]; rfl, rd_over cr (fun y hy => ?_)]
      · exact z2
      · rcases List.mem_append.mp hy with w | w
        · rw [cr.sym]
          exact z1 y w
        · rw [List.mem_singleton.mp w, cr.sym]
          exact hx
theorem firstB_least (up : ks.Pairwise (· < ·)) {a b : List Nat} {c : Nat} {r : List Nat} (h : firstB ks X a b = c :: r) {x : Nat} (hx : x ∈ ks) (h1 : rd X a x = true) (h2 : rd X b x = true) : ¬ x < c := by
  unfold firstB at h
  have m : x ∈ ks.filter fun k => rd X a k && rd X b k := List.mem_filter.mpr ⟨hx, by rw [h1, h2]; rfl⟩
  have pw := up.sublist (List.filter_sublist (p := fun k => rd X a k && rd X b k))
  cases e : ks.filter fun k => rd X a k && rd X b k with
  | nil => rw [e] at m; cases m
  | cons y q =>
    rw [e] at h m pw
    have h' : [y] = c :: r := h
    cases h'
    rcases List.mem_cons.mp m with z | z
    · omega
    · have := (List.pairwise_cons.mp pw).1 x z
      omega
def NmI (ks : List Nat) (X : Nat → Nat → Bool) (s a b : List Nat) : Prop := isName X s = true ∧ ∀ x ∈ ks, rd X a x = true → rd X b x = true → bar X s.reverse x = false
theorem NmI.step (cr : Crossing X) (up : ks.Pairwise (· < ·)) {s a b : List Nat} {c : Nat} {r : List Nat} (h : NmI ks X s a b) (ka : ∀ y ∈ a, y ∈ ks) (kb : ∀ y ∈ b, y ∈ ks) (ra : red X a = true) (rb : red X b = true) (hc : c ∈ ks) (f1 : rd X a c = true) (f2 : rd X b c = true) (e : firstB ks X a b = c :: r) : NmI ks X (s ++ [c]) (outF ks X a c) (outF ks X b c) := by
  refine ⟨?_, fun x hx h1 h2 => ?_⟩
  · rw [isName_snoc, h.2 c hc f1 f2, h.1]
    rfl
  · obtain ⟨n1, g1⟩ := out_front (ks := ks) cr ka f1 ra h1
    obtain ⟨_, g2⟩ := out_front (ks := ks) cr kb f2 rb h2
    rw [List.reverse_append]
    show bar X (c :: s.reverse) x = false
    rw [bar_cons_false]
    exact ⟨n1, fun y => ⟨firstB_least up e hx (g1 y) (g2 y), h.2 x hx (g1 y) (g2 y)⟩⟩
end CW
namespace TX
open PySem PySem.Spec PyProof.Rows L2 SX CW
def spWF (C : Addr) : Sp := fun vs H Q _ => ∃ (p : Addr) (ks : List Nat) (X : Nat → Nat → Bool) (way : List Nat) (k : Nat), vs = [.ref p, .str (S way), .str (S [k])] ∧ PlanAt C H p ks X ∧ k ∈ ks ∧ way.length ≤ 100000 ∧ Q (.str (S (outF ks X way k))) H
def spFB (C : Addr) : Sp := fun vs H Q _ => ∃ (p : Addr) (ks : List Nat) (X : Nat → Nat → Bool) (one other : List Nat), vs = [.ref p, .str (S one), .str (S other)] ∧ PlanAt C H p ks X ∧ (∀ c ∈ one, c ∈ ks) ∧ (∀ c ∈ other, c ∈ ks) ∧ one.length ≤ 100000 ∧ other.length ≤ 100000 ∧ Q (.str (S (firstB ks X one other))) H
def spShS (K : PySem.W.Frag) (C : Addr) : Sp := fun vs H Q _ => ∃ (p : Addr) (ks : List Nat) (X : Nat → Nat → Bool) (one other : List Nat), vs = [.ref p, .str (S one), .str (S other)] ∧ PlanAt C H p ks X ∧ (∀ c ∈ one, c ∈ ks) ∧ (∀ c ∈ other, c ∈ ks) ∧ one.length ≤ 100000 ∧ other.length ≤ 100000 ∧
  ∀ (t : Addr) (s u v : List Nat) (H' : Hp), Shared ks X one other s u v → (red X one = true → red X other = true → isName X s = true) → H' t = some (.tup [.str (S s), .str (S u), .str (S v)]) → L2.Same H H' → Q (.ref t) H'
section
variable {P : Program} {w : World} {K : PySem.W.Frag} {mg : Str → Option Value} {base : Heap} {C : Addr}
abbrev nWF : List Str := ["plan", "way", "kind", "rest"]
abbrev nFB : List Str := ["plan", "one", "other", "kind"]
def lenOne (σ : L2.St) : Nat := match σ[1]? with
  | some (some (V.str x)) => x.length
  | _ => 0
abbrev nSS : List Str := ["plan", "one", "other", "start", "kind"]
theorem firstB_none {ks : List Nat} {X : Nat → Nat → Bool} {a b : List Nat} (h : firstB ks X a b = []) : ∀ c ∈ ks, rd X a c = true → rd X b c = true → False := fun c hc h1 h2 => by
  unfold firstB at h
  have m : c ∈ ks.filter fun k => rd X a k && rd X b k := List.mem_filter.mpr ⟨hc, by rw [h1, h2]; rfl⟩
  cases e : ks.filter fun k => rd X a k && rd X b k with
  | nil => rw [e] at m; cases m
  | cons x r => rw [e] at h; cases h
theorem firstB_some {ks : List Nat} {X : Nat → Nat → Bool} {a b : List Nat} {c : Nat} {r : List Nat} (h : firstB ks X a b = c :: r) : r = [] ∧ c ∈ ks ∧ rd X a c = true ∧ rd X b c = true := by
  unfold firstB at h
  cases e : ks.filter fun k => rd X a k && rd X b k with
  | nil => rw [e] at h; cases h
  | cons x q =>
    rw [e] at h
    have h' : [x] = c :: r := h
    cases h'
    have m : c ∈ ks.filter fun k => rd X a k && rd X b k := by rw [e]; exact List.mem_cons_self
    obtain ⟨m1, m2⟩ := List.mem_filter.mp m
    rw [Bool.and_eq_true] at m2
    exact ⟨rfl, m1, m2.1, m2.2⟩
theorem out_rch {ks : List Nat} {X : Nat → Nat → Bool} (cr : Crossing X) {o s a : List Nat} {c : Nat} (h : Rch X o (s ++ a)) (ka : ∀ x ∈ a, x ∈ ks) (f : rd X a c = true) : Rch X o (s ++ [c] ++ outF ks X a c) ∧ (outF ks X a c).length + 1 = a.length ∧ ∀ x ∈ outF ks X a c, x ∈ ks := by
  obtain ⟨p, q, e, xp, eo⟩ := outF_split (ks := ks) cr ka f
  rw [eo]
  refine ⟨?_, by rw [e]; simp; omega, fun x hx => ka x (by rw [e]; rcases List.mem_append.mp hx with z | z <;> simp [z])⟩
  rw [e] at h
  have z := Rch.left (X := X) cr (k := c) q p s fun b hb => by rw [cr.sym]; exact xp b hb
  have y := h.trans z
  rw [List.append_assoc]
  exact y
end
end TX
end
section
set_option maxRecDepth 100000
set_option maxHeartbeats 4000000
/-! a block in a block -/
namespace TX
open PySem PySem.Spec PyProof.Rows L2 SX CW
/-- a block in a block: what is free is a cell or free around it -/
theorem relab_free {env : Env} {x : Str} : ∀ {names : List (Str × NameKind)}, (names.lookup x = some .cell ∨ names.lookup x = some .free) →
    ((names.map fun (n, k) => if (k == NameKind.free && env.scope.kind == .function && env.kindOf n == some .cell) then (n, NameKind.cell) else (n, k)).lookup x = some .cell ∨
     (names.map fun (n, k) => if (k == NameKind.free && env.scope.kind == .function && env.kindOf n == some .cell) then (n, NameKind.cell) else (n, k)).lookup x = some .free)
  | [], h => by simp at h
  | (n, k) :: r, h => by
    rw [List.map_cons]
    simp only [List.lookup_cons] at h
    cases e : x == n with
    | true =>
      rw [e] at h
      dsimp only at h ⊢
      split
      · simp [List.lookup_cons, e]
      · simp only [List.lookup_cons, e]
        exact h
    | false =>
      rw [e] at h
      dsimp only at h ⊢
      have ih := relab_free (env := env) (names := r) h
      split
      · simp only [List.lookup_cons, e]
        exact ih
      · simp only [List.lookup_cons, e]
        exact ih
theorem blk_in {N : List Str} {sc scope : Scope} {own : List (Str × Nat)} (z : BlkOk N sc scope own) (env : Env) : BlkOk N (relabel sc env) scope own :=
  ⟨z.kind, z.uniq, z.ix, fun y h1 h2 => relab_free (z.free y h1 h2), z.own⟩
theorem ix_seq0 {K : PySem.W.Frag} {H : Hp} {l : Addr} {xs : List V} {x : V} {Q : VK} (hs : SqL K H l xs ∨ SqT K H l xs) (h : xs[0]? = some x) (q : Q x H) : rIxL K (.ref l) (.int 0) H Q ∨ rIxT K (.ref l) (.int 0) H Q := by
  have e : atI xs 0 = some x := by
    show atI xs ((0 : Nat) : Int) = _
    exact atI_nat h
  exact hs.imp (fun z => ⟨l, xs, 0, x, rfl, rfl, z, e, q⟩) fun z => ⟨l, xs, 0, x, rfl, rfl, z, e, q⟩
end TX
end
section
set_option maxRecDepth 100000
set_option maxHeartbeats 16000000
/-! _law_is_alone -/
namespace TX
open PySem PySem.Spec PyProof.Rows L2 SX CW
theorem mkX {K : PySem.W.Frag} {C c : Addr} {H H1 : Hp} {zs ks : List Nat} {X : Nat → Nat → Bool} {es : List Str} {R : Addr → Hp → Prop} {E : XK} (s1 : L2.Same H H1) (pm : zs.Perm ks) (up : ks.Pairwise (· < ·)) (abc : ∀ k ∈ ks, 97 ≤ k ∧ k ≤ 122) (l8 : ks.length ≤ 8) (cr : Crossing X) (hs : SqL K H1 c (es.map V.str) ∨ SqT K H1 c (es.map V.str)) (h64 : es.length < 64)
    (pr : ∀ e ∈ es, ∃ a b, e = S [a, b] ∧ a ∈ ks ∧ b ∈ ks ∧ X a b = true) (all : ∀ a b, a ∈ ks → b ∈ ks → a < b → X a b = true → S [a, b] ∈ es ∨ S [b, a] ∈ es) (q : ∀ (r : Addr) (H' : Hp), PlanAt C H' r ks X → L2.Same H H' → R r H') :
    ∀ x dx, H1 x = none → H1 dx = none → dx ≠ x → spPlanInit K C (.ref x :: ([.str (S zs), .ref c] ++ [])) (upd (upd H1 dx (.own x)) x (.ins C dx [])) (fun v H2 => v = .non ∧ R x H2) E := by
  intro x dx hx hdx nd
  have s2 : L2.Same H1 (upd (upd H1 dx (.own x)) x (.ins C dx [])) := fun b o e => by
    rw [upd_ne (ne_of_none e hx), upd_ne (ne_of_none e hdx)]
    exact e
  refine ⟨x, dx, c, zs, ks, X, es, rfl, upd_same, pm, up, abc, l8, cr, hs.imp s2.seq (sameT s2), h64, pr, all, fun H' b pl => ⟨rfl, q x H' pl fun b2 o e => ?_⟩⟩
  have e1 := s1 _ _ e
  exact b _ _ (ne_of_none e1 hx) (s2 _ _ e1)
def noX : Nat → Nat → Bool := fun _ _ => false
def abX : Nat → Nat → Bool := fun a b => (decide (a = 97) && decide (b = 98)) || (decide (a = 98) && decide (b = 97))
theorem noX_cr : Crossing noX := ⟨fun _ _ => rfl, fun _ => rfl⟩
theorem abX_cr : Crossing abX := ⟨fun a b => by
  unfold abX
  cases decide (a = 97) <;> cases decide (b = 98) <;> cases decide (a = 98) <;> cases decide (b = 97) <;> rfl, fun a => by
  unfold abX
  by_cases h : a = 97
  · subst h
    rfl
  · simp [h]⟩
theorem samePl_iff {ks ks' : List Nat} {X X' : Nat → Nat → Bool} : samePl ks X ks' X' = true ↔ ks = ks' ∧ prs ks X = prs ks' X' := by
  unfold samePl
  rw [Bool.and_eq_true, decide_eq_true_iff, decide_eq_true_iff]
theorem samePl_symm {ks ks' : List Nat} {X X' : Nat → Nat → Bool} : samePl ks X ks' X' = samePl ks' X' ks X := by
  rw [Bool.eq_iff_iff, samePl_iff, samePl_iff]
  exact ⟨fun ⟨a, b⟩ => ⟨a.symm, b.symm⟩, fun ⟨a, b⟩ => ⟨a.symm, b.symm⟩⟩
theorem op_cmpOwnXK {X : Cx} {k : Nat} {C : Addr} {sp : Sp} {K : PySem.W.Frag} {op : CmpOp} (hK : X.K = K) (hop : ∀ a b, compareOp op a b = richCompare op a b) (D : Dun X.prog X.w X.K X.mg X.base k C (cmpInfo op).2.1 sp) (hr : Room k X.A) :
    OpR X (compareOp op) (fun x y H Q => ∃ a dx fs t, x = .ref a ∧ H a = some (.ins C dx fs) ∧ TyX K H y t ∧ (t = .ref C ∨ PySem.W.subIn K t (.ref C) = some false) ∧ sp [x, y] H Q C8.E0) := by
  subst hK
  exact op_cmpOwnX hop D hr
/-- what the classes say of each other -/
structure Ap (K : PySem.W.Frag) (C CR CL CH : Addr) : Prop where
  iP : C8.InsC K C
  iR : C8.InsC K CR
  iL : C8.InsC K CL
  iH : C8.InsC K CH
  ty : ∀ T ∈ (["NoneType", "bool", "int", "str", "tuple", "list", "dict"] : List String), PySem.W.kitOne K (.type T) (.ref CR) = some false ∧ PySem.W.kitOne K (.type T) (.ref CH) = some false ∧ PySem.W.subIn K (.type T) (.ref CH) = some false
  ow : ∀ D ∈ [C, CL, CR], PySem.W.kitOne K (.ref D) (.ref CH) = some false ∧ PySem.W.subIn K (.ref D) (.ref CH) = some false
  ro : ∀ D ∈ [C, CL, CH], PySem.W.kitOne K (.ref D) (.ref CR) = some false
def spAlone (C CR CL CH : Addr) : Sp := fun vs H Q _ => ∃ (pl md a x q : Addr) (ks : List Nat) (X : Nat → Nat → Bool) (u : List Nat) (k : Nat) (sd : Bool), vs = [.ref pl, .ref md] ∧ PlanAt C H pl ks X ∧ HalfAt C CR CL CH H md a x q ks X u k sd ∧
  ∀ H', L2.Same H H' → Q (.bl true) H'
abbrev nAl : List Str := ["_law_plan", "_law_made", "_law_strange", "_law_others", "_law_value"]
theorem sc_al : FnScope nAl ["_law_plan", "_law_made"] (defScope s_law_is_alone) := ⟨rfl, rfl, rfl, by decide +kernel, rfl, by decide +kernel, by decide +kernel⟩
/-- a value that is neither in the half nor equal to it -/
def AloneV (K : PySem.W.Frag) (C CR CL CH : Addr) (H : Hp) (ks : List Nat) (X : Nat → Nat → Bool) (sd : Bool) (y : V) : Prop :=
  ((∃ (b q : Addr) (ks' : List Nat) (X' : Nat → Nat → Bool) (n : List Nat), y = .ref b ∧ RoomAt C CR H b q ks' X' n ∧ samePl ks' X' ks X = false) ∨ ∃ t, TyX K H y t ∧ PySem.W.kitOne K t (.ref CR) = some false) ∧
  ∃ t, TyX K H y t ∧ (t = .ref CH ∨ PySem.W.subIn K t (.ref CH) = some false) ∧ ((∃ (h a x p : Addr) (u : List Nat) (d : Nat), y = .ref h ∧ HalfAt C CR CL CH H h a x p ks X u d !sd) ∨ PySem.W.kitOne K t (.ref CH) = some false)
section
variable {P : Program} {w : World} {K : PySem.W.Frag} {mg : Str → Option Value} {base : Heap} {C CR CL CH IK FE : Addr}
theorem al_rest (Z : Hv P w K mg base C CR CL CH IK) (Y : Ap K C CR CL CH) (mR0 : C8.Mak P w K mg base 3 "Room" CR (spRoomInit C CR) [.str ""]) (f : Addr) (cdv : Value) (A : Around) (outer : List Env) (s0 : PySem.Shared) (H0 : Hp) (E0 : XK)
    (hr : L2.Room 8 (A.deeper (envOfC "_law_is_alone" (defScope s_law_is_alone) s0.heap.objs.size f cdv))) :
    ∃ tt, PSs (cxOf C8.CX0 P w K mg base nAl "_law_is_alone" (defScope s_law_is_alone) f cdv A outer s0 H0 E0).nox ((defBody s_law_is_alone).drop 2) tt ∧
      ∀ (nx : L2.St → Hp → Prop) (Q : VK) (pl md a x q st : Addr) (ks : List Nat) (X : Nat → Nat → Bool) (u : List Nat) (k : Nat) (sd : Bool) (ks' : List Nat) (X' : Nat → Nat → Bool) (G : Hp), PlanAt C G pl ks X → HalfAt C CR CL CH G md a x q ks X u k sd → PlanAt C G st ks' X' → samePl ks' X' ks X = false →
        (∀ H', L2.Same G H' → Q (.bl true) H') → tt { nx := nx, rt := Q } [some (.ref pl), some (.ref md), some (.ref st), none, none] G := by
  obtain ⟨TR, TW, TH, mk, DC, DI, DE, NE, bes, mW, DW, mR, get⟩ := Z
  have hu := hu_of hr
  have hn : (A.deeper (envOfC "_law_is_alone" (defScope s_law_is_alone) s0.heap.objs.size f cdv)).units < cLine := by omega
  refine ⟨_, PSs.nox (pss_cons (ps_set (i := 3) sc_al.nd rfl (.inl rfl) (pe_lst (pa_cons pe_non (pa_cons pe_bl (pa_cons pe_int (pa_cons pe_str (pa_cons pe_str (pa_cons (pe_tup pa_nil) (pa_cons (pe_lst pa_nil) (pa_cons pe_dnewK (pa_cons (pe_disp (pps_cons pe_str pe_int pps_nil) (by rfl) (by rfl) (fun z => by cases z) (by decide))
        (pa_cons (pv 0) (pa_cons (pe_fld (pv 1) rfl) (pa_cons (C8.pe_mk mR0 hr (by decide) (by rfl) (pa_cons (pv 2) pa_nil)) (pa_cons (pe_un (un_invOwn DI (hr.mono (by decide))) (pv 1)) pa_nil)))))))))))))))
      (pss_one (ps_ret (pe_and (pe_cmpR (op_eqNil hn) (pe_lc (own := [("_law_value", 4)]) (g := gName 4) rfl sc_al.nd (pi_list (pv 3)) (blkOk_by (own := [("_law_value", 4)]) (N := nAl) (sc := defScope s_law_is_alone) (by decide +kernel)) (fun _ _ _ _ _ => pg_name (i := 4) sc_al.nd rfl (.inl rfl))
          (fun _ _ _ _ _ => by exact pts_one (PW.pt (pw_or (pt_cmpR (op_inOwn DC (hr.mono (by decide))) (pv 4) (pv 1) (by rfl)) (pw_or1 (pt_cmpR (op_cmpOwnXK (K := K) (op := .Eq) rfl (fun _ _ => rfl) DE (hr.mono (by decide))) (pv 1) (pv 4) (nomark _)))))) (fun _ _ _ _ _ => pv 4)) (pe_lst pa_nil) (nomark _))
        (pe_one (pe_cmpR (op_notInOwn DC (hr.mono (by decide))) (pv 1) (pv 1) (by rfl))))))), ?_⟩
  intro nx Q pl md a x q st ks X u k sd ks' X' G hp hm hst ne fin
  refine ⟨(by show 0 ≤ sizeLine; exact Nat.zero_le _), fun t1 ht1 => ?_⟩
  have s1 := same_new (o := .tup []) ht1
  have g1 : (upd G t1 (.tup [])) t1 = some (.tup []) := upd_same
  generalize (upd G t1 (.tup [])) = G1 at s1 g1 ⊢
  refine ⟨(by show 0 ≤ sizeLine; exact Nat.zero_le _), fun l1 hl1 => ?_⟩
  have s2 := same_new (o := .lst []) hl1
  have g2 : (upd G1 l1 (.lst [])) l1 = some (.lst []) := upd_same
  generalize (upd G1 l1 (.lst [])) = G2 at s2 g2 ⊢
  intro d1 hd1
  have s3 := same_new (o := .dK []) hd1
  have g3 : (upd G2 d1 (.dK [])) d1 = some (.dK []) := upd_same
  generalize (upd G2 d1 (.dK [])) = G3 at s3 g3 ⊢
  refine fun dd hdd => ⟨upd_same, [(Sum.inr "a", .int 1)], rfl, by decide, ?_⟩
  have s4 : L2.Same G3 (upd (upd G3 dd (.dK [])) dd (.dK (mergeK [] [(Sum.inr "a", .int 1)]))) := fun b o e => by
    rw [upd_ne (ne_of_none e hdd), upd_ne (ne_of_none e hdd)]
    exact e
  have g4 : (upd (upd G3 dd (.dK [])) dd (.dK (mergeK [] [(Sum.inr "a", .int 1)]))) dd = some (.dK (mergeK [] [(Sum.inr "a", .int 1)])) := upd_same
  generalize (upd (upd G3 dd (.dK [])) dd (.dK (mergeK [] [(Sum.inr "a", .int 1)]))) = G4 at s4 g4 ⊢
  have s04 := s1.trans (s2.trans (s3.trans s4))
  obtain ⟨dm, em⟩ := hm.ex
  refine ⟨_, rfl, _, rfl, md, CH, dm, _, _, rfl, s04 _ _ em, TH.cl, TH.nw, hf_wall _ _ _, ?_⟩
  refine ⟨_, rfl, fun y dy hy hdy _ => mk_room0 hy hdy (hst.same s04) fun G5 ra s5 => ⟨rfl, ?_⟩⟩
  have s05 := s04.trans s5
  refine ⟨_, rfl, md, dm, _, rfl, s05 _ _ em, md, a, x, q, ks, X, u, k, sd, rfl, hm.same s05, fun r G6 hr6 s6 => ?_⟩
  refine ⟨(by show 13 ≤ sizeLine; exact len_line (by decide)), fun ol hol => ?_⟩
  have s7 := same_new (o := .lst [V.non, V.bl true, V.int 1, V.str "a", V.str "", V.ref t1, V.ref l1, V.ref d1, V.ref dd, V.ref pl, V.ref a, V.ref y, V.ref r]) hol
  have g7 : (upd G6 ol (.lst [V.non, V.bl true, V.int 1, V.str "a", V.str "", V.ref t1, V.ref l1, V.ref d1, V.ref dd, V.ref pl, V.ref a, V.ref y, V.ref r])) ol = some (.lst [V.non, V.bl true, V.int 1, V.str "a", V.str "", V.ref t1, V.ref l1, V.ref d1, V.ref dd, V.ref pl, V.ref a, V.ref y, V.ref r]) := upd_same
  generalize (upd G6 ol (.lst [V.non, V.bl true, V.int 1, V.str "a", V.str "", V.ref t1, V.ref l1, V.ref d1, V.ref dd, V.ref pl, V.ref a, V.ref y, V.ref r])) = G7 at s7 g7 ⊢
  have s57 := s6.trans s7
  have s47 := s5.trans s57
  have s37 := s4.trans s47
  have s27 := s3.trans s37
  have s17 := s2.trans s27
  have s07 := s05.trans s57
  have all : ∀ (i : Nat) (v : V), [V.non, V.bl true, V.int 1, V.str "a", V.str "", V.ref t1, V.ref l1, V.ref d1, V.ref dd, V.ref pl, V.ref a, V.ref y, V.ref r][i]? = some v → AloneV K C CR CL CH G7 ks X sd v := fun i v hv => by
    have bi : ∀ (T : String) (v : V), T ∈ (["NoneType", "bool", "int", "str", "tuple", "list", "dict"] : List String) → TyX K G7 v (.type T) → AloneV K C CR CL CH G7 ks X sd v := fun T v m t => ⟨.inr ⟨_, t, (Y.ty T m).1⟩, _, t, .inr (Y.ty T m).2.2, .inr (Y.ty T m).2.1⟩
    obtain ⟨dp, _, _, _, ep, _⟩ := (hp.same s07).ex
    obtain ⟨da, ea⟩ := (hm.wl.same s07).ex
    obtain ⟨dy, ey⟩ := (ra.same s57).ex
    obtain ⟨dr, er⟩ := (hr6.same s7).ex
    match i, hv with
    | 0, hv => cases hv; exact bi "NoneType" _ (by simp) (.base .non)
    | 1, hv => cases hv; exact bi "bool" _ (by simp) (.base (.bl _))
    | 2, hv => cases hv; exact bi "int" _ (by simp) (.base (.int _))
    | 3, hv => cases hv; exact bi "str" _ (by simp) (.base (.str _))
    | 4, hv => cases hv; exact bi "str" _ (by simp) (.base (.str _))
    | 5, hv => cases hv; exact bi "tuple" _ (by simp) (.base (.tup (s17 _ _ g1)))
    | 6, hv => cases hv; exact bi "list" _ (by simp) (.base (.lst (s27 _ _ g2)))
    | 7, hv => cases hv; exact bi "dict" _ (by simp) (.base (.dK (s37 _ _ g3)))
    | 8, hv => cases hv; exact bi "dict" _ (by simp) (.base (.dK (s47 _ _ g4)))
    | 9, hv => cases hv; exact ⟨.inr ⟨_, .base (.ins ep Y.iP.cl Y.iP.ha Y.iP.hn Y.iP.htk Y.iP.hm), Y.ro _ (by simp)⟩, _, .base (.ins ep Y.iP.cl Y.iP.ha Y.iP.hn Y.iP.htk Y.iP.hm), .inr (Y.ow _ (by simp)).2, .inr (Y.ow _ (by simp)).1⟩
    | 10, hv => cases hv; exact ⟨.inr ⟨_, .base (.ins ea Y.iL.cl Y.iL.ha Y.iL.hn Y.iL.htk Y.iL.hm), Y.ro _ (by simp)⟩, _, .base (.ins ea Y.iL.cl Y.iL.ha Y.iL.hn Y.iL.htk Y.iL.hm), .inr (Y.ow _ (by simp)).2, .inr (Y.ow _ (by simp)).1⟩
    | 11, hv => cases hv; exact ⟨.inl ⟨y, st, ks', X', [], rfl, ra.same s57, ne⟩, _, .base (.ins ey Y.iR.cl Y.iR.ha Y.iR.hn Y.iR.htk Y.iR.hm), .inr (Y.ow _ (by simp)).2, .inr (Y.ow _ (by simp)).1⟩
    | 12, hv => cases hv; exact ⟨.inr ⟨_, .base (.ins er Y.iH.cl Y.iH.ha Y.iH.hn Y.iH.htk Y.iH.hm), Y.ro _ (by simp)⟩, _, .base (.ins er Y.iH.cl Y.iH.ha Y.iH.hn Y.iH.htk Y.iH.hm), .inl rfl, .inl ⟨r, a, x, q, u, k, rfl, hr6.same s7⟩⟩
  have hm7 := hm.same s07
  have em7 := s07 _ _ em
  generalize [V.non, V.bl true, V.int 1, V.str "a", V.str "", V.ref t1, V.ref l1, V.ref d1, V.ref dd, V.ref pl, V.ref a, V.ref y, V.ref r] = xs at g7 all
  refine ⟨_, rfl, ol, rfl, ⟨_, SqL.of g7⟩, fun D hD => ?_⟩
  refine lc_it (walk_list (K := K) (a := ol) (xs := xs)) (fun j G' => G' D = some (.lst []) ∧ L2.Same G7 G') ⟨upd_same, same_new hD⟩ (fun j G' _ z => z.2.seq (SqL.of g7)) ?_ ?_
  · rintro j v G8 G9 hj ⟨g8, s8⟩ ⟨rfl, hv⟩
    obtain ⟨h1, t, ty, nf, h2⟩ := all j v hv
    have hm8 := hm7.same s8
    have em8 := s8 _ _ em7
    refine ⟨rfl, _, rfl, _, rfl, md, dm, _, rfl, em8, md, a, x, q, ks, X, u, k, sd, v, rfl, hm8, ?_⟩
    rcases h1 with ⟨b, q', ks2, X2, n, rfl, ra2, ne2⟩ | ⟨t1, ty1, kt1⟩
    · refine .inr (.inl ⟨b, q', ks2, X2, n, rfl, ra2.same s8, ne2, _, rfl, _, rfl, iteF ?_⟩)
      refine ⟨_, rfl, _, rfl, md, dm, _, t, rfl, em8, TyX.same ty s8, nf, md, a, x, q, ks, X, u, k, sd, _, rfl, hm8, ?_⟩
      rcases h2 with ⟨h', a', x', p', u', d', eh, hh⟩ | kt
      · refine .inl ⟨h', a', x', p', u', d', !sd, eh, hh.same s8, _, rfl, ?_⟩
        rw [show decide (sd = !sd) = false from by cases sd <;> rfl, Bool.false_and]
        exact iteF ⟨g8, s8⟩
      · exact .inr ⟨t, TyX.same ty s8, kt, _, rfl, iteF ⟨g8, s8⟩⟩
    · refine .inr (.inr ⟨t1, TyX.same ty1 s8, kt1, _, rfl, _, rfl, iteF ?_⟩)
      refine ⟨_, rfl, _, rfl, md, dm, _, t, rfl, em8, TyX.same ty s8, nf, md, a, x, q, ks, X, u, k, sd, _, rfl, hm8, ?_⟩
      rcases h2 with ⟨h', a', x', p', u', d', eh, hh⟩ | kt
      · refine .inl ⟨h', a', x', p', u', d', !sd, eh, hh.same s8, _, rfl, ?_⟩
        rw [show decide (sd = !sd) = false from by cases sd <;> rfl, Bool.false_and]
        exact iteF ⟨g8, s8⟩
      · exact .inr ⟨t, TyX.same ty s8, kt, _, rfl, iteF ⟨g8, s8⟩⟩
  · rintro G8 ⟨g8, s8⟩
    refine ⟨(by show 0 ≤ sizeLine; exact Nat.zero_le _), fun ee hee => ?_⟩
    have s9 := same_new (o := .lst []) hee
    refine ⟨D, ee, [], rfl, rfl, SqL.of (s9 _ _ g8), SqL.of upd_same, _, rfl, iteT ?_⟩
    have s79 := s8.trans s9
    have hm9 := hm7.same s79
    obtain ⟨d9, e9⟩ := hm9.ex
    refine ⟨_, rfl, _, rfl, md, d9, _, rfl, e9, md, a, x, q, ks, X, u, k, sd, _, rfl, hm9, .inr (.inr ⟨.ref CH, .base (.ins e9 Y.iH.cl Y.iH.ha Y.iH.hn Y.iH.htk Y.iH.hm), Y.ro _ (by simp), _, rfl, ?_⟩)⟩
    exact fin _ (s07.trans s79)
theorem ok_alone (F : D K mg "_law_is_alone" s_law_is_alone []) (Z : Hv P w K mg base C CR CL CH IK) (Y : Ap K C CR CL CH) (kP : C8.Mak P w K mg base 3 "Plan" C (spPlanInit K C) []) (k1 : ∃ d, C8.Mak P w K mg base 3 "Plan" C (spPlanInit K C) [.ref d] ∧ ∀ H, SqT K H d [])
    (DP : Dun P w K mg base 1 C "__eq__" (spPlanEqG C)) (mR0 : C8.Mak P w K mg base 3 "Room" CR (spRoomInit C CR) [.str ""]) : C8.Cal P w K mg base 9 "_law_is_alone" (spAlone C CR CL CH) [] := by
  obtain ⟨dd, kD, sD⟩ := k1
  refine F.cal (ps := ["_law_plan", "_law_made"]) sc_al (fun f fd F => F.bindsN fun _ _ _ _ _ _ us hl => match us, hl with | [_, _], _ => rfl) (fun vs H Q E h => ?_) (fun f cdv A outer s H vs Q E hr h => ?_)
  · obtain ⟨pl, md, a, x, q, ks, X, u, k, sd, rfl, _⟩ := h
    rfl
  · obtain ⟨pl, md, a, x, q, ks, X, u, k, sd, rfl, hp, hm, fin⟩ := h
    obtain ⟨tR, hR, qR⟩ := al_rest Z Y mR0 f cdv A outer s H E hr
    refine ⟨_, pss_cons (ps_set (i := 2) sc_al.nd rfl (.inl rfl) (C8.pe_mk kP hr (by decide) (by rfl) (pa_cons pe_str (pa_cons (pe_lst (pa_cons pe_str pa_nil)) pa_nil))))
      (pss_cons (ps_if (pt_cmpR (op_cmpOwn (op := .Eq) (fun _ _ => rfl) DP (hr.mono (by decide))) (pv 0) (pv 2) (nomark _)) (pss_one (ps_set (i := 2) sc_al.nd rfl (.inl rfl) (C8.pe_mk kD hr (by decide) (by rfl) (pa_cons pe_str pa_nil)))) pss_nil) hR), ?_⟩
    have eab : ("ab" : Str) = S [97, 98] := by decide +kernel
    rw [eab]
    refine ⟨(by show 1 ≤ sizeLine; exact len_line (by decide)), fun L hL => ?_⟩
    have s1 := same_new (o := .lst [V.str (S [97, 98])]) hL
    have g1 : (upd H L (.lst [V.str (S [97, 98])])) L = some (.lst [V.str (S [97, 98])]) := upd_same
    generalize (upd H L (.lst [V.str (S [97, 98])])) = H1 at s1 g1 ⊢
    have up : ([97, 98] : List Nat).Pairwise (· < ·) := by decide
    have abc : ∀ k ∈ ([97, 98] : List Nat), 97 ≤ k ∧ k ≤ 122 := by decide
    refine mkX (c := L) (zs := [97, 98]) (ks := [97, 98]) (X := abX) (es := [S [97, 98]]) s1 (.refl _) up abc (by decide) abX_cr (.inl (SqL.of g1)) (by decide) (fun e he => ?_) (fun a b ha hb lt hx => ?_) fun st H2 hst s2 => ?_
    · rw [List.mem_singleton.mp he]
      exact ⟨97, 98, rfl, by decide, by decide, rfl⟩
    · simp only [List.mem_cons, List.not_mem_nil, or_false] at ha hb
      rcases ha with rfl | rfl <;> rcases hb with rfl | rfl
      · omega
      · exact .inl (by simp)
      · omega
      · omega
    obtain ⟨dp, _, _, _, e1, _⟩ := (hp.same s2).ex
    obtain ⟨ds, _, _, _, e2, _⟩ := hst.ex
    refine ⟨_, rfl, _, rfl, pl, dp, _, st, ds, _, rfl, rfl, e1, e2, pl, st, ks, X, [97, 98], abX, rfl, hp.same s2, hst, _, rfl, ?_⟩
    cases e : samePl ks X [97, 98] abX with
    | false =>
      refine iteF (qR _ _ pl md a x q st ks X u k sd [97, 98] abX H2 (hp.same s2) (hm.same s2) hst (by rw [samePl_symm]; exact e) fun H' s => fin H' (s2.trans s))
    | true =>
      refine iteT ?_
      refine mkX (c := dd) (zs := [97, 98]) (ks := [97, 98]) (X := noX) (es := []) (L2.Same.refl _) (.refl _) up abc (by decide) noX_cr (.inr (sD _)) (by decide) (fun e he => by cases he) (fun a b _ _ _ hx => by cases hx) fun st2 H3 hst2 s3 => ?_
      have s23 := s2.trans s3
      refine qR _ _ pl md a x q st2 ks X u k sd [97, 98] noX H3 (hp.same s23) (hm.same s23) hst2 ?_ fun H' s => fin H' (s23.trans s)
      cases e3 : samePl [97, 98] noX ks X with
      | false => rfl
      | true =>
        have i1 := samePl_iff.mp e
        have i2 := samePl_iff.mp e3
        have z := i2.2.trans i1.2
        exact absurd z (by decide +kernel)
end
end TX
end
section
set_option maxRecDepth 100000
set_option maxHeartbeats 16000000
/-! the law's lap, from its end: the kinds that are refused -/
namespace TX
open PySem PySem.Spec PyProof.Rows L2 SX CW
theorem call_str_bl {X : Cx} : CallR X (.type "str") (fun xs H Q => ∃ k, xs = [.bl k] ∧ Q (.str (if k then "True" else "False")) H) := by
  intro pins s σ H xs us Q I r h
  obtain ⟨k, rfl, q⟩ := h
  obtain ⟨u, rfl, r1⟩ := vals1 r
  cases r1
  exact PySem.P.str_of_bool ⟨.str _, H, I.tok _, ⟨_, rfl⟩, q⟩
abbrev nLaw : List Str := ["_law_script", "_law_pen", "_law_turn", "_law_floor", "_law_plan", "_law_way", "_law_kind", "_law_side", "_law_half", "_law_shut", "_law_made", "_law_bare_here", "_law_apart", "_law_bared", "_law_longer", "_law_partners", "_law_k", "_law_twin", "_law_value"]
theorem sc_law : FnScope nLaw ["_law_script"] (defScope s_law) := ⟨rfl, rfl, rfl, by decide +kernel, rfl, by decide +kernel, by decide +kernel⟩
def forBody : Stmt → List Stmt
  | .For _ _ b _ _ => b
  | _ => []
abbrev bLoop : List Stmt := forBody ((defBody s_law).getD 1 (.Pass ⟨0, 0, 0, 0⟩))
abbrev lx (P : Program) (w : World) (K : PySem.W.Frag) (mg : Str → Option Value) (base : Heap) (f : Addr) (cdv : Value) (A : Around) (outer : List Env) (s : PySem.Shared) (H : Hp) (E : XK) : Cx :=
  (cxOf C8.CX0 P w K mg base nLaw "law" (defScope s_law) f cdv A outer s H E).nox
structure LawC (P : Program) (w : World) (K : PySem.W.Frag) (mg : Str → Option Value) (base : Heap) (C CR CL CH IK : Addr) : Prop where
  Z : Hv P w K mg base C CR CL CH IK
  TP : PlanT K C
  cPen : C8.Cal P w K mg base 1 "_law_begin" (spPen K) []
  cD : C8.Cal P w K mg base 1 "_law_draw" spDraw []
  cPk : C8.Cal P w K mg base 2 "_law_pick" spPickS []
  cFl : C8.Cal P w K mg base 3 "_law_drawn_floor" spFloorN []
  cPl : C8.Cal P w K mg base 5 "_law_as_plan" (spPlanN C) []
  cWy : C8.Cal P w K mg base 3 "_law_drawn_way" spWayN []
  cHf : C8.Cal P w K mg base 3 "_law_half_of" spHalfN []
  cBr : C8.Cal P w K mg base 1 "_law_bare" spBareN []
  cNk : C8.Cal P w K mg base 9 "_law_no_kind" (spNoK K C CR) []
  cSd : C8.Cal P w K mg base 10 "_law_has_its_side" (spSideN C CR CL CH) []
  cAl : C8.Cal P w K mg base 9 "_law_is_alone" (spAlone C CR CL CH) []
  kP : C8.Mak P w K mg base 3 "Plan" C (spPlanInit K C) []
  k1 : ∃ d, C8.Mak P w K mg base 3 "Plan" C (spPlanInit K C) [.ref d] ∧ ∀ H, SqT K H d []
  ne : ∃ f fd, FnOk P w K mg base C8.CX0 1 f fd ["self", "other"] (spPlanEqG C) ∧ PySem.W.isFn K (.ref f) = true ∧ L2.Binds K fd ["self", "other"] [] ∧ neB K C f = true
  zr : mg "range" = none
  zs : mg "str" = none
  zn : mg "int" = none
def OddN (ks : List Nat) (k : Nat) (G : Hp) (y : V) : Prop := y = .non ∨ (∃ l : List Nat, y = .str (S l) ∧ l.length ≤ 2 ∧ (∀ c ∈ l, c < 1114112) ∧ ∀ c ∈ ks, l ≠ [c]) ∨ y = .int 3 ∨ ∃ a, y = .ref a ∧ G a = some (.lst [.str (S [k])])
theorem OddN.same {ks : List Nat} {k : Nat} {G G' : Hp} {y : V} (h : OddN ks k G y) (s : L2.Same G G') : OddN ks k G' y := by
  rcases h with h | h | h | ⟨a, e, g⟩
  · exact .inl h
  · exact .inr (.inl h)
  · exact .inr (.inr (.inl h))
  · exact .inr (.inr (.inr ⟨a, e, s _ _ g⟩))
theorem OddN.bad {K : PySem.W.Frag} {ks : List Nat} {k : Nat} {G : Hp} {y : V} (h : OddN ks k G y) : (∃ t, TyX K G y t ∧ PySem.W.kitOne K t (.type "str") = some false) ∨ ∃ l : List Nat, y = .str (S l) ∧ l.length ≤ 90000 ∧ ∀ c ∈ ks, l ≠ [c] := by
  rcases h with rfl | ⟨l, rfl, a, b, c⟩ | rfl | ⟨a, rfl, g⟩
  · exact .inl ⟨_, .base .non, kit_ty (by decide +kernel)⟩
  · exact .inr ⟨l, rfl, by omega, c⟩
  · exact .inl ⟨_, .base (.int _), kit_ty (by decide +kernel)⟩
  · exact .inl ⟨_, .base (.lst g), kit_ty (by decide +kernel)⟩
theorem OddN.dp {K : PySem.W.Frag} {ks : List Nat} {k : Nat} {G : Hp} {y : V} (hk : k < 1114112) (h : OddN ks k G y) : ∃ d, Dp K G y d ∧ PySem.SeqAt.shaped (.list [d, .bool true, .bool true]) = true ∧ PyData.eqv (.list [d, .bool true, .bool true]) (.list [d, .bool true, .bool true]) = true := by
  rcases h with rfl | ⟨l, rfl, a, b, c⟩ | rfl | ⟨a, rfl, g⟩
  · exact ⟨_, .non, by decide +kernel, by decide +kernel⟩
  · refine ⟨_, .str _, ?_, ?_⟩
    · refine sh_flat _ fun d hd => ?_
      rcases List.mem_cons.mp hd with rfl | hd
      · refine ⟨?_, by show (0 : Nat) ≤ 60 ; omega⟩
        show (l.toArray.all fun x => decide (x < 1114112)) = true
        simpa using b
      · rcases List.mem_cons.mp hd with rfl | hd
        · exact ⟨rfl, by show (0 : Nat) ≤ 60 ; omega⟩
        · rw [List.mem_singleton.mp hd]
          exact ⟨rfl, by show (0 : Nat) ≤ 60 ; omega⟩
    · simp [PyData.eqv, PyData.eqvAll]
  · exact ⟨_, .int _, by decide +kernel, by decide +kernel⟩
  · refine ⟨.list [.str (S [k])], .lst (SqL.of g) (.cons (.str _) .nil), ?_, ?_⟩
    · have e : PySem.SeqAt.shaped (.list [.str (S [k])]) = true := sh_flat _ fun d hd => by
        rw [List.mem_singleton.mp hd]
        refine ⟨?_, by show (0 : Nat) ≤ 60 ; omega⟩
        show ([k].toArray.all fun x => decide (x < 1114112)) = true
        simpa using hk
      refine sh_flat _ fun d hd => ?_
      rcases List.mem_cons.mp hd with rfl | hd
      · exact ⟨(Bool.and_eq_true_iff.mp e).1, by simp [PyData.depth, PyData.depthAll]⟩
      · rcases List.mem_cons.mp hd with rfl | hd
        · exact ⟨rfl, by show (0 : Nat) ≤ 60 ; omega⟩
        · rw [List.mem_singleton.mp hd]
          exact ⟨rfl, by show (0 : Nat) ≤ 60 ; omega⟩
    · simp [PyData.eqv, PyData.eqvAll]
section
variable {P : Program} {w : World} {K : PySem.W.Frag} {mg : Str → Option Value} {base : Heap} {C CR CL CH IK : Addr}
theorem law_E (Z : LawC P w K mg base C CR CL CH IK) (f : Addr) (cdv : Value) (A : Around) (outer : List Env) (s0 : PySem.Shared) (H0 : Hp) (E0 : XK) (hr : L2.Room 10 (A.deeper (envOfC "law" (defScope s_law) s0.heap.objs.size f cdv))) :
    ∃ tt, PSs (lx P w K mg base f cdv A outer s0 H0 E0) (bLoop.drop 16) tt ∧ ∀ (D : Ends) (u0 u1 u2 u3 u7 u8 u9 u10 u11 u12 u13 u14 u15 u16 u17 u18 : Option V) (pl : Addr) (ks : List Nat) (X : Nat → Nat → Bool) (v : List Nat) (k : Nat) (G : Hp), PlanAt C G pl ks X → (∀ c ∈ v, c ∈ ks) → k ∈ ks → v.length ≤ 8 →
      (∀ (v18 : Option V) (G' : Hp), L2.Same G G' → D.nx [u0, u1, u2, u3, some (.ref pl), some (.str (S v)), some (.str (S [k])), u7, u8, u9, u10, u11, u12, u13, u14, u15, u16, u17, v18] G') →
      tt D [u0, u1, u2, u3, some (.ref pl), some (.str (S v)), some (.str (S [k])), u7, u8, u9, u10, u11, u12, u13, u14, u15, u16, u17, u18] G := by
  refine ⟨_, pss_one (ps_for PassesOwn.never rfl (pi_list (pe_lst (pa_cons pe_non (pa_cons pe_str (pa_cons (pe_op op_add_str (pv 6) (pv 6)) (pa_cons pe_int (pa_cons (pe_upper (pv 6)) (pa_cons (pe_lst (pa_cons (pv 6) pa_nil)) pa_nil)))))))) (pg_name (i := 18) sc_law.nd rfl (.inl rfl))
    (pss_one (ps_if (pt_cmpR (op_neD hr.units) (C8.pe_c Z.cNk hr (by decide) (by rfl) (pa_cons (C8.pe_mk Z.Z.mR hr (by decide) (by rfl) (pa_cons (pv 4) (pa_cons (pv 5) pa_nil))) (pa_cons (pv 18) pa_nil))) (pe_lst (pa_cons (pv 18) (pa_cons pe_bl (pa_cons pe_bl pa_nil)))) (nomark _)) (pss_one (ps_ret pe_bl)) pss_nil))), ?_⟩
  intro D u0 u1 u2 u3 u7 u8 u9 u10 u11 u12 u13 u14 u15 u16 u17 u18 pl ks X v k G pa kv hk lv fin
  obtain ⟨b1, b2⟩ := pa.abc k hk
  refine ⟨_, rfl, _, rfl, _, _, rfl, rfl, (by rw [S_len]; exact len_line (by simp)), ?_⟩
  refine ⟨_, rfl, ⟨_, rfl⟩, _, rfl, rfl, (by rw [S_len]; show 1 ≤ 5592405; decide), ?_⟩
  rw [upper_S (a := [k]) (by simp only [List.all_cons, List.all_nil, Bool.and_true, decide_eq_true_iff]; omega), S_cat, empty_S]
  rw [show [k].map up1 = [k - 32] from by rw [List.map_cons, List.map_nil, show up1 k = k - 32 from if_pos ⟨b1, b2⟩]]
  refine ⟨_, rfl, (by show 1 ≤ sizeLine; exact len_line (by decide)), fun kl hkl => ?_⟩
  have s1 := same_new (o := .lst [V.str (S [k])]) hkl
  have g1 : (upd G kl (.lst [V.str (S [k])])) kl = some (.lst [V.str (S [k])]) := upd_same
  generalize (upd G kl (.lst [V.str (S [k])])) = G1 at s1 g1 ⊢
  refine ⟨(by show 6 ≤ sizeLine; exact len_line (by decide)), fun q hq => ?_⟩
  have s2 := same_new (o := .lst [V.non, V.str (S []), V.str (S ([k] ++ [k])), V.int 3, V.str (S [k - 32]), V.ref kl]) hq
  have g2 : (upd G1 q (.lst [V.non, V.str (S []), V.str (S ([k] ++ [k])), V.int 3, V.str (S [k - 32]), V.ref kl])) q = some (.lst [V.non, V.str (S []), V.str (S ([k] ++ [k])), V.int 3, V.str (S [k - 32]), V.ref kl]) := upd_same
  generalize (upd G1 q (.lst [V.non, V.str (S []), V.str (S ([k] ++ [k])), V.int 3, V.str (S [k - 32]), V.ref kl])) = G2 at s2 g2 ⊢
  have odd : ∀ (i : Nat) (y : V), [V.non, V.str (S []), V.str (S ([k] ++ [k])), V.int 3, V.str (S [k - 32]), V.ref kl][i]? = some y → OddN ks k G2 y := fun i y hy => by
    match i, hy with
    | 0, hy => cases hy; exact .inl rfl
    | 1, hy => cases hy; exact .inr (.inl ⟨[], rfl, by decide, (fun c h => by cases h), fun c _ z => by cases z⟩)
    | 2, hy => cases hy; exact .inr (.inl ⟨[k, k], rfl, by simp, (fun c h => by simp at h; omega), fun c _ z => by cases z⟩)
    | 3, hy => cases hy; exact .inr (.inr (.inl rfl))
    | 4, hy => cases hy; exact .inr (.inl ⟨[k - 32], rfl, by simp, (fun c h => by simp at h; omega), fun c hc z => by
        have z2 := (List.cons.inj z).1
        have := pa.abc c hc
        omega⟩)
    | 5, hy => cases hy; exact .inr (.inr (.inr ⟨kl, rfl, s2 _ _ g1⟩))
  refine ⟨q, rfl, ⟨_, SqL.of g2⟩, ?_⟩
  refine for_it (walk_list (K := K) (a := q) (xs := [V.non, V.str (S []), V.str (S ([k] ++ [k])), V.int 3, V.str (S [k - 32]), V.ref kl])) (fun i σ G' => ∃ v18 : Option V, σ = [u0, u1, u2, u3, some (.ref pl), some (.str (S v)), some (.str (S [k])), u7, u8, u9, u10, u11, u12, u13, u14, u15, u16, u17, v18] ∧ L2.Same G2 G') ⟨u18, rfl, L2.Same.refl _⟩ (fun i σ G' _ ⟨_, _, e⟩ => e.seq (SqL.of g2)) ?_ ?_
  · rintro i y σ Gz G3 hi ⟨v18, rfl, s3⟩ ⟨rfl, hy⟩
    have oy := odd i y hy
    have s03 := s1.trans (s2.trans s3)
    refine ⟨_, rfl, _, rfl, fun b db hb hdb _ => mk_room hb hdb (pa.same s03) kv (by omega) fun G4 ra s4 => ⟨rfl, ?_⟩⟩
    have o4 := oy.same (s3.trans s4)
    refine ⟨_, rfl, b, pl, ks, X, _, y, rfl, ra, o4.bad, fun r G5 g5 s5 => ?_⟩
    refine ⟨_, rfl, (by show 3 ≤ sizeLine; exact len_line (by decide)), fun l2 hl2 => ?_⟩
    have s6 := same_new (o := .lst [y, V.bl true, V.bl true]) hl2
    obtain ⟨d, dp, sh, ev⟩ := (o4.same (s5.trans s6)).dp (K := K) (by omega)
    refine ⟨.list [d, .bool true, .bool true], .list [d, .bool true, .bool true], .lst (SqL.of (s6 _ _ g5)) (.cons dp (.cons (.bl _) (.cons (.bl _) .nil))), .lst (SqL.of upd_same) (.cons dp (.cons (.bl _) (.cons (.bl _) .nil))), sh, sh, _, rfl, ?_⟩
    rw [ev]
    exact iteF ⟨_, rfl, s3.trans (s4.trans (s5.trans s6))⟩
  · rintro σ G3 ⟨v18, rfl, s3⟩
    exact fin v18 G3 (s1.trans (s2.trans s3))
end
end TX
end
section
/-! How many ways there are that become one another by exchanges. -/
namespace CW
def dd : List Nat → List Nat
  | [] => []
  | a :: l => if a ∈ l then dd l else a :: dd l
theorem mem_dd : ∀ {l : List Nat} {c : Nat}, c ∈ dd l ↔ c ∈ l
  | [], c => Iff.rfl
  | a :: l, c => by
    unfold dd
    by_cases h : a ∈ l
    · rw [if_pos h, mem_dd, List.mem_cons]
      constructor
      · exact .inr
      · rintro (e | e)
        · rw [e]; exact h
        · exact e
    · rw [if_neg h, List.mem_cons, List.mem_cons, mem_dd]
theorem nodup_dd : ∀ (l : List Nat), (dd l).Nodup
  | [] => List.nodup_nil
  | a :: l => by
    unfold dd
    by_cases h : a ∈ l
    · rw [if_pos h]; exact nodup_dd l
    · rw [if_neg h]; exact List.nodup_cons.mpr ⟨fun z => h (mem_dd.mp z), nodup_dd l⟩
theorem dd_len : ∀ (l : List Nat), (dd l).length ≤ l.length
  | [] => Nat.le_refl _
  | a :: l => by
    unfold dd
    have := dd_len l
    by_cases h : a ∈ l
    · rw [if_pos h, List.length_cons]; omega
    · rw [if_neg h, List.length_cons, List.length_cons]; omega
theorem dd_len2 : ∀ {l : List Nat}, ¬ l.Nodup → (dd l).length + 1 ≤ l.length
  | [], h => absurd List.nodup_nil h
  | a :: l, h => by
    unfold dd
    have h1 := dd_len l
    by_cases z : a ∈ l
    · rw [if_pos z, List.length_cons]; omega
    · rw [if_neg z, List.length_cons, List.length_cons]
      have := dd_len2 (l := l) fun y => h (List.nodup_cons.mpr ⟨z, y⟩)
      omega
def arr : Nat → List Nat → List (List Nat)
  | 0, _ => [[]]
  | m + 1, n => (dd n).flatMap fun c => (arr m (n.erase c)).map (c :: ·)
def fa : Nat → Nat
  | 0 => 1
  | m + 1 => (m + 1) * fa m
theorem flat_len {f : Nat → List (List Nat)} {B : Nat} : ∀ {l : List Nat}, (∀ c ∈ l, (f c).length ≤ B) → (l.flatMap f).length ≤ l.length * B
  | [], _ => Nat.zero_le _
  | c :: l, h => by
    rw [List.flatMap_cons, List.length_append, List.length_cons, Nat.succ_mul]
    have h1 := h c List.mem_cons_self
    have h2 := flat_len (l := l) fun d hd => h d (List.mem_cons_of_mem _ hd)
    omega
theorem flat_len2 {f : Nat → List (List Nat)} {B B' a : Nat} (hB : B ≤ B') (ha : (f a).length ≤ B') : ∀ {l : List Nat}, l.Nodup → (∀ c ∈ l, c ≠ a → (f c).length ≤ B) → (l.flatMap f).length + B ≤ l.length * B + B'
  | [], _, _ => by
    rw [List.flatMap_nil, List.length_nil, List.length_nil]; omega
  | c :: l, nd, h => by
    rw [List.flatMap_cons, List.length_append, List.length_cons, Nat.succ_mul]
    obtain ⟨n1, n2⟩ := List.nodup_cons.mp nd
    by_cases e : c = a
    · have h2 := flat_len (f := f) (B := B) (l := l) fun d hd => h d (List.mem_cons_of_mem _ hd) fun z => n1 (by rw [e, ← z]; exact hd)
      rw [e]
      omega
    · have h1 := h c List.mem_cons_self e
      have h2 := flat_len2 hB ha n2 fun d hd => h d (List.mem_cons_of_mem _ hd)
      omega
theorem arr_le : ∀ {m : Nat} {n : List Nat}, n.length = m → (arr m n).length ≤ fa m
  | 0, _, _ => Nat.le_refl _
  | m + 1, n, h => by
    show ((dd n).flatMap fun c => (arr m (n.erase c)).map (c :: ·)).length ≤ (m + 1) * fa m
    refine Nat.le_trans (flat_len (B := fa m) fun c hc => ?_) (Nat.mul_le_mul_right _ (h ▸ dd_len n))
    rw [List.length_map]
    exact arr_le (by rw [List.length_erase_of_mem (mem_dd.mp hc)]; omega)
theorem arr_half : ∀ {m : Nat} {n : List Nat} {a : Nat}, n.length = m → 2 ≤ n.count a → 2 * (arr m n).length ≤ fa m
  | 0, n, a, h, h2 => by
    have := List.count_le_length (a := a) (l := n)
    omega
  | m + 1, n, a, h, h2 => by
    have ha : a ∈ n := List.count_pos_iff.mp (by omega)
    have nn : ¬ n.Nodup := fun z => by
      have := List.nodup_iff_count.mp z a
      omega
    have l1 := dd_len2 nn
    have lc := List.count_le_length (a := a) (l := n)
    obtain ⟨m', rfl⟩ : ∃ m', m = m' + 1 := ⟨m - 1, by omega⟩
    have z := flat_len2 (f := fun c => (arr (m' + 1) (n.erase c)).map (c :: ·)) (B := fa (m' + 1) / 2) (B' := fa (m' + 1)) (a := a) (Nat.div_le_self _ _)
      (by rw [List.length_map]; exact arr_le (by rw [List.length_erase_of_mem ha]; omega)) (nodup_dd n) fun c hc ne => by
        rw [List.length_map]
        have y := arr_half (m := m' + 1) (n := n.erase c) (a := a) (by rw [List.length_erase_of_mem (mem_dd.mp hc)]; omega) (by rw [List.count_erase_of_ne (fun q => ne q.symm)]; exact h2)
        omega
    have e : (arr (m' + 1 + 1) n).length = ((dd n).flatMap fun c => (arr (m' + 1) (n.erase c)).map (c :: ·)).length := rfl
    rw [← e] at z
    have d2 : 2 * (fa (m' + 1) / 2) ≤ fa (m' + 1) := Nat.mul_div_le _ _
    have l3 : (dd n).length * (fa (m' + 1) / 2) ≤ (m' + 1) * (fa (m' + 1) / 2) := Nat.mul_le_mul_right _ (by omega)
    rw [Nat.succ_mul] at l3
    have l4 : m' * (2 * (fa (m' + 1) / 2)) ≤ m' * fa (m' + 1) := Nat.mul_le_mul_left _ d2
    have e5 : m' * (2 * (fa (m' + 1) / 2)) = 2 * (m' * (fa (m' + 1) / 2)) := by rw [Nat.mul_left_comm]
    have e6 : fa (m' + 1 + 1) = m' * fa (m' + 1) + 2 * fa (m' + 1) := by
      show (m' + 1 + 1) * fa (m' + 1) = _
      rw [← Nat.add_mul]
    omega
theorem mem_arr : ∀ {m : Nat} {n w : List Nat}, n.length = m → w.Perm n → w ∈ arr m n
  | 0, n, w, h, p => by
    have := p.length_eq
    have e : w = [] := List.eq_nil_of_length_eq_zero (by omega)
    rw [e]
    exact List.mem_cons_self
  | m + 1, n, [], h, p => by
    have := p.length_eq
    rw [List.length_nil] at this
    omega
  | m + 1, n, c :: w, h, p => by
    obtain ⟨h1, h2⟩ := List.cons_perm_iff_perm_erase.mp p
    exact List.mem_flatMap.mpr ⟨c, mem_dd.mpr h1, List.mem_map.mpr ⟨w, mem_arr (by rw [List.length_erase_of_mem h1]; omega) h2, rfl⟩⟩
theorem nodup_len {α : Type} [BEq α] [LawfulBEq α] : ∀ {l m : List α}, l.Nodup → (∀ x ∈ l, x ∈ m) → l.length ≤ m.length
  | [], _, _, _ => Nat.zero_le _
  | a :: l, m, nd, h => by
    obtain ⟨n1, n2⟩ := List.nodup_cons.mp nd
    have ha := h a List.mem_cons_self
    have z := nodup_len (l := l) (m := m.erase a) n2 fun x hx => (List.mem_erase_of_ne (fun q => n1 (by rw [← q]; exact hx))).mpr (h x (List.mem_cons_of_mem _ hx))
    rw [List.length_erase_of_mem ha] at z
    have := List.length_pos_of_mem ha
    rw [List.length_cons]
    omega
theorem few_words {ks n : List Nat} {l : List (List Nat)} (h6 : ks.length ≤ 6) (hk : ∀ c ∈ n, c ∈ ks) (h7 : n.length ≤ 7) (nd : l.Nodup) (hp : ∀ w ∈ l, w.Perm n) : l.length ≤ 2520 := by
  have z := nodup_len nd fun w hw => mem_arr rfl (hp w hw)
  by_cases e : n.length = 7
  · have nn : ¬ n.Nodup := fun y => by
      have := nodup_len y hk
      omega
    have : ∃ a, 2 ≤ n.count a := by
      refine Classical.byContradiction fun q => nn (List.nodup_iff_count.mpr fun a => ?_)
      refine Classical.byContradiction fun y => q ⟨a, by omega⟩
    obtain ⟨a, ha⟩ := this
    have y := arr_half rfl ha
    have e7 : fa 7 = 5040 := rfl
    rw [e, e7] at y
    rw [e] at z
    omega
  · have y := arr_le (n := n) rfl
    have : ∀ k, k ≤ 6 → fa k ≤ 2520 := by decide
    have := this n.length (by omega)
    omega
theorem Rch.perm {X : Nat → Nat → Bool} {a b : List Nat} (h : Rch X a b) : b.Perm a := by
  induction h with
  | refl => exact .refl _
  | step u x y s _ _ ih => exact (List.Perm.append_left u (List.Perm.swap x y s)).trans ih
end CW
end
section
set_option maxRecDepth 100000
set_option maxHeartbeats 16000000
/-! the law's lap: the wall told by other doors -/
namespace TX
open PySem PySem.Spec PyProof.Rows L2 SX CW
theorem eq_half {K : PySem.W.Frag} {C CR CL CH : Addr} {G : Hp} {h a x p h' a' x' p' : Addr} {ks : List Nat} {X : Nat → Nat → Bool} {u u' : List Nat} {d d' : Nat} {fr fr' : Bool} {Q : VK} (h1 : HalfAt C CR CL CH G h a x p ks X u d fr) (h2 : HalfAt C CR CL CH G h' a' x' p' ks X u' d' fr')
    (q : Q (.bl (decide (fr = fr') && (decide (d = d') && decide (u = u')))) G) : ∃ b dx fs c dy gs, (V.ref h) = .ref b ∧ (V.ref h') = .ref c ∧ G b = some (.ins CH dx fs) ∧ G c = some (.ins CH dy gs) ∧ spHalfEq K C CR CL CH [.ref h, .ref h'] G Q C8.E0 := by
  obtain ⟨dx, e1⟩ := h1.ex
  obtain ⟨dy, e2⟩ := h2.ex
  exact ⟨h, dx, _, h', dy, _, rfl, rfl, e1, e2, h, a, x, p, ks, X, u, d, fr, _, rfl, h1, .inl ⟨h', a', x', p', u', d', fr', rfl, h2, q⟩⟩
theorem inv_half {C CR CL CH : Addr} {G : Hp} {h a x p : Addr} {ks : List Nat} {X : Nat → Nat → Bool} {u : List Nat} {d : Nat} {fr : Bool} {Q : VK} (h1 : HalfAt C CR CL CH G h a x p ks X u d fr)
    (q : ∀ r G', HalfAt C CR CL CH G' r a x p ks X u d (!fr) → L2.Same G G' → Q (.ref r) G') : ∃ b dx fs, (V.ref h) = .ref b ∧ G b = some (.ins CH dx fs) ∧ spInv C CR CL CH [.ref h] G Q C8.E0 := by
  obtain ⟨dx, e1⟩ := h1.ex
  exact ⟨h, dx, _, rfl, e1, h, a, x, p, ks, X, u, d, fr, rfl, h1, q⟩
section
variable {P : Program} {w : World} {K : PySem.W.Frag} {mg : Str → Option Value} {base : Heap} {C CR CL CH IK : Addr}
theorem law_D (Z : LawC P w K mg base C CR CL CH IK) (f : Addr) (cdv : Value) (A : Around) (outer : List Env) (s0 : PySem.Shared) (H0 : Hp) (E0 : XK) (hr : L2.Room 10 (A.deeper (envOfC "law" (defScope s_law) s0.heap.objs.size f cdv))) :
    ∃ tt, PSs (lx P w K mg base f cdv A outer s0 H0 E0) (bLoop.drop 12) tt ∧ ∀ (D : Ends) (u0 u2 u9 u11 u12 u13 u14 u15 u16 u17 u18 : Option V) (p c fl pl hd md a x : Addr) (m : Nat) (ks : List Nat) (X : Nat → Nat → Bool) (v : List Nat) (k : Nat) (sd : Bool) (G : Hp), PenAt G p c m → m ≤ 800000 →
      Sd C CR CL CH G fl pl hd md a x pl ks X v k sd → (∀ c ∈ v, c ∈ ks) → v.length ≤ 8 →
      (∀ (us : List (Option V)) (G' : Hp), us.length = 17 → PenAt G' p c (m + 4) → D.nx (u0 :: some (.ref p) :: us) G') →
      tt D [u0, some (.ref p), u2, some (.ref fl), some (.ref pl), some (.str (S v)), some (.str (S [k])), some (.bl sd), some (.ref hd), u9, some (.ref md), u11, u12, u13, u14, u15, u16, u17, u18] G := by
  obtain ⟨tE, hE, qE⟩ := law_E Z f cdv A outer s0 H0 E0 hr
  obtain ⟨fn, fdn, GN, fnN, bN, neN⟩ := Z.Z.NE
  have hu := hu_of hr
  refine ⟨_, pss_cons (ps_par (i := 14) (j := 15) (by rfl) sc_law.nd rfl rfl (by decide) rfl rfl (pa_cons (pv 5) (pa_cons (pe_dget hu (pe_dget hu (pv 3) pe_str (fun _ _ => rfl)) (pv 6) (fun _ _ => rfl)) pa_nil)) (by rfl))
    (pss_cons (ps_for PassesOwn.never rfl (pi_range1 rfl Z.zr (pa_cons (pe_op op_mul (C8.pe_c Z.cD hr (by decide) (by rfl) (pa_cons (pv 1) (pa_cons pe_int pa_nil))) (pe_callTy call_int1 (by rfl) Z.zn (by decide +kernel) (pa_cons (pe_cmpR op_ne (pv 15) pe_str (nomark _)) pa_nil))) pa_nil)) (pg_name (i := 16) sc_law.nd rfl (.inl rfl))
      (pss_one (ps_set (i := 14) sc_law.nd rfl (.inl rfl) (pe_op op_add_str (pv 14) (C8.pe_c Z.cPk hr (by decide) (by rfl) (pa_cons (pv 1) (pa_cons (pv 15) pa_nil)))))))
    (pss_cons (ps_set (i := 17) sc_law.nd rfl (.inl rfl) (C8.pe_mk Z.Z.hm.two hr (by decide) (by rfl) (pa_cons (C8.pe_mk Z.Z.mW hr (by decide) (by rfl) (pa_cons (C8.pe_mk Z.Z.mR hr (by decide) (by rfl) (pa_cons (pv 4) (pa_cons (pv 14) pa_nil))) (pa_cons (pv 6) pa_nil))) (pa_cons (pv 7) pa_nil))))
    (pss_cons (ps_if (PW.pt (pw_or (pt_not (pt_cmpR (op_cmpOwn (op := .Eq) (fun _ _ => rfl) Z.Z.DE (hr.mono (by decide))) (pv 10) (pv 17) (nomark _))) (pw_or (pt_cmpR (op_neOwn GN fnN bN neN (hr.mono (by decide))) (pv 10) (pv 17) (nomark _)) (pw_or (pt_cmpR (op_cmpOwn (op := .Eq) (fun _ _ => rfl) Z.Z.DE (hr.mono (by decide))) (pv 10) (pe_un (un_invOwn Z.Z.DI (hr.mono (by decide))) (pv 17)) (nomark _))
      (pw_or1 (pt_not (pt_cmpR (op_cmpOwn (op := .Eq) (fun _ _ => rfl) Z.Z.DE (hr.mono (by decide))) (pe_un (un_invOwn Z.Z.DI (hr.mono (by decide))) (pe_un (un_invOwn Z.Z.DI (hr.mono (by decide))) (pv 17))) (pv 10) (nomark _)))))))) (pss_one (ps_ret pe_bl)) pss_nil) hE))), ?_⟩
  intro D u0 u2 u9 u11 u12 u13 u14 u15 u16 u17 u18 p c fl pl hd md a x m ks X v k sd G gp hm st kv lv fin
  have hk := st.ma.kn
  have cr := st.fa.cr
  have nd := nodup_up st.fa.up
  obtain ⟨cd, g, h1, h2, h3⟩ := st.fa.ex
  refine ⟨_, rfl, _, rfl, fl, _, rfl, get_fc h1, _, rfl, cd, _, rfl, get_kv h2 hk, _, _, rfl, ?_⟩
  refine ⟨_, rfl, p, c, m, 4, rfl, gp, by decide, by decide, by omega, fun e G1 he gp1 b1 => ?_⟩
  refine ⟨_, rfl, rfl, .inr ⟨_, rfl, ?_⟩⟩
  have hn : ∃ n : Nat, ((e : Int) * (if (!decide (V.str (S (g k)) = V.str "")) = true then 1 else 0)) = (n : Int) ∧ n ≤ 3 ∧ (0 < n → 0 < (g k).length) := by
    rw [empty_S]
    by_cases z : g k = []
    · exact ⟨0, by rw [z]; simp, by omega, fun h => by omega⟩
    · refine ⟨e, ?_, by omega, fun _ => List.length_pos_iff.mpr z⟩
      rw [decide_eq_false (fun q => z (S_inj (V.str.inj q)))]
      simp
  obtain ⟨n, en, n3, npos⟩ := hn
  refine ⟨_, _, rfl, rfl, .inl ⟨by omega, by omega⟩, ?_⟩
  have st1 := st.pen gp b1
  refine ⟨(n : Int), congrArg (fun z => [V.int z]) en, by omega, by omega, ?_⟩
  refine for_range (lo := 0) (n := ((n : Nat) : Int).toNat) (fun i σ G => ∃ (t : List Nat) (u16 : Option V), σ = [u0, some (.ref p), u2, some (.ref fl), some (.ref pl), some (.str (S v)), some (.str (S [k])), some (.bl sd), some (.ref hd), u9, some (.ref md), u11, u12, u13, some (.str (S (v ++ t))), some (.str (S (g k))), u16, u17, u18] ∧
    t.length = i ∧ (∀ c ∈ t, c ∈ g k) ∧ PenAt G p c (m + 1 + i) ∧ Sd C CR CL CH G fl pl hd md a x pl ks X v k sd) ⟨[], u16, by rw [List.append_nil]; rfl, rfl, (fun c h => by cases h), gp1, st1⟩ ?_ ?_
  · rintro i σ G2 hi ⟨t, u16, rfl, lt, kt, gp2, st2⟩
    have i3 : i < n := by omega
    refine ⟨_, rfl, _, rfl, _, rfl, p, c, _, g k, rfl, gp2, by omega, npos (by omega), ?_, fun z G3 hz gp3 b3 => ?_⟩
    · have := nodup_len (l := g k) (m := ks) (h3 k hk).1 fun b hb => ((h3 k hk).2 b).mp hb |>.1
      have := st.fa.l8
      omega
    refine ⟨_, _, rfl, rfl, (by rw [S_len, S_len]; exact len_line (by simp; omega)), ?_⟩
    rw [S_cat, List.append_assoc]
    exact ⟨t ++ [z], _, rfl, by simp [lt], (fun y hy => (List.mem_append.mp hy).elim (kt y) fun e => by rw [List.mem_singleton.mp e]; exact hz), gp3.mono (by omega), st2.pen gp2 b3⟩
  · rintro σ G2 ⟨t, u16, rfl, lt, kt, gp2, st2⟩
    have ktk : ∀ c ∈ t, c ∈ ks ∧ X k c = true := fun c hc => ((h3 k hk).2 c).mp (kt c hc)
    have kvt : ∀ c ∈ v ++ t, c ∈ ks := fun c hc => (List.mem_append.mp hc).elim (kv c) fun h => (ktk c h).1
    have tw : toD ks X (fol ks X [] (v ++ t)) k = toD ks X (fol ks X [] v) k := twin_wall cr nd hk kv (fun c h => (ktk c h).1) fun c h => (ktk c h).2
    have kn := (fol_name (ks := ks) cr (v ++ t) [] (fun c h => by cases h) kvt rfl).2
    have ln := fol_length ks X (v ++ t) []
    have lvt : (v ++ t).length ≤ 11 := by rw [List.length_append]; omega
    simp only [List.length_nil] at ln
    have lu := toD_len (ks := ks) (X := X) (n := fol ks X [] (v ++ t)) (d := k)
    refine ⟨_, rfl, _, rfl, fun b db hb hdb _ => mk_room hb hdb st2.pa kvt (by omega) fun G4 ra s4 => ⟨rfl, _, rfl, fun z dz hz hdz _ => mk_wallS hz hdz ra hk kn (by omega) fun G5 x5 hw s5 => ⟨rfl, _, rfl, fun r dr hr hdr _ => mk_half hr hdr hw hk (toD_in kn) (by omega) fun G6 ht s6 => ⟨rfl, ?_⟩⟩⟩⟩
    rw [tw] at ht
    have s26 := s4.trans (s5.trans s6)
    have st6 := st2.same s26
    have gp6 := gp2.same s26
    refine ⟨_, rfl, _, rfl, eq_half st6.ma ht ⟨_, rfl, ?_⟩⟩
    rw [decide_eq_true rfl, decide_eq_true rfl, decide_eq_true rfl]
    refine iteF ⟨_, rfl, _, rfl, ?_⟩
    obtain ⟨dx, e1⟩ := st6.ma.ex
    obtain ⟨dy, e2⟩ := ht.ex
    refine ⟨md, dx, _, r, dy, _, rfl, rfl, e1, e2, md, a, x, pl, ks, X, _, k, sd, _, rfl, st6.ma, .inl ⟨r, z, x5, pl, _, k, sd, rfl, ht, _, rfl, _, rfl, ?_⟩⟩
    rw [decide_eq_true rfl, decide_eq_true rfl, decide_eq_true rfl]
    refine iteF ⟨_, rfl, _, rfl, inv_half ht fun r7 G7 h7 s7 => ?_⟩
    refine eq_half (st6.ma.same s7) h7 ⟨_, rfl, ?_⟩
    rw [show decide (sd = !sd) = false from by cases sd <;> rfl, Bool.false_and]
    refine iteF ⟨_, rfl, inv_half (ht.same s7) fun r8 G8 h8 s8 => ?_⟩
    refine inv_half h8 fun r9 G9 h9 s9 => ?_
    have s69 := s7.trans (s8.trans s9)
    refine ⟨_, rfl, eq_half h9 (st6.ma.same s69) ⟨_, rfl, ?_⟩⟩
    rw [show decide ((!!sd) = sd) = true from by cases sd <;> rfl, decide_eq_true rfl, decide_eq_true rfl]
    refine iteF ?_
    refine qE D _ _ _ _ _ _ _ _ _ _ _ _ _ _ _ _ pl ks X v k G9 (st6.pa.same s69) kv hk lv fun v18 G10 s10 => ?_
    refine fin _ G10 rfl ((gp6.same (s69.trans s10)).mono (by omega))
end
end TX
end
section
set_option maxRecDepth 100000
set_option maxHeartbeats 16000000
/-! the law's lap: where no kinds cross, and an equal plan made apart -/
namespace TX
open PySem PySem.Spec PyProof.Rows L2 SX CW
theorem prs_prX {ks : List Nat} {X : Nat → Nat → Bool} : ∀ e ∈ prs ks X, ∃ a b, e = S [a, b] ∧ a ∈ ks ∧ b ∈ ks ∧ X a b = true := fun e he => by
  unfold prs at he
  obtain ⟨a, ha, h2⟩ := List.mem_flatMap.mp he
  obtain ⟨b, hb, rfl⟩ := List.mem_map.mp h2
  obtain ⟨hb1, hb2⟩ := List.mem_filter.mp hb
  rw [Bool.and_eq_true] at hb2
  exact ⟨a, b, rfl, ha, hb1, hb2.2⟩
theorem prs_allX {ks : List Nat} {X : Nat → Nat → Bool} : ∀ a b, a ∈ ks → b ∈ ks → a < b → X a b = true → S [a, b] ∈ prs ks X ∨ S [b, a] ∈ prs ks X := fun a b ha hb lt x => .inl (mem_prs.mpr ⟨ha, hb, lt, x⟩)
theorem prs_lenX (ks : List Nat) (X : Nat → Nat → Bool) : (prs ks X).length ≤ ks.length * (ks.length - 1) := by
  unfold prs
  have gen : ∀ l : List Nat, (∀ a ∈ l, a ∈ ks) → (l.flatMap fun a => (ks.filter fun b => decide (a < b) && X a b).map fun b => S [a, b]).length ≤ l.length * (ks.length - 1) := by
    intro l
    induction l with
    | nil => intro _; simp
    | cons a l ih =>
      intro h
      have h1 := ih fun x hx => h x (List.mem_cons_of_mem _ hx)
      have ha := h a List.mem_cons_self
      have h2 : (ks.filter fun b => decide (a < b) && X a b).length < ks.length := by
        refine List.length_filter_lt_length_iff_exists.mpr ⟨a, ha, ?_⟩
        simp
      rw [List.flatMap_cons, List.length_append, List.length_map, List.length_cons, Nat.succ_mul]
      omega
  exact gen ks fun _ h => h
section
variable {P : Program} {w : World} {K : PySem.W.Frag} {mg : Str → Option Value} {base : Heap} {C CR CL CH IK : Addr}
theorem law_B (Z : LawC P w K mg base C CR CL CH IK) (f : Addr) (cdv : Value) (A : Around) (outer : List Env) (s0 : PySem.Shared) (H0 : Hp) (E0 : XK) (hr : L2.Room 10 (A.deeper (envOfC "law" (defScope s_law) s0.heap.objs.size f cdv))) :
    ∃ tt, PSs (lx P w K mg base f cdv A outer s0 H0 E0) (bLoop.drop 8) tt ∧ ∀ (D : Ends) (u0 u2 u9 u11 u12 u13 u14 u15 u16 u17 u18 : Option V) (p c fl pl hd md a x : Addr) (m : Nat) (ks : List Nat) (X : Nat → Nat → Bool) (v : List Nat) (k : Nat) (sd : Bool) (G : Hp), PenAt G p c m → m ≤ 700000 →
      Sd C CR CL CH G fl pl hd md a x pl ks X v k sd → (∀ c ∈ v, c ∈ ks) → v.length ≤ 8 →
      (∀ (us : List (Option V)) (G' : Hp), us.length = 17 → PenAt G' p c (m + 66) → D.nx (u0 :: some (.ref p) :: us) G') →
      tt D [u0, some (.ref p), u2, some (.ref fl), some (.ref pl), some (.str (S v)), some (.str (S [k])), some (.bl sd), some (.ref hd), u9, some (.ref md), u11, u12, u13, u14, u15, u16, u17, u18] G := by
  obtain ⟨tD, hD, qD⟩ := law_D Z f cdv A outer s0 H0 E0 hr
  obtain ⟨d0, k1, sD⟩ := Z.k1
  have hu := hu_of hr
  refine ⟨_, pss_cons (ps_par (i := 11) (j := 12) (by rfl) sc_law.nd rfl rfl (by decide) rfl rfl (pa_cons (C8.pe_c Z.cBr hr (by decide) (by rfl) (pa_cons (pv 3) pa_nil)) (pa_cons (C8.pe_mk k1 hr (by decide) (by rfl) (pa_cons (pe_dget hu (pv 3) pe_str (fun _ _ => rfl)) pa_nil)) pa_nil)) (by rfl))
    (pss_cons (ps_set (i := 13) sc_law.nd rfl (.inl rfl) (C8.pe_mk Z.Z.hm.two hr (by decide) (by rfl) (pa_cons (C8.pe_mk Z.Z.mW hr (by decide) (by rfl) (pa_cons (C8.pe_mk Z.Z.mR hr (by decide) (by rfl) (pa_cons (pv 12) (pa_cons (pv 5) pa_nil))) (pa_cons (pv 6) pa_nil))) (pa_cons (pv 7) pa_nil))))
    (pss_cons (ps_if (pt_not (pt_val (C8.pe_c Z.cSd hr (by decide) (by rfl) (pa_cons (pv 1) (pa_cons (pv 11) (pa_cons (pv 12) (pa_cons (C8.pe_c Z.cHf hr (by decide) (by rfl) (pa_cons (pv 11) (pa_cons (pv 5) (pa_cons (pv 6) (pa_cons (pv 7) pa_nil))))) (pa_cons (pv 13) pa_nil)))))))) (pss_one (ps_ret pe_bl)) pss_nil)
    (pss_cons (ps_if (pt_not (pt_val (C8.pe_c Z.cSd hr (by decide) (by rfl) (pa_cons (pv 1) (pa_cons (pv 3) (pa_cons (C8.pe_mk Z.kP hr (by decide) (by rfl) (pa_cons (pe_fld (pv 4) rfl) (pa_cons (pe_fld (pv 4) rfl) pa_nil))) (pa_cons (pv 8) (pa_cons (pv 10) pa_nil)))))))) (pss_one (ps_ret pe_bl)) pss_nil) hD))), ?_⟩
  intro D u0 u2 u9 u11 u12 u13 u14 u15 u16 u17 u18 p c fl pl hd md a x m ks X v k sd G gp hm st kv lv fin
  have hk := st.ma.kn
  have up := st.fa.up
  have abc := st.fa.abc
  have l8 := st.fa.l8
  refine ⟨_, rfl, fl, ks, X, rfl, st.fa, fun bh G1 fb s1 => ?_⟩
  obtain ⟨cd, g, h1, _, _⟩ := (st.same s1).fa.ex
  refine ⟨_, rfl, fl, _, rfl, get_fk h1, ?_⟩
  refine mkX (c := d0) (zs := ks) (ks := ks) (X := noX) (es := []) (L2.Same.refl _) (.refl _) up abc l8 noX_cr (.inr (sD _)) (by decide) (fun e he => by cases he) (fun a b _ _ _ hx => by cases hx) fun ap G2 pa2 s2 => ?_
  refine ⟨_, _, rfl, ?_⟩
  have kn := (fol_name (ks := ks) noX_cr v [] (fun c h => by cases h) kv rfl).2
  have ln := fol_length ks noX v []
  simp only [List.length_nil] at ln
  have lu := toD_len (ks := ks) (X := noX) (n := fol ks noX [] v) (d := k)
  refine ⟨_, rfl, _, rfl, fun b db hb hdb _ => mk_room hb hdb pa2 kv (by omega) fun G4 ra s4 => ⟨rfl, _, rfl, fun z dz hz hdz _ => mk_wallS hz hdz ra hk kn (by omega) fun G5 x5 hw s5 => ⟨rfl, _, rfl, fun r dr hr hdr _ => mk_half hr hdr hw hk (toD_in kn) (by omega) fun G6 ht s6 => ⟨rfl, ?_⟩⟩⟩⟩
  have s26 := s4.trans (s5.trans s6)
  have s06 := s1.trans (s2.trans s26)
  refine ⟨_, rfl, _, rfl, _, rfl, _, rfl, _, rfl, _, rfl, _, rfl, bh, ks, noX, v, k, sd, rfl, (fb.same s2).same s26, kv, hk, by omega, fun hd2 G7 hh s7 => ?_⟩
  have s07 := s06.trans s7
  refine ⟨_, rfl, p, c, bh, ap, hd2, r, z, x5, ap, m, ks, noX, v, k, sd, rfl, gp.same s07, by omega, ((fb.same s2).same s26).same s7, (pa2.same s26).same s7, hh, kv, hk, by omega, ht.same s7, fun G8 gp8 b8 => ⟨_, rfl, iteF ?_⟩⟩
  have st8 := (st.same s07).pen (gp.same s07) b8
  obtain ⟨dx, tp, da, dl, e1, e2, _⟩ := st8.pa.ex
  have l64 : (prs ks X).length < 64 := by
    have z1 := prs_lenX ks X
    have z2 : ks.length * (ks.length - 1) ≤ 8 * 7 := Nat.mul_le_mul l8 (by omega)
    omega
  refine ⟨_, rfl, _, rfl, _, rfl, pl, C, dx, _, _, rfl, e1, Z.TP.cl, Z.TP.nk, pf_kinds _ _ _ _, _, rfl, pl, C, dx, _, _, rfl, e1, Z.TP.cl, Z.TP.np, pf_pairs _ _ _ _, ?_⟩
  refine mkX (c := tp) (zs := ks) (ks := ks) (X := X) (es := prs ks X) (L2.Same.refl _) (.refl _) up abc l8 st.fa.cr (.inr (SqT.of e2)) l64 prs_prX prs_allX fun p2 G9 pa9 s9 => ?_
  have st9 := st8.same s9
  have gp9 := gp8.same s9
  refine ⟨_, rfl, _, rfl, p, c, fl, p2, hd, md, a, x, pl, _, ks, X, v, k, sd, rfl, gp9, by omega, st9.fa, pa9, st9.ha, kv, hk, by omega, st9.ma, fun G10 gp10 b10 => ⟨_, rfl, iteF ?_⟩⟩
  exact qD D _ _ _ _ _ _ _ _ _ _ _ p c fl pl hd md a x _ ks X v k sd G10 gp10 (by omega) (st9.pen gp9 b10) kv lv fun us G' lu gp' => fin us G' lu (gp'.mono (by omega))
end
end TX
end
section
set_option maxRecDepth 100000
set_option maxHeartbeats 16000000
/-! the law's lap, from its begin; the law -/
namespace TX
open PySem PySem.Spec PyProof.Rows L2 SX CW
def spLaw (K : PySem.W.Frag) : Sp := fun vs H Q _ => ∃ (s : Addr) (ns : List Int), vs = [.ref s] ∧ ns.length ≤ 63 ∧ SqL K H s (ns.map V.int) ∧ ∀ H', Q (.bl true) H'
section
variable {P : Program} {w : World} {K : PySem.W.Frag} {mg : Str → Option Value} {base : Heap} {C CR CL CH IK : Addr}
theorem law_A2 (Z : LawC P w K mg base C CR CL CH IK) (f : Addr) (cdv : Value) (A : Around) (outer : List Env) (s0 : PySem.Shared) (H0 : Hp) (E0 : XK) (hr : L2.Room 10 (A.deeper (envOfC "law" (defScope s_law) s0.heap.objs.size f cdv))) :
    ∃ tt, PSs (lx P w K mg base f cdv A outer s0 H0 E0) (bLoop.drop 6) tt ∧ ∀ (D : Ends) (u0 u2 u11 u12 u13 u14 u15 u16 u17 u18 : Option V) (p c fl pl hd md a x : Addr) (m : Nat) (ks : List Nat) (X : Nat → Nat → Bool) (v : List Nat) (k : Nat) (sd : Bool) (G : Hp), PenAt G p c m → m ≤ 600000 →
      Sd C CR CL CH G fl pl hd md a x pl ks X v k sd → (∀ c ∈ v, c ∈ ks) → v.length ≤ 8 →
      (∀ (us : List (Option V)) (G' : Hp), us.length = 17 → PenAt G' p c (m + 97) → D.nx (u0 :: some (.ref p) :: us) G') →
      tt D [u0, some (.ref p), u2, some (.ref fl), some (.ref pl), some (.str (S v)), some (.str (S [k])), some (.bl sd), some (.ref hd), some (.ref a), some (.ref md), u11, u12, u13, u14, u15, u16, u17, u18] G := by
  obtain ⟨tB, hB, qB⟩ := law_B Z f cdv A outer s0 H0 E0 hr
  obtain ⟨fn, fdn, GN, fnN, bN, neN⟩ := Z.ne
  have TH := Z.Z.TH
  refine ⟨_, pss_cons (ps_if (PW.pt (pw_or (pt_cmpR op_ne (pe_callTy call_str_bl (by rfl) Z.zs (by decide +kernel) (pa_cons (pe_fld (pv 10) rfl) pa_nil)) (pe_callTy call_str_bl (by rfl) Z.zs (by decide +kernel) (pa_cons (pv 7) pa_nil)) (nomark _))
      (pw_or (pt_not (pt_cmpR (op_cmpOwn (op := .Eq) (fun _ _ => rfl) Z.Z.DW (hr.mono (by decide))) (pe_fld (pv 10) rfl) (pv 9) (nomark _))) (pw_or1 (pt_cmpR (op_neOwn GN fnN bN neN (hr.mono (by decide))) (pe_fld (pv 10) rfl) (pv 4) (nomark _)))))) (pss_one (ps_ret pe_bl)) pss_nil)
    (pss_cons (ps_if (PW.pt (pw_or (pt_not (pt_val (C8.pe_c Z.cSd hr (by decide) (by rfl) (pa_cons (pv 1) (pa_cons (pv 3) (pa_cons (pv 4) (pa_cons (pv 8) (pa_cons (pv 10) pa_nil)))))))) (pw_or1 (pt_not (pt_val (C8.pe_c Z.cAl hr (by decide) (by rfl) (pa_cons (pv 4) (pa_cons (pv 10) pa_nil)))))))) (pss_one (ps_ret pe_bl)) pss_nil) hB), ?_⟩
  intro D u0 u2 u11 u12 u13 u14 u15 u16 u17 u18 p c fl pl hd md a x m ks X v k sd G gp hm st kv lv fin
  have hk := st.ma.kn
  obtain ⟨dm, em⟩ := st.ma.ex
  obtain ⟨da, ea⟩ := st.ma.wl.ex
  obtain ⟨dp, _, _, _, ep, _⟩ := st.pa.ex
  refine ⟨_, rfl, md, CH, dm, _, _, rfl, em, TH.cl, TH.nf, hf_far _ _ _, _, rfl, _, rfl, _, rfl, rfl, _, rfl, ?_⟩
  rw [show ∀ z : V, (!decide (z = z)) = false from fun z => by simp]
  refine iteF ?_
  refine ⟨_, rfl, md, CH, dm, _, _, rfl, em, TH.cl, TH.nw, hf_wall _ _ _, _, rfl, a, da, _, a, da, _, rfl, rfl, ea, ea, a, a, x, pl, ks, X, _, k, rfl, st.ma.wl, .inl ⟨x, pl, _, k, st.ma.wl, _, rfl, ?_⟩⟩
  rw [decide_eq_true rfl, decide_eq_true rfl]
  refine iteF ?_
  refine ⟨_, rfl, md, CH, dm, _, _, rfl, em, TH.cl, TH.np, hf_plan _ _ _, _, rfl, pl, dp, _, pl, dp, _, rfl, rfl, ep, ep, pl, pl, ks, X, ks, X, rfl, st.pa, st.pa, _, rfl, _, rfl, ?_⟩
  rw [show samePl ks X ks X = true from by simp [samePl]]
  refine iteF ?_
  refine ⟨_, rfl, _, rfl, _, rfl, _, rfl, _, rfl, p, c, fl, pl, hd, md, a, x, pl, m, ks, X, v, k, sd, rfl, gp, by omega, st.fa, st.pa, st.ha, kv, hk, by omega, st.ma, fun G1 gp1 b1 => ⟨_, rfl, iteF ?_⟩⟩
  have st1 := st.pen gp b1
  refine ⟨_, rfl, _, rfl, pl, md, a, x, pl, ks, X, _, k, sd, rfl, st1.pa, st1.ma, fun G2 s2 => ⟨_, rfl, iteF ?_⟩⟩
  exact qB D _ _ _ _ _ _ _ _ _ _ _ p c fl pl hd md a x _ ks X v k sd G2 (gp1.same s2) (by omega) (st1.same s2) kv lv fun us G' lu gp' => fin us G' lu (gp'.mono (by omega))
theorem law_A1 (Z : LawC P w K mg base C CR CL CH IK) (f : Addr) (cdv : Value) (A : Around) (outer : List Env) (s0 : PySem.Shared) (H0 : Hp) (E0 : XK) (hr : L2.Room 10 (A.deeper (envOfC "law" (defScope s_law) s0.heap.objs.size f cdv))) :
    ∃ tt, PSs (lx P w K mg base f cdv A outer s0 H0 E0) (bLoop.drop 3) tt ∧ ∀ (D : Ends) (u0 u2 u5 u6 u7 u8 u9 u10 u11 u12 u13 u14 u15 u16 u17 u18 : Option V) (p c fl pl : Addr) (m : Nat) (ks : List Nat) (X : Nat → Nat → Bool) (G : Hp), PenAt G p c m → m ≤ 500000 →
      FlAt G fl ks X → PlanAt C G pl ks X → 0 < ks.length →
      (∀ (us : List (Option V)) (G' : Hp), us.length = 17 → PenAt G' p c (m + 108) → D.nx (u0 :: some (.ref p) :: us) G') →
      tt D [u0, some (.ref p), u2, some (.ref fl), some (.ref pl), u5, u6, u7, u8, u9, u10, u11, u12, u13, u14, u15, u16, u17, u18] G := by
  obtain ⟨tA, hA, qA⟩ := law_A2 Z f cdv A outer s0 H0 E0 hr
  obtain ⟨fk, fdk, gk, Mk0, Bk, kbk⟩ := Z.Z.hm.kw
  have gH := Z.Z.hm.gH
  have hu := hu_of hr
  refine ⟨_, pss_cons (ps_par3 (i := 5) (j := 6) (l := 7) (by rfl) sc_law.nd rfl rfl rfl (by decide) (by decide) (by decide) rfl rfl rfl (pa_cons (C8.pe_c Z.cWy hr (by decide) (by rfl) (pa_cons (pv 1) (pa_cons (pv 3) (pa_cons pe_int pa_nil)))) (pa_cons (C8.pe_c Z.cPk hr (by decide) (by rfl) (pa_cons (pv 1) (pa_cons (pe_dget hu (pv 3) pe_str (fun _ _ => rfl)) pa_nil))) (pa_cons (pe_cmpR op_eq (C8.pe_c Z.cD hr (by decide) (by rfl) (pa_cons (pv 1) (pa_cons pe_int pa_nil))) pe_int (nomark _)) pa_nil))) (by rfl))
    (pss_cons (ps_par (i := 8) (j := 9) (by rfl) sc_law.nd rfl rfl (by decide) rfl rfl (pa_cons (C8.pe_c Z.cHf hr (by decide) (by rfl) (pa_cons (pv 3) (pa_cons (pv 5) (pa_cons (pv 6) (pa_cons (pv 7) pa_nil))))) (pa_cons (C8.pe_mk Z.Z.mW hr (by decide) (by rfl) (pa_cons (C8.pe_mk Z.Z.mR hr (by decide) (by rfl) (pa_cons (pv 4) (pa_cons (pv 5) pa_nil))) (pa_cons (pv 6) pa_nil))) pa_nil)) (by rfl))
    (pss_cons (ps_set (i := 10) sc_law.nd rfl (.inl rfl) (pe_ifExp (pt_val (pv 7)) (pe_makeK Mk0 Bk (hr.mono (by decide)) (by rfl) gH kbk pass0 (pa_cons (pv 9) pa_nil) (pk_cons pe_bl pk_nil)) (C8.pe_mk Z.Z.hm.one hr (by decide) (by rfl) (pa_cons (pv 9) pa_nil)))) hA)), ?_⟩
  intro D u0 u2 u5 u6 u7 u8 u9 u10 u11 u12 u13 u14 u15 u16 u17 u18 p c fl pl m ks X G gp hm fa pa l0 fin
  refine ⟨_, rfl, _, rfl, p, c, fl, m, 8, ks, X, rfl, gp, by omega, by decide, fa, fun v G1 lv kv gp1 b1 => ?_⟩
  have fa1 := fa.pen gp b1
  have pa1 := pa.pen l0 gp b1
  obtain ⟨cd, g, h1, _, _⟩ := fa1.ex
  have l8 := fa.l8
  refine ⟨_, rfl, _, rfl, fl, _, rfl, get_fk h1, p, c, _, ks, rfl, gp1, by omega, l0, by omega, fun k G2 hk gp2 b2 => ?_⟩
  have fa2 := fa1.pen gp1 b2
  have pa2 := pa1.pen l0 gp1 b2
  refine ⟨_, rfl, p, c, _, 2, rfl, gp2, by decide, by decide, by omega, fun d G3 hd gp3 b3 => ?_⟩
  have fa3 := fa2.pen gp2 b3
  have pa3 := pa2.pen l0 gp2 b3
  refine ⟨rfl, _, _, _, rfl, ?_⟩
  generalize decide (V.int ((d : Nat) : Int) = V.int 0) = sd
  refine ⟨_, rfl, _, rfl, _, rfl, _, rfl, fl, ks, X, v, k, sd, rfl, fa3, kv, hk, by omega, fun hd' G4 hh s4 => ?_⟩
  have cr := fa.cr
  have kn := (fol_name (ks := ks) cr v [] (fun c h => by cases h) kv rfl).2
  have ln := fol_length ks X v []
  simp only [List.length_nil] at ln
  have lu := toD_len (ks := ks) (X := X) (n := fol ks X [] v) (d := k)
  refine ⟨_, rfl, _, rfl, fun b db hb hdb _ => mk_room hb hdb (pa3.same s4) kv (by omega) fun G5 ra s5 => ⟨rfl, _, rfl, fun z dz hz hdz _ => mk_wallS hz hdz ra hk kn (by omega) fun G6 x6 hw s6 => ⟨rfl, _, _, rfl, ?_⟩⟩⟩
  have s46 := s5.trans s6
  have s36 := s4.trans s46
  have cont : ∀ (md : Addr) (G7 : Hp), HalfAt C CR CL CH G7 md z x6 pl ks X (toD ks X (fol ks X [] v) k) k sd → L2.Same G6 G7 →
      tA D [u0, some (.ref p), u2, some (.ref fl), some (.ref pl), some (.str (S v)), some (.str (S [k])), some (.bl sd), some (.ref hd'), some (.ref z), some (.ref md), u11, u12, u13, u14, u15, u16, u17, u18] G7 := fun md G7 hm7 s7 =>
    qA D _ _ _ _ _ _ _ _ _ _ p c fl pl hd' md z x6 _ ks X v k sd G7 (gp3.same (s36.trans s7)) (by omega) ⟨fa3.same (s36.trans s7), pa3.same (s36.trans s7), hh.same (s46.trans s7), hm7⟩ kv lv fun us G' lu' gp' => fin us G' lu' (gp'.mono (by omega))
  refine ⟨_, rfl, _, rfl, ?_⟩
  cases sd with
  | true =>
    refine iteT ⟨_, rfl, rfl, rfl, fun r dr hr' hdr _ => mk_half hr' hdr hw hk (toD_in kn) (by omega) fun G7 ht s7 => ⟨rfl, cont r G7 ht s7⟩⟩
  | false =>
    refine iteF ⟨_, rfl, fun r dr hr' hdr _ => mk_half hr' hdr hw hk (toD_in kn) (by omega) fun G7 ht s7 => ⟨rfl, cont r G7 ht s7⟩⟩
/-- the law is True at every script -/
theorem ok_law {f : Addr} {fd : FuncData} (F : FunD K "law" "law" (defArgs s_law) (defBody s_law) (defScope s_law) [] [] f fd) (Z : LawC P w K mg base C CR CL CH IK) : FnOk P w K mg base C8.CX0 11 f fd ["_law_script"] (spLaw K) := by
  refine F.ok sc_law (fun vs H Q E h => ?_) (fun cdv A outer s H vs Q E hr h => ?_)
  · obtain ⟨s, ns, rfl, _⟩ := h
    rfl
  · obtain ⟨sa, ns, rfl, l63, hs, q⟩ := h
    obtain ⟨tA, hA, qA⟩ := law_A1 Z f cdv A outer s H E hr
    have hu := hu_of hr
    refine ⟨_, PSs.nox (pss_cons (ps_set (i := 1) sc_law.nd rfl (.inl rfl) (C8.pe_c Z.cPen hr (by decide) (by rfl) (pa_cons (pv 0) pa_nil)))
      (pss_cons (ps_for PassesOwn.never rfl (pi_range1 rfl Z.zr (pa_cons pe_int pa_nil)) (pg_name (i := 2) sc_law.nd rfl (.inl rfl))
        (pss_cons (ps_set (i := 3) sc_law.nd rfl (.inl rfl) (C8.pe_c Z.cFl hr (by decide) (by rfl) (pa_cons (pv 1) (pa_cons pe_int pa_nil))))
        (pss_cons (ps_set (i := 4) sc_law.nd rfl (.inl rfl) (C8.pe_c Z.cPl hr (by decide) (by rfl) (pa_cons (pv 1) (pa_cons (pv 3) pa_nil))))
        (pss_cons (ps_if (pt_cmpR op_eq (pe_dget hu (pv 3) pe_str (fun _ _ => rfl)) pe_str (nomark _)) (pss_one ps_continue) pss_nil) hA))))
      (pss_one (ps_ret pe_bl)))), ?_⟩
    refine ⟨_, rfl, sa, ns, rfl, hs, fun p c H1 hp1 s1 => ?_⟩
    refine ⟨_, rfl, by decide, by decide, ?_⟩
    refine for_range (lo := 0) (n := 3) (fun i σ G => ∃ us : List (Option V), us.length = 17 ∧ σ = some (.ref sa) :: some (.ref p) :: us ∧ PenAt G p c (400 * i)) ⟨[none, none, none, none, none, none, none, none, none, none, none, none, none, none, none, none, none], rfl, rfl, hp1⟩ ?_ ?_
    · rintro i σ G hi ⟨us, lu, rfl, gp⟩
      match us, lu with
      | [u2, u3, u4, u5, u6, u7, u8, u9, u10, u11, u12, u13, u14, u15, u16, u17, u18], _ =>
      refine ⟨_, rfl, p, c, _, 8, rfl, gp, by omega, by decide, fun fl ks X G1 fa l8 gp1 b1 => ?_⟩
      refine ⟨_, rfl, _, rfl, p, c, fl, _, ks, X, rfl, gp1, by omega, fa, fun pl G2 pa gp2 b2 => ?_⟩
      have fa2 := fa.pen gp1 b2
      obtain ⟨cd, g, h1, _, _⟩ := fa2.ex
      refine ⟨_, rfl, fl, _, rfl, get_fk h1, rfl, _, rfl, ?_⟩
      rw [empty_S]
      by_cases e : ks = []
      · subst e
        refine Eq.mpr (if_pos (decide_eq_true rfl)) ?_
        exact ⟨_, rfl, rfl, gp2.mono (by omega)⟩
      · refine Eq.mpr (if_neg (by rw [decide_eq_false (fun z => e (S_inj (V.str.inj z)))]; decide)) ?_
        exact qA _ _ _ _ _ _ _ _ _ _ _ _ _ _ _ _ _ p c fl pl _ ks X G2 gp2 (by omega) fa2 pa (List.length_pos_iff.mpr e) fun us G' lu gp' => ⟨us, lu, rfl, gp'.mono (by omega)⟩
    · rintro σ G ⟨us, lu, rfl, gp⟩
      exact q G
end
end TX
end
section
set_option maxRecDepth 100000
set_option maxHeartbeats 0
namespace TX
open PySem PySem.Spec PyProof.Rows L2 SX CW
theorem oexA_ok {K : PySem.W.Frag} {C : Addr} (q : oexA K C = true) : ∃ nm q N bs bm sn sub ab col dd k0 k1 k2 k3 k5, K.lookup C = some (excClassObj nm q C N bs bm true sn sub ab col dd k0 k1 k2 k3 k5 "ValueError.__new__") ∧ PySem.HandSPX.refsVE bm = true := by
  unfold oexA at q
  split at q
  · rename_i t dd cd sl ho
    obtain ⟨ht, q⟩ := Bool.and_eq_true_iff.mp q
    have ht := of_decide_eq_true ht
    rw [ht] at ho
    unfold oexT at q
    split at q
    · rename_i k0 k1 k2 k3 n k5 hs
      obtain ⟨e1, q⟩ := Bool.and_eq_true_iff.mp q
      obtain ⟨e2, q⟩ := Bool.and_eq_true_iff.mp q
      obtain ⟨e3, q⟩ := Bool.and_eq_true_iff.mp q
      have e1 := of_decide_eq_true e1
      rw [e1] at hs
      split at q
      · rename_i D bm hm
        obtain ⟨e4, e5⟩ := Bool.and_eq_true_iff.mp q
        have e4 := of_decide_eq_true e4
        rw [e4] at hm
        obtain ⟨nm, bs, mro, ns, qn, hd, sn, sub, ab, col, del⟩ := cd
        dsimp only at hm e2 e3
        subst hm
        subst e3
        have e2 : del = false := by cases del <;> simp_all
        subst e2
        have hsl : sl = #[k0, k1, k2, k3, some (.builtin "ValueError.__new__"), k5] := by
          obtain ⟨l⟩ := sl
          simp only at hs
          rw [hs]
        subst hsl
        exact ⟨nm, qn, ns, bs, bm, sn, sub, ab, col, dd, k0, k1, k2, k3, k5, ho, e5⟩
      · cases q
    · cases q
  · cases q
theorem excB_ok {K : PySem.W.Frag} {D : Addr} (h : excB K D = true) : XfC K D ∧ ExcC K D := by
  unfold excB at h
  simp only [Bool.and_eq_true, decide_eq_true_eq] at h
  obtain ⟨h8, h9, h3, h10, h11, h12, h13, h14⟩ := h
  exact ⟨⟨He.eqO_ok h8, He.eqO_ok h9, h3, h10⟩, ⟨He.eqO_ok h8, He.eqO_ok h9, h3, h10, He.eqO_ok h11, He.eqO_ok h12, h13, h14⟩⟩
theorem xfV_ok {K : PySem.W.Frag} {mg : Str → Option Value} {D FE : Addr} {nm fl : Str} (h : xfB K D FE fl = true) (hx : ex27B K D = true) (g : mg nm = some (.ref D)) (gF : mg "FloorError" = some (.ref FE)) : OexC K D ∧ XcV K mg nm fl D FE := by
  unfold xfB at h
  simp only [Bool.and_eq_true, decide_eq_true_eq] at h
  obtain ⟨h1, h2, h4, h5, h6, hy, k1⟩ := h
  unfold ex27B at hx
  simp only [Bool.and_eq_true, decide_eq_true_eq] at hx
  obtain ⟨xf, e1⟩ := excB_ok hy
  exact ⟨⟨oexA_ok h1, He.eqO_ok h2, xf.3, h4, h5⟩, xf, e1, He.eqO_ok h6, k1, hx.1, hx.2, g, gF⟩
theorem ap27B_ok {K : PySem.W.Frag} {C CR CL CH : Addr} (h : ap27B K C CR CL CH = true) (iP : C8.InsC K C) (iR : C8.InsC K CR) (iL : C8.InsC K CL) (iH : C8.InsC K CH) : Ap K C CR CL CH := by
  unfold ap27B kofB sofB at h
  simp only [Bool.and_eq_true, List.all_eq_true, decide_eq_true_eq] at h
  exact ⟨iP, iR, iL, iH, h.1, h.2.1, h.2.2⟩
theorem cstB_ok {K : PySem.W.Frag} (h : cstB K = true) : CSt K (He.ga K "Half") (.type "type") "beside" (stP K) (stG K) ∧ okAt K (stG K) "Half.beside" = true := by
  unfold cstB at h
  obtain ⟨h1, h⟩ := Bool.and_eq_true_iff.mp h
  obtain ⟨h2, h⟩ := Bool.and_eq_true_iff.mp h
  obtain ⟨h3, h⟩ := Bool.and_eq_true_iff.mp h
  obtain ⟨h4, h5⟩ := Bool.and_eq_true_iff.mp h
  have kp : PySem.W.keepIn K (.ref (stG K)) = true := by
    have z := h5
    unfold okAt at z
    exact (Bool.and_eq_true_iff.mp z).1
  refine ⟨⟨⟨h1, He.eqO_ok h2⟩, ?_, ?_, kp⟩, h5⟩
  · split at h3
    · rename_i b p c e
      simp only [Bool.and_eq_true, decide_eq_true_eq] at h3
      obtain ⟨rfl, rfl, rfl⟩ := h3
      exact e
    · cases h3
  · unfold stG
    split at h4
    · rename_i g r e
      rw [e]
      exact ⟨r, rfl⟩
    · cases h4
end TX
end
section
set_option maxRecDepth 100000
set_option maxHeartbeats 0
namespace TX
open PySem PySem.Spec PyProof.Rows L2 SX CW
section
variable {P : Program} {w : World} {K : PySem.W.Frag} {h : Heap} {mg : Str → Option Value}
theorem D_of (X : K.In h) (G : h.Ns mainGlobals mg) (c : He.SaysD fa fn K) {x : Str} {st : Stmt} (h1 : mkD x st ∈ fn) (h2 : He.Fa.glo x ∈ fa) : D K mg x st [] := by
  obtain ⟨fd, F⟩ := c.defs h1
  exact ⟨_, fd, F, He.glo_ok X G (c.facts h2)⟩
theorem free_of (X : K.In h) (G : h.Ns mainGlobals mg) (c : He.SaysD fa fn K) {x : Str} (h2 : He.Fa.free x ∈ fa) : mg x = none := He.free_ok X G (c.facts h2)
theorem facts (X : K.In h) (G : h.Ns mainGlobals mg) {f : Addr} (hfa : mg ("law" : Str) = some (.ref f)) (c0 : He.SaysX fa fn [] [] ex w h K) (r0 : fnAt K (stG K) = He.DefD.val dBes) :
    ∃ fd : FuncData, (∀ (s : Shared) (v : Value), BindsTo s fd ⟨[v], []⟩ [("_law_script", v)]) ∧ ∀ base : Heap, K.In base → base.Ns mainGlobals mg → FnOk P w K mg base C8.CX0 11 f fd ["_law_script"] (spLaw K) := by
  have c : He.SaysD fa fn K := c0.t.d
  have e := c0.more
  unfold ex at e
  simp only [Bool.and_eq_true] at e
  obtain ⟨eP, eR, eT, eL, eH, eN, eNH, eRW, eG, eI, eV, eA, eC⟩ := e
  have clP : Cls K (He.ga K "Plan") := He.cls_ok (c.facts (f := .cls "Plan") (by simp [fn, fn1, fn2, fn3, fn4, fn5, fn6, fa, fa1, fa2, fa3, fa4, fa5, fa6, fa7, fa8, fa9, fa10]))
  have clR : Cls K (He.ga K "Room") := He.cls_ok (c.facts (f := .cls "Room") (by simp [fn, fn1, fn2, fn3, fn4, fn5, fn6, fa, fa1, fa2, fa3, fa4, fa5, fa6, fa7, fa8, fa9, fa10]))
  have TP : PlanT K (He.ga K "Plan") := ⟨clP, He.noat_ok (c.facts (f := .noat "Plan" "kinds") (by simp [fn, fn1, fn2, fn3, fn4, fn5, fn6, fa, fa1, fa2, fa3, fa4, fa5, fa6, fa7, fa8, fa9, fa10])), He.noat_ok (c.facts (f := .noat "Plan" "pairs") (by simp [fn, fn1, fn2, fn3, fn4, fn5, fn6, fa, fa1, fa2, fa3, fa4, fa5, fa6, fa7, fa8, fa9, fa10])), He.noat_ok (c.facts (f := .noat "Plan" "across") (by simp [fn, fn1, fn2, fn3, fn4, fn5, fn6, fa, fa1, fa2, fa3, fa4, fa5, fa6, fa7, fa8, fa9, fa10])), He.noat_ok (c.facts (f := .noat "Plan" "lesser") (by simp [fn, fn1, fn2, fn3, fn4, fn5, fn6, fa, fa1, fa2, fa3, fa4, fa5, fa6, fa7, fa8, fa9, fa10]))⟩
  have TR : RoomT K (He.ga K "Room") := ⟨clR, He.noat_ok (c.facts (f := .noat "Room" "plan") (by simp [fn, fn1, fn2, fn3, fn4, fn5, fn6, fa, fa1, fa2, fa3, fa4, fa5, fa6, fa7, fa8, fa9, fa10])), He.noat_ok (c.facts (f := .noat "Room" "name") (by simp [fn, fn1, fn2, fn3, fn4, fn5, fn6, fa, fa1, fa2, fa3, fa4, fa5, fa6, fa7, fa8, fa9, fa10]))⟩
  obtain ⟨nIP, nSP⟩ := insB_c clP eP
  obtain ⟨nIR, nSR⟩ := insB_c clR eR
  have zl : mg "len" = none := free_of X G c (by simp [fn, fn1, fn2, fn3, fn4, fn5, fn6, fa, fa1, fa2, fa3, fa4, fa5, fa6, fa7, fa8, fa9, fa10])
  have zt : mg "set" = none := free_of X G c (by simp [fn, fn1, fn2, fn3, fn4, fn5, fn6, fa, fa1, fa2, fa3, fa4, fa5, fa6, fa7, fa8, fa9, fa10])
  have zo : mg "sorted" = none := free_of X G c (by simp [fn, fn1, fn2, fn3, fn4, fn5, fn6, fa, fa1, fa2, fa3, fa4, fa5, fa6, fa7, fa8, fa9, fa10])
  have zu : mg "tuple" = none := free_of X G c (by simp [fn, fn1, fn2, fn3, fn4, fn5, fn6, fa, fa1, fa2, fa3, fa4, fa5, fa6, fa7, fa8, fa9, fa10])
  have zi : mg "isinstance" = none := free_of X G c (by simp [fn, fn1, fn2, fn3, fn4, fn5, fn6, fa, fa1, fa2, fa3, fa4, fa5, fa6, fa7, fa8, fa9, fa10])
  have zs : mg "str" = none := free_of X G c (by simp [fn, fn1, fn2, fn3, fn4, fn5, fn6, fa, fa1, fa2, fa3, fa4, fa5, fa6, fa7, fa8, fa9, fa10])
  have za : mg "all" = none := free_of X G c (by simp [fn, fn1, fn2, fn3, fn4, fn5, fn6, fa, fa1, fa2, fa3, fa4, fa5, fa6, fa7, fa8, fa9, fa10])
  have zn : mg "int" = none := free_of X G c (by simp [fn, fn1, fn2, fn3, fn4, fn5, fn6, fa, fa1, fa2, fa3, fa4, fa5, fa6, fa7, fa8, fa9, fa10])
  have zr : mg "range" = none := free_of X G c (by simp [fn, fn1, fn2, fn3, fn4, fn5, fn6, fa, fa1, fa2, fa3, fa4, fa5, fa6, fa7, fa8, fa9, fa10])
  have zli : mg "list" = none := free_of X G c (by simp [fn, fn1, fn2, fn3, fn4, fn5, fn6, fa, fa1, fa2, fa3, fa4, fa5, fa6, fa7, fa8, fa9, fa10])
  have zd : mg "dict" = none := free_of X G c (by simp [fn, fn1, fn2, fn3, fn4, fn5, fn6, fa, fa1, fa2, fa3, fa4, fa5, fa6, fa7, fa8, fa9, fa10])
  have zm : mg "min" = none := free_of X G c (by simp [fn, fn1, fn2, fn3, fn4, fn5, fn6, fa, fa1, fa2, fa3, fa4, fa5, fa6, fa7, fa8, fa9, fa10])
  have zmx : mg "max" = none := free_of X G c (by simp [fn, fn1, fn2, fn3, fn4, fn5, fn6, fa, fa1, fa2, fa3, fa4, fa5, fa6, fa7, fa8, fa9, fa10])
  have zz : mg "zip" = none := free_of X G c (by simp [fn, fn1, fn2, fn3, fn4, fn5, fn6, fa, fa1, fa2, fa3, fa4, fa5, fa6, fa7, fa8, fa9, fa10])
  have gL : ∃ t, mg "MOST_LETTERS" = some (.int 2000 t) := He.int_ok X G (c.facts (f := .int "MOST_LETTERS" 2000) (by simp [fn, fn1, fn2, fn3, fn4, fn5, fn6, fa, fa1, fa2, fa3, fa4, fa5, fa6, fa7, fa8, fa9, fa10]))
  have gK : ∃ t, mg "MOST_KINDS" = some (.int 8 t) := He.int_ok X G (c.facts (f := .int "MOST_KINDS" 8) (by simp [fn, fn1, fn2, fn3, fn4, fn5, fn6, fa, fa1, fa2, fa3, fa4, fa5, fa6, fa7, fa8, fa9, fa10]))
  obtain ⟨fdR, FR⟩ := c.defs (d := dRoom) (by simp [fn, fn1, fn2, fn3, fn4, fn5, fn6, fa, fa1, fa2, fa3, fa4, fa5, fa6, fa7, fa8, fa9, fa10])
  obtain ⟨fdP, FP⟩ := c.defs (d := dPlan) (by simp [fn, fn1, fn2, fn3, fn4, fn5, fn6, fa, fa1, fa2, fa3, fa4, fa5, fa6, fa7, fa8, fa9, fa10])
  obtain ⟨fd, FL⟩ := c.defs (d := mkD "law" s_law) (by simp [fn, fn1, fn2, fn3, fn4, fn5, fn6, fa, fa1, fa2, fa3, fa4, fa5, fa6, fa7, fa8, fa9, fa10])
  have el := hfa.symm.trans (He.glo_ok X G (c.facts (f := .glo "law") (by simp [fn, fn1, fn2, fn3, fn4, fn5, fn6, fa, fa1, fa2, fa3, fa4, fa5, fa6, fa7, fa8, fa9, fa10])))
  have ef : f = He.ga K "law" := by
    injection el with el
    injection el
  have b := FunD.bindsA (ps := ["_law_script"]) FL fun _ _ _ _ _ _ us hl => match us, hl with | [_], _ => rfl
  refine ⟨fd, fun s v => b s [v] rfl, fun base _ _ => ?_⟩
  have mP : Mk K (He.ga K "Plan") (He.ma K (He.ga K "Plan") "__init__") := He.mkr_ok (c.facts (f := .mkr "Plan") (by simp [fn, fn1, fn2, fn3, fn4, fn5, fn6, fa, fa1, fa2, fa3, fa4, fa5, fa6, fa7, fa8, fa9, fa10]))
  have mR : Mk K (He.ga K "Room") (He.ma K (He.ga K "Room") "__init__") := He.mkr_ok (c.facts (f := .mkr "Room") (by simp [fn, fn1, fn2, fn3, fn4, fn5, fn6, fa, fa1, fa2, fa3, fa4, fa5, fa6, fa7, fa8, fa9, fa10]))
  have gP : mg "Plan" = some (.ref (He.ga K "Plan")) := He.glo_ok X G (c.facts (f := .glo "Plan") (by simp [fn, fn1, fn2, fn3, fn4, fn5, fn6, fa, fa1, fa2, fa3, fa4, fa5, fa6, fa7, fa8, fa9, fa10]))
  have gR : mg "Room" = some (.ref (He.ga K "Room")) := He.glo_ok X G (c.facts (f := .glo "Room") (by simp [fn, fn1, fn2, fn3, fn4, fn5, fn6, fa, fa1, fa2, fa3, fa4, fa5, fa6, fa7, fa8, fa9, fa10]))
  have cBe := ok_behind (P := P) (w := w) (base := base) (D_of X G c (x := "behind") (st := s_behind) (by simp [fn, fn1, fn2, fn3, fn4, fn5, fn6, fa, fa1, fa2, fa3, fa4, fa5, fa6, fa7, fa8, fa9, fa10]) (by simp [fn, fn1, fn2, fn3, fn4, fn5, fn6, fa, fa1, fa2, fa3, fa4, fa5, fa6, fa7, fa8, fa9, fa10])) TP zl
  have cFo := ok_followed (D_of X G c (x := "followed") (st := s_followed) (by simp [fn, fn1, fn2, fn3, fn4, fn5, fn6, fa, fa1, fa2, fa3, fa4, fa5, fa6, fa7, fa8, fa9, fa10]) (by simp [fn, fn1, fn2, fn3, fn4, fn5, fn6, fa, fa1, fa2, fa3, fa4, fa5, fa6, fa7, fa8, fa9, fa10])) cBe
  have cCl := ok_chklen (P := P) (w := w) (base := base) (D_of X G c (x := "check_length") (st := s_check_length) (by simp [fn, fn1, fn2, fn3, fn4, fn5, fn6, fa, fa1, fa2, fa3, fa4, fa5, fa6, fa7, fa8, fa9, fa10]) (by simp [fn, fn1, fn2, fn3, fn4, fn5, fn6, fa, fa1, fa2, fa3, fa4, fa5, fa6, fa7, fa8, fa9, fa10])) zl gL
  have cCw := ok_chkway (D_of X G c (x := "check_way") (st := s_check_way) (by simp [fn, fn1, fn2, fn3, fn4, fn5, fn6, fa, fa1, fa2, fa3, fa4, fa5, fa6, fa7, fa8, fa9, fa10]) (by simp [fn, fn1, fn2, fn3, fn4, fn5, fn6, fa, fa1, fa2, fa3, fa4, fa5, fa6, fa7, fa8, fa9, fa10])) TP zi zs cCl
  have cKi := ok_chkkind (P := P) (w := w) (base := base) (D_of X G c (x := "check_kind") (st := s_check_kind) (by simp [fn, fn1, fn2, fn3, fn4, fn5, fn6, fa, fa1, fa2, fa3, fa4, fa5, fa6, fa7, fa8, fa9, fa10]) (by simp [fn, fn1, fn2, fn3, fn4, fn5, fn6, fa, fa1, fa2, fa3, fa4, fa5, fa6, fa7, fa8, fa9, fa10])) TP zi zs zl
  have cLn := ok_leads (P := P) (w := w) (base := base) (D_of X G c (x := "leads_nearer") (st := s_leads_nearer) (by simp [fn, fn1, fn2, fn3, fn4, fn5, fn6, fa, fa1, fa2, fa3, fa4, fa5, fa6, fa7, fa8, fa9, fa10]) (by simp [fn, fn1, fn2, fn3, fn4, fn5, fn6, fa, fa1, fa2, fa3, fa4, fa5, fa6, fa7, fa8, fa9, fa10])) TP
  have cLe := ok_letters (P := P) (w := w) (base := base) (D_of X G c (x := "are_letters") (st := s_are_letters) (by simp [fn, fn1, fn2, fn3, fn4, fn5, fn6, fa, fa1, fa2, fa3, fa4, fa5, fa6, fa7, fa8, fa9, fa10]) (by simp [fn, fn1, fn2, fn3, fn4, fn5, fn6, fa, fa1, fa2, fa3, fa4, fa5, fa6, fa7, fa8, fa9, fa10])) zi zs zl zt za
  have cIp := ok_ispair (P := P) (w := w) (base := base) (D_of X G c (x := "is_pair") (st := s_is_pair) (by simp [fn, fn1, fn2, fn3, fn4, fn5, fn6, fa, fa1, fa2, fa3, fa4, fa5, fa6, fa7, fa8, fa9, fa10]) (by simp [fn, fn1, fn2, fn3, fn4, fn5, fn6, fa, fa1, fa2, fa3, fa4, fa5, fa6, fa7, fa8, fa9, fa10])) zi zs zl
  have cUp := ok_upright (P := P) (w := w) (base := base) (D_of X G c (x := "upright") (st := s_upright) (by simp [fn, fn1, fn2, fn3, fn4, fn5, fn6, fa, fa1, fa2, fa3, fa4, fa5, fa6, fa7, fa8, fa9, fa10]) (by simp [fn, fn1, fn2, fn3, fn4, fn5, fn6, fa, fa1, fa2, fa3, fa4, fa5, fa6, fa7, fa8, fa9, fa10]))
  have cAc := ok_across (D_of X G c (x := "kinds_across") (st := s_kinds_across) (by simp [fn, fn1, fn2, fn3, fn4, fn5, fn6, fa, fa1, fa2, fa3, fa4, fa5, fa6, fa7, fa8, fa9, fa10]) (by simp [fn, fn1, fn2, fn3, fn4, fn5, fn6, fa, fa1, fa2, fa3, fa4, fa5, fa6, fa7, fa8, fa9, fa10])) cUp
  have cBf := ok_before (P := P) (w := w) (base := base) (D_of X G c (x := "kinds_before") (st := s_kinds_before) (by simp [fn, fn1, fn2, fn3, fn4, fn5, fn6, fa, fa1, fa2, fa3, fa4, fa5, fa6, fa7, fa8, fa9, fa10]) (by simp [fn, fn1, fn2, fn3, fn4, fn5, fn6, fa, fa1, fa2, fa3, fa4, fa5, fa6, fa7, fa8, fa9, fa10]))
  have kR := ok_room FR TR mR gR cCw cFo
  have kR1 := ok_room1 FR TR mR gR cCw cFo
  have kPb := ok_planbody (C := He.ga K "Plan") FP TP zl zt zo zu gK cLe cIp cUp cAc cBf
  have kP2 := ok_plan2 FP mP gP kPb
  have kP1 := ok_plan1 FP mP gP kPb
  obtain ⟨fdPE, FPE⟩ := c.defs (d := mkM "Plan" "__eq__" "Plan.__eq__" s_Plan_eq) (by simp [fn, fn1, fn2, fn3, fn4, fn5, fn6, fa, fa1, fa2, fa3, fa4, fa5, fa6, fa7, fa8, fa9, fa10])
  have MPE : Meth K (He.ga K "Plan") "__eq__" (He.ma K (He.ga K "Plan") "__eq__") := He.meth_ok (c.facts (f := .meth "Plan" "__eq__") (by simp [fn, fn1, fn2, fn3, fn4, fn5, fn6, fa, fa1, fa2, fa3, fa4, fa5, fa6, fa7, fa8, fa9, fa10]))
  have bPE : L2.Binds K fdPE ["self", "other"] [] := FunD.bindsN FPE fun _ _ _ _ _ _ us hl => match us, hl with | [_, _], _ => rfl
  have GPE := ok_planeq (P := P) (w := w) (base := base) FPE TP nIP zi gP
  obtain ⟨fdRE, FRE⟩ := c.defs (d := mkM "Room" "__eq__" "Room.__eq__" s_Room_eq) (by simp [fn, fn1, fn2, fn3, fn4, fn5, fn6, fa, fa1, fa2, fa3, fa4, fa5, fa6, fa7, fa8, fa9, fa10])
  have MRE : Meth K (He.ga K "Room") "__eq__" (He.ma K (He.ga K "Room") "__eq__") := He.meth_ok (c.facts (f := .meth "Room" "__eq__") (by simp [fn, fn1, fn2, fn3, fn4, fn5, fn6, fa, fa1, fa2, fa3, fa4, fa5, fa6, fa7, fa8, fa9, fa10]))
  have bRE : L2.Binds K fdRE ["self", "other"] [] := FunD.bindsN FRE fun _ _ _ _ _ _ us hl => match us, hl with | [_, _], _ => rfl
  have GRE := ok_roomeq FRE TR nIR zi gR (dun_of GPE MPE bPE)
  have cNd := ok_named (D_of X G c (x := "room_named") (st := s_room_named) (by simp [fn, fn1, fn2, fn3, fn4, fn5, fn6, fa, fa1, fa2, fa3, fa4, fa5, fa6, fa7, fa8, fa9, fa10]) (by simp [fn, fn1, fn2, fn3, fn4, fn5, fn6, fa, fa1, fa2, fa3, fa4, fa5, fa6, fa7, fa8, fa9, fa10])) TR cCl kR1
  obtain ⟨fdRG, FRG⟩ := c.defs (d := mkM "Room" "__getitem__" "Room.__getitem__" s_Room_getitem) (by simp [fn, fn1, fn2, fn3, fn4, fn5, fn6, fa, fa1, fa2, fa3, fa4, fa5, fa6, fa7, fa8, fa9, fa10])
  have MRG : Meth K (He.ga K "Room") "__getitem__" (He.ma K (He.ga K "Room") "__getitem__") := He.meth_ok (c.facts (f := .meth "Room" "__getitem__") (by simp [fn, fn1, fn2, fn3, fn4, fn5, fn6, fa, fa1, fa2, fa3, fa4, fa5, fa6, fa7, fa8, fa9, fa10]))
  have bRG : L2.Binds K fdRG ["self", "at"] [] := FunD.bindsN FRG fun _ _ _ _ _ _ us hl => match us, hl with | [_, _], _ => rfl
  have GRG := ok_roomget FRG TR cKi cBe cNd
  have clW : Cls K (He.ga K "Wall") := He.cls_ok (c.facts (f := .cls "Wall") (by simp [fn, fn1, fn2, fn3, fn4, fn5, fn6, fa, fa1, fa2, fa3, fa4, fa5, fa6, fa7, fa8, fa9, fa10]))
  have clH : Cls K (He.ga K "Half") := He.cls_ok (c.facts (f := .cls "Half") (by simp [fn, fn1, fn2, fn3, fn4, fn5, fn6, fa, fa1, fa2, fa3, fa4, fa5, fa6, fa7, fa8, fa9, fa10]))
  obtain ⟨nIL, nSL⟩ := insB_c clW eL
  obtain ⟨nIH, nSH⟩ := insB_c clH eH
  have TW : WallT K (He.ga K "Wall") := ⟨clW, He.noat_ok (c.facts (f := .noat "Wall" "plan") (by simp [fn, fn1, fn2, fn3, fn4, fn5, fn6, fa, fa1, fa2, fa3, fa4, fa5, fa6, fa7, fa8, fa9, fa10])), He.noat_ok (c.facts (f := .noat "Wall" "room") (by simp [fn, fn1, fn2, fn3, fn4, fn5, fn6, fa, fa1, fa2, fa3, fa4, fa5, fa6, fa7, fa8, fa9, fa10])), He.noat_ok (c.facts (f := .noat "Wall" "kind") (by simp [fn, fn1, fn2, fn3, fn4, fn5, fn6, fa, fa1, fa2, fa3, fa4, fa5, fa6, fa7, fa8, fa9, fa10]))⟩
  have TH : HalfT K (He.ga K "Half") := ⟨clH, He.noat_ok (c.facts (f := .noat "Half" "wall") (by simp [fn, fn1, fn2, fn3, fn4, fn5, fn6, fa, fa1, fa2, fa3, fa4, fa5, fa6, fa7, fa8, fa9, fa10])), He.noat_ok (c.facts (f := .noat "Half" "far") (by simp [fn, fn1, fn2, fn3, fn4, fn5, fn6, fa, fa1, fa2, fa3, fa4, fa5, fa6, fa7, fa8, fa9, fa10])), He.noat_ok (c.facts (f := .noat "Half" "plan") (by simp [fn, fn1, fn2, fn3, fn4, fn5, fn6, fa, fa1, fa2, fa3, fa4, fa5, fa6, fa7, fa8, fa9, fa10]))⟩
  obtain ⟨fdW, FW⟩ := c.defs (d := dWall) (by simp [fn, fn1, fn2, fn3, fn4, fn5, fn6, fa, fa1, fa2, fa3, fa4, fa5, fa6, fa7, fa8, fa9, fa10])
  obtain ⟨fdH, FH⟩ := c.defs (d := dHalf) (by simp [fn, fn1, fn2, fn3, fn4, fn5, fn6, fa, fa1, fa2, fa3, fa4, fa5, fa6, fa7, fa8, fa9, fa10])
  have mkW : Mk K (He.ga K "Wall") (He.ma K (He.ga K "Wall") "__init__") := He.mkr_ok (c.facts (f := .mkr "Wall") (by simp [fn, fn1, fn2, fn3, fn4, fn5, fn6, fa, fa1, fa2, fa3, fa4, fa5, fa6, fa7, fa8, fa9, fa10]))
  have mkH : Mk K (He.ga K "Half") (He.ma K (He.ga K "Half") "__init__") := He.mkr_ok (c.facts (f := .mkr "Half") (by simp [fn, fn1, fn2, fn3, fn4, fn5, fn6, fa, fa1, fa2, fa3, fa4, fa5, fa6, fa7, fa8, fa9, fa10]))
  have gW : mg "Wall" = some (.ref (He.ga K "Wall")) := He.glo_ok X G (c.facts (f := .glo "Wall") (by simp [fn, fn1, fn2, fn3, fn4, fn5, fn6, fa, fa1, fa2, fa3, fa4, fa5, fa6, fa7, fa8, fa9, fa10]))
  have gH : mg "Half" = some (.ref (He.ga K "Half")) := He.glo_ok X G (c.facts (f := .glo "Half") (by simp [fn, fn1, fn2, fn3, fn4, fn5, fn6, fa, fa1, fa2, fa3, fa4, fa5, fa6, fa7, fa8, fa9, fa10]))
  have gIK : mg "InvalidKind" = some (.ref (He.ga K "InvalidKind")) := He.glo_ok X G (c.facts (f := .glo "InvalidKind") (by simp [fn, fn1, fn2, fn3, fn4, fn5, fn6, fa, fa1, fa2, fa3, fa4, fa5, fa6, fa7, fa8, fa9, fa10]))
  have gFE : mg "FloorError" = some (.ref (He.ga K "FloorError")) := He.glo_ok X G (c.facts (f := .glo "FloorError") (by simp [fn, fn1, fn2, fn3, fn4, fn5, fn6, fa, fa1, fa2, fa3, fa4, fa5, fa6, fa7, fa8, fa9, fa10]))
  have zv : mg "ValueError" = none := free_of X G c (by simp [fn, fn1, fn2, fn3, fn4, fn5, fn6, fa, fa1, fa2, fa3, fa4, fa5, fa6, fa7, fa8, fa9, fa10])
  have cTa := ok_those (P := P) (w := w) (base := base) (D_of X G c (x := "those_across") (st := s_those_across) (by simp [fn, fn1, fn2, fn3, fn4, fn5, fn6, fa, fa1, fa2, fa3, fa4, fa5, fa6, fa7, fa8, fa9, fa10]) (by simp [fn, fn1, fn2, fn3, fn4, fn5, fn6, fa, fa1, fa2, fa3, fa4, fa5, fa6, fa7, fa8, fa9, fa10])) TP
  have cPt := ok_parted (D_of X G c (x := "parted") (st := s_parted) (by simp [fn, fn1, fn2, fn3, fn4, fn5, fn6, fa, fa1, fa2, fa3, fa4, fa5, fa6, fa7, fa8, fa9, fa10]) (by simp [fn, fn1, fn2, fn3, fn4, fn5, fn6, fa, fa1, fa2, fa3, fa4, fa5, fa6, fa7, fa8, fa9, fa10])) zl cTa
  have cTd := ok_todoor (D_of X G c (x := "to_door") (st := s_to_door) (by simp [fn, fn1, fn2, fn3, fn4, fn5, fn6, fa, fa1, fa2, fa3, fa4, fa5, fa6, fa7, fa8, fa9, fa10]) (by simp [fn, fn1, fn2, fn3, fn4, fn5, fn6, fa, fa1, fa2, fa3, fa4, fa5, fa6, fa7, fa8, fa9, fa10])) TP cPt
  have kWb := ok_wallbody (C := He.ga K "Plan") FW TR TW cKi cTd cNd
  have kW := ok_wall FW mkW gW kWb
  have cSm := ok_sameO (D_of X G c (x := "check_same_plan") (st := s_check_same_plan) (by simp [fn, fn1, fn2, fn3, fn4, fn5, fn6, fa, fa1, fa2, fa3, fa4, fa5, fa6, fa7, fa8, fa9, fa10]) (by simp [fn, fn1, fn2, fn3, fn4, fn5, fn6, fa, fa1, fa2, fa3, fa4, fa5, fa6, fa7, fa8, fa9, fa10])) GPE MPE.fn bPE eN
  have cSt := ok_starts (P := P) (w := w) (base := base) (D_of X G c (x := "starts_with") (st := s_starts_with) (by simp [fn, fn1, fn2, fn3, fn4, fn5, fn6, fa, fa1, fa2, fa3, fa4, fa5, fa6, fa7, fa8, fa9, fa10]) (by simp [fn, fn1, fn2, fn3, fn4, fn5, fn6, fa, fa1, fa2, fa3, fa4, fa5, fa6, fa7, fa8, fa9, fa10])) TP
  have cWb := ok_wayb (D_of X G c (x := "way_between") (st := s_way_between) (by simp [fn, fn1, fn2, fn3, fn4, fn5, fn6, fa, fa1, fa2, fa3, fa4, fa5, fa6, fa7, fa8, fa9, fa10]) (by simp [fn, fn1, fn2, fn3, fn4, fn5, fn6, fa, fa1, fa2, fa3, fa4, fa5, fa6, fa7, fa8, fa9, fa10])) zz cFo
  have GPG := ok_planeqG (P := P) (w := w) (base := base) FPE TP nIP zi gP
  obtain ⟨fdWB, FWB⟩ := c.defs (d := mkM "Wall" "beyond" "Wall.beyond" s_Wall_beyond) (by simp [fn, fn1, fn2, fn3, fn4, fn5, fn6, fa, fa1, fa2, fa3, fa4, fa5, fa6, fa7, fa8, fa9, fa10])
  have MWB : Meth K (He.ga K "Wall") "beyond" (He.ma K (He.ga K "Wall") "beyond") := He.meth_ok (c.facts (f := .meth "Wall" "beyond") (by simp [fn, fn1, fn2, fn3, fn4, fn5, fn6, fa, fa1, fa2, fa3, fa4, fa5, fa6, fa7, fa8, fa9, fa10]))
  have bWB : L2.Binds K fdWB ["self", "room"] [] := (FunD.bindsN FWB (ps := ["self", "room"]) fun _ _ _ _ _ _ us hl => match us, hl with | [_, _], _ => rfl)
  have GWB := ok_beyond FWB TR TW cSm cFo cSt
  obtain ⟨fdWE, FWE⟩ := c.defs (d := mkM "Wall" "__eq__" "Wall.__eq__" s_Wall_eq) (by simp [fn, fn1, fn2, fn3, fn4, fn5, fn6, fa, fa1, fa2, fa3, fa4, fa5, fa6, fa7, fa8, fa9, fa10])
  have MWE : Meth K (He.ga K "Wall") "__eq__" (He.ma K (He.ga K "Wall") "__eq__") := He.meth_ok (c.facts (f := .meth "Wall" "__eq__") (by simp [fn, fn1, fn2, fn3, fn4, fn5, fn6, fa, fa1, fa2, fa3, fa4, fa5, fa6, fa7, fa8, fa9, fa10]))
  have bWE : L2.Binds K fdWE ["self", "other"] [] := (FunD.bindsN FWE (ps := ["self", "other"]) fun _ _ _ _ _ _ us hl => match us, hl with | [_, _], _ => rfl)
  have GWE := ok_walleq FWE TW nIL nIR (rwB_ok eRW).1 zi gW (dun_of GRE MRE bRE)
  have MK := half_mk (P := P) (w := w) (mg := mg) (base := base) (C := He.ga K "Plan") (CR := He.ga K "Room") FH TW TH mkH gH
  have cIi := ok_isin (D_of X G c (x := "is_in") (st := s_is_in) (by simp [fn, fn1, fn2, fn3, fn4, fn5, fn6, fa, fa1, fa2, fa3, fa4, fa5, fa6, fa7, fa8, fa9, fa10]) (by simp [fn, fn1, fn2, fn3, fn4, fn5, fn6, fa, fa1, fa2, fa3, fa4, fa5, fa6, fa7, fa8, fa9, fa10])) TR TW TH cWb cLn
  obtain ⟨fdHC, FHC⟩ := c.defs (d := mkM "Half" "__contains__" "Half.__contains__" s_Half_contains) (by simp [fn, fn1, fn2, fn3, fn4, fn5, fn6, fa, fa1, fa2, fa3, fa4, fa5, fa6, fa7, fa8, fa9, fa10])
  have MHC : Meth K (He.ga K "Half") "__contains__" (He.ma K (He.ga K "Half") "__contains__") := He.meth_ok (c.facts (f := .meth "Half" "__contains__") (by simp [fn, fn1, fn2, fn3, fn4, fn5, fn6, fa, fa1, fa2, fa3, fa4, fa5, fa6, fa7, fa8, fa9, fa10]))
  have bHC : L2.Binds K fdHC ["self", "x"] [] := (FunD.bindsN FHC (ps := ["self", "x"]) fun _ _ _ _ _ _ us hl => match us, hl with | [_, _], _ => rfl)
  have GHC := ok_hcon FHC TR TH nIR zi gR GPG MPE.fn bPE eN cIi
  obtain ⟨fdHI, FHI⟩ := c.defs (d := mkM "Half" "__invert__" "Half.__invert__" s_Half_invert) (by simp [fn, fn1, fn2, fn3, fn4, fn5, fn6, fa, fa1, fa2, fa3, fa4, fa5, fa6, fa7, fa8, fa9, fa10])
  have MHI : Meth K (He.ga K "Half") "__invert__" (He.ma K (He.ga K "Half") "__invert__") := He.meth_ok (c.facts (f := .meth "Half" "__invert__") (by simp [fn, fn1, fn2, fn3, fn4, fn5, fn6, fa, fa1, fa2, fa3, fa4, fa5, fa6, fa7, fa8, fa9, fa10]))
  have bHI : L2.Binds K fdHI ["self"] [] := (FunD.bindsN FHI (ps := ["self"]) fun _ _ _ _ _ _ us hl => match us, hl with | [_], _ => rfl)
  have GHI := ok_hinv FHI TH MK
  obtain ⟨fdHE, FHE⟩ := c.defs (d := mkM "Half" "__eq__" "Half.__eq__" s_Half_eq) (by simp [fn, fn1, fn2, fn3, fn4, fn5, fn6, fa, fa1, fa2, fa3, fa4, fa5, fa6, fa7, fa8, fa9, fa10])
  have MHE : Meth K (He.ga K "Half") "__eq__" (He.ma K (He.ga K "Half") "__eq__") := He.meth_ok (c.facts (f := .meth "Half" "__eq__") (by simp [fn, fn1, fn2, fn3, fn4, fn5, fn6, fa, fa1, fa2, fa3, fa4, fa5, fa6, fa7, fa8, fa9, fa10]))
  have bHE : L2.Binds K fdHE ["self", "other"] [] := (FunD.bindsN FHE (ps := ["self", "other"]) fun _ _ _ _ _ _ us hl => match us, hl with | [_, _], _ => rfl)
  have GHE := ok_heq FHE TH nIH zi gH (dun_of GWE MWE bWE)
  obtain ⟨fdIK, FIK⟩ := c.defs (d := mkM "InvalidKind" "__init__" "InvalidKind.__init__" s_InvalidKind_init) (by simp [fn, fn1, fn2, fn3, fn4, fn5, fn6, fa, fa1, fa2, fa3, fa4, fa5, fa6, fa7, fa8, fa9, fa10])
  have MIK : Meth K (He.ga K "InvalidKind") "__init__" (He.ma K (He.ga K "InvalidKind") "__init__") := He.meth_ok (c.facts (f := .meth "InvalidKind" "__init__") (by simp [fn, fn1, fn2, fn3, fn4, fn5, fn6, fa, fa1, fa2, fa3, fa4, fa5, fa6, fa7, fa8, fa9, fa10]))
  have bIK : L2.Binds K fdIK ["self", "value"] [] := (FunD.bindsN FIK (ps := ["self", "value"]) fun _ _ _ _ _ _ us hl => match us, hl with | [_, _], _ => rfl)
  obtain ⟨oxIK, xIK⟩ := xfV_ok eI eV gIK gFE
  have GIK := ok_ik (mg := mg) (P := P) (w := w) (base := base) FIK oxIK xIK.nf
  have EIK : ErrC P w K mg base "InvalidKind" "value" (He.ga K "InvalidKind") := ⟨oxIK, xIK.nf, gIK, _, _, _, GIK, MIK, bIK⟩
  have cKE := ok_chkkindE (D_of X G c (x := "check_kind") (st := s_check_kind) (by simp [fn, fn1, fn2, fn3, fn4, fn5, fn6, fa, fa1, fa2, fa3, fa4, fa5, fa6, fa7, fa8, fa9, fa10]) (by simp [fn, fn1, fn2, fn3, fn4, fn5, fn6, fa, fa1, fa2, fa3, fa4, fa5, fa6, fa7, fa8, fa9, fa10])) TP zi zs zl EIK
  have bW : L2.Binds K fdW ["self", "room", "kind"] [] := (FunD.bindsN FW (ps := ["self", "room", "kind"]) fun _ _ _ _ _ _ us hl => match us, hl with | [_, _, _], _ => rfl)
  have kWE := ok_wallbodyE (CL := He.ga K "Wall") FW TR cKE cTd cNd
  obtain ⟨cst, okR⟩ := cstB_ok eC
  obtain ⟨fdBe, FBe⟩ := funAt (d := dBes) r0 okR
  have bBe : L2.Binds K fdBe ["room", "kind"] [] := (FunD.bindsN FBe (ps := ["room", "kind"]) fun _ _ _ _ _ _ us hl => match us, hl with | [_, _], _ => rfl)
  have mB : C8.Met P w K mg base 4 (He.ga K "Wall") "beyond" (spBeyond (He.ga K "Plan") (He.ga K "Room") (He.ga K "Wall")) [] := ⟨_, _, _, [], clW, MWB, GWB, bWB, .nil⟩
  have GBe := ok_hbes FBe TW MK kW mB
  have GBE := ok_hbesE FBe MK mkW kWE bW gW mB
  have Z : Hv P w K mg base (He.ga K "Plan") (He.ga K "Room") (He.ga K "Wall") (He.ga K "Half") (He.ga K "InvalidKind") := { TR := TR, TW := TW, TH := TH, hm := MK, DC := dun_of GHC MHC bHC, DI := dun_of GHI MHI bHI, DE := dun_of GHE MHE bHE, NE := ⟨_, _, GHE, MHE.fn, bHE, eNH⟩, bes := ⟨_, _, _, _, cst, GBe, GBE, bBe⟩, mW := kW, DW := dun_of GWE MWE bWE, mR := kR, get := ⟨_, _, GRG, MRG, eG, bRG⟩ }
  have Y := ap27B_ok eA nIP nIR nIL nIH
  have cDr := ok_draw (P := P) (w := w) (base := base) (D_of X G c (x := "_law_draw") (st := s_law_draw) (by simp [fn, fn1, fn2, fn3, fn4, fn5, fn6, fa, fa1, fa2, fa3, fa4, fa5, fa6, fa7, fa8, fa9, fa10]) (by simp [fn, fn1, fn2, fn3, fn4, fn5, fn6, fa, fa1, fa2, fa3, fa4, fa5, fa6, fa7, fa8, fa9, fa10])) zn zl
  have cPk := ok_pick (D_of X G c (x := "_law_pick") (st := s_law_pick) (by simp [fn, fn1, fn2, fn3, fn4, fn5, fn6, fa, fa1, fa2, fa3, fa4, fa5, fa6, fa7, fa8, fa9, fa10]) (by simp [fn, fn1, fn2, fn3, fn4, fn5, fn6, fa, fa1, fa2, fa3, fa4, fa5, fa6, fa7, fa8, fa9, fa10])) cDr zl
  have cBg := ok_begin (P := P) (w := w) (base := base) (D_of X G c (x := "_law_begin") (st := s_law_begin) (by simp [fn, fn1, fn2, fn3, fn4, fn5, fn6, fa, fa1, fa2, fa3, fa4, fa5, fa6, fa7, fa8, fa9, fa10]) (by simp [fn, fn1, fn2, fn3, fn4, fn5, fn6, fa, fa1, fa2, fa3, fa4, fa5, fa6, fa7, fa8, fa9, fa10])) zli
  have cPkS := ok_pickS (D_of X G c (x := "_law_pick") (st := s_law_pick) (by simp [fn, fn1, fn2, fn3, fn4, fn5, fn6, fa, fa1, fa2, fa3, fa4, fa5, fa6, fa7, fa8, fa9, fa10]) (by simp [fn, fn1, fn2, fn3, fn4, fn5, fn6, fa, fa1, fa2, fa3, fa4, fa5, fa6, fa7, fa8, fa9, fa10])) cDr zl
  have cShO := ok_shufO (D_of X G c (x := "_law_shuffled") (st := s_law_shuffled) (by simp [fn, fn1, fn2, fn3, fn4, fn5, fn6, fa, fa1, fa2, fa3, fa4, fa5, fa6, fa7, fa8, fa9, fa10]) (by simp [fn, fn1, fn2, fn3, fn4, fn5, fn6, fa, fa1, fa2, fa3, fa4, fa5, fa6, fa7, fa8, fa9, fa10])) cDr zl zli
  have cIc := ok_iscr (D_of X G c (x := "_law_is_crossing") (st := s_law_is_crossing) (by simp [fn, fn1, fn2, fn3, fn4, fn5, fn6, fa, fa1, fa2, fa3, fa4, fa5, fa6, fa7, fa8, fa9, fa10]) (by simp [fn, fn1, fn2, fn3, fn4, fn5, fn6, fa, fa1, fa2, fa3, fa4, fa5, fa6, fa7, fa8, fa9, fa10])) cDr
  have cFl := ok_floorN (D_of X G c (x := "_law_drawn_floor") (st := s_law_drawn_floor) (by simp [fn, fn1, fn2, fn3, fn4, fn5, fn6, fa, fa1, fa2, fa3, fa4, fa5, fa6, fa7, fa8, fa9, fa10]) (by simp [fn, fn1, fn2, fn3, fn4, fn5, fn6, fa, fa1, fa2, fa3, fa4, fa5, fa6, fa7, fa8, fa9, fa10])) cDr cPk cShO cIc zr zn zm zmx zo zs zli
  have cPl := ok_planN (D_of X G c (x := "_law_as_plan") (st := s_law_as_plan) (by simp [fn, fn1, fn2, fn3, fn4, fn5, fn6, fa, fa1, fa2, fa3, fa4, fa5, fa6, fa7, fa8, fa9, fa10]) (by simp [fn, fn1, fn2, fn3, fn4, fn5, fn6, fa, fa1, fa2, fa3, fa4, fa5, fa6, fa7, fa8, fa9, fa10])) cDr cPk cShO kP2
  have cWy := ok_wayN (D_of X G c (x := "_law_drawn_way") (st := s_law_drawn_way) (by simp [fn, fn1, fn2, fn3, fn4, fn5, fn6, fa, fa1, fa2, fa3, fa4, fa5, fa6, fa7, fa8, fa9, fa10]) (by simp [fn, fn1, fn2, fn3, fn4, fn5, fn6, fa, fa1, fa2, fa3, fa4, fa5, fa6, fa7, fa8, fa9, fa10])) cDr cPkS zr
  have cTu := ok_turn (P := P) (w := w) (base := base) (D_of X G c (x := "_law_turned") (st := s_law_turned) (by simp [fn, fn1, fn2, fn3, fn4, fn5, fn6, fa, fa1, fa2, fa3, fa4, fa5, fa6, fa7, fa8, fa9, fa10]) (by simp [fn, fn1, fn2, fn3, fn4, fn5, fn6, fa, fa1, fa2, fa3, fa4, fa5, fa6, fa7, fa8, fa9, fa10])) zl zr zli
  have cRo := ok_rootN (D_of X G c (x := "_law_root_of") (st := s_law_root_of) (by simp [fn, fn1, fn2, fn3, fn4, fn5, fn6, fa, fa1, fa2, fa3, fa4, fa5, fa6, fa7, fa8, fa9, fa10]) (by simp [fn, fn1, fn2, fn3, fn4, fn5, fn6, fa, fa1, fa2, fa3, fa4, fa5, fa6, fa7, fa8, fa9, fa10])) cTu zm zn
  have cBy := ok_beyN (D_of X G c (x := "_law_is_beyond") (st := s_law_is_beyond) (by simp [fn, fn1, fn2, fn3, fn4, fn5, fn6, fa, fa1, fa2, fa3, fa4, fa5, fa6, fa7, fa8, fa9, fa10]) (by simp [fn, fn1, fn2, fn3, fn4, fn5, fn6, fa, fa1, fa2, fa3, fa4, fa5, fa6, fa7, fa8, fa9, fa10])) cTu zm zn zli
  have cHf := ok_halfN (D_of X G c (x := "_law_half_of") (st := s_law_half_of) (by simp [fn, fn1, fn2, fn3, fn4, fn5, fn6, fa, fa1, fa2, fa3, fa4, fa5, fa6, fa7, fa8, fa9, fa10]) (by simp [fn, fn1, fn2, fn3, fn4, fn5, fn6, fa, fa1, fa2, fa3, fa4, fa5, fa6, fa7, fa8, fa9, fa10])) cRo
  have cHs := ok_hasN (D_of X G c (x := "_law_has") (st := s_law_has) (by simp [fn, fn1, fn2, fn3, fn4, fn5, fn6, fa, fa1, fa2, fa3, fa4, fa5, fa6, fa7, fa8, fa9, fa10]) (by simp [fn, fn1, fn2, fn3, fn4, fn5, fn6, fa, fa1, fa2, fa3, fa4, fa5, fa6, fa7, fa8, fa9, fa10])) cBy
  have cBr := ok_bareN (P := P) (w := w) (base := base) (D_of X G c (x := "_law_bare") (st := s_law_bare) (by simp [fn, fn1, fn2, fn3, fn4, fn5, fn6, fa, fa1, fa2, fa3, fa4, fa5, fa6, fa7, fa8, fa9, fa10]) (by simp [fn, fn1, fn2, fn3, fn4, fn5, fn6, fa, fa1, fa2, fa3, fa4, fa5, fa6, fa7, fa8, fa9, fa10])) zd
  have cNk := ok_nok (D_of X G c (x := "_law_no_kind") (st := s_law_no_kind) (by simp [fn, fn1, fn2, fn3, fn4, fn5, fn6, fa, fa1, fa2, fa3, fa4, fa5, fa6, fa7, fa8, fa9, fa10]) (by simp [fn, fn1, fn2, fn3, fn4, fn5, fn6, fa, fa1, fa2, fa3, fa4, fa5, fa6, fa7, fa8, fa9, fa10])) zi zv Z xIK
  have cSd := ok_sideN (D_of X G c (x := "_law_has_its_side") (st := s_law_has_its_side) (by simp [fn, fn1, fn2, fn3, fn4, fn5, fn6, fa, fa1, fa2, fa3, fa4, fa5, fa6, fa7, fa8, fa9, fa10]) (by simp [fn, fn1, fn2, fn3, fn4, fn5, fn6, fa, fa1, fa2, fa3, fa4, fa5, fa6, fa7, fa8, fa9, fa10])) Z cWy cHs cPkS
  have cAl := ok_alone (D_of X G c (x := "_law_is_alone") (st := s_law_is_alone) (by simp [fn, fn1, fn2, fn3, fn4, fn5, fn6, fa, fa1, fa2, fa3, fa4, fa5, fa6, fa7, fa8, fa9, fa10]) (by simp [fn, fn1, fn2, fn3, fn4, fn5, fn6, fa, fa1, fa2, fa3, fa4, fa5, fa6, fa7, fa8, fa9, fa10])) Z Y kP2 ⟨_, kP1, tupAt_ok eT⟩ (dun_of GPG MPE bPE) kR1
  subst ef
  exact ok_law FL { Z := Z, TP := TP, cPen := cBg, cD := cDr, cPk := cPkS, cFl := cFl, cPl := cPl, cWy := cWy, cHf := cHf, cBr := cBr, cNk := cNk, cSd := cSd, cAl := cAl, kP := kP2, k1 := ⟨_, kP1, tupAt_ok eT⟩, ne := ⟨_, _, GPG, MPE.fn, bPE, eN⟩, zr := zr, zs := zs, zn := zn }
end
end TX
end
section
set_option maxRecDepth 100000
set_option maxHeartbeats 0
open PySem PySem.W PySem.Calls PyProof.Rows
theorem PySem.Challenge.cw_crosswalls_k27_halves_have_sides_holds : PySem.Challenge.rw_crosswalls_k27_halves_have_sides.Holds := by
  w_on; o_law
  refine HandSHeadRun.head_any (r := OpenLaw.row PySem.Challenge.rw_crosswalls_k27_halves_have_sides) (q := view (OpenLaw.row PySem.Challenge.rw_crosswalls_k27_halves_have_sides).prog [64]) (H := TX.hk) (ob := TX.ob) (M := 20000) (loose := TX.names) (d := HandSHeadRun.topDef (OpenLaw.row PySem.Challenge.rw_crosswalls_k27_halves_have_sides).prog 64) (kwd := []) TX.ob_eq
    (by kernel_rfl) (fun s => by kernel_rfl) TX.run (by kernel_rfl) (by kernel_rfl) (by kernel_rfl) (by rfl) (by first | assumption | decide +kernel) (by decide +kernel) ⟨rfl, rfl, rfl, rfl, rfl, by decide +kernel⟩ ?hw ?hc
  case hw => w_witness2
  case hc =>
    refine L2.walk_ofE (l := PySem.Challenge.rw_crosswalls_k27_halves_have_sides) (n := 63) (k := 11) (x := "_law_script") (CX := C8.CX0) rfl (by decide) (by kernel_rfl) ⟨rfl, by decide, by decide⟩ ?F (fun _ _ _ _ z => z)
    intro w mg fa h Y G hmg0
    obtain ⟨K, KX, c, r⟩ := Y
    have hmg : mg ("law" : PySem.Str) = some (.ref fa) := by
      have e : (HandSHeadRun.topDef (OpenLaw.row PySem.Challenge.rw_crosswalls_k27_halves_have_sides).prog 64).name = ("law" : PySem.Str) := by kernel_rfl
      rw [← e]
      exact hmg0
    obtain ⟨fd, hb, hF⟩ := TX.facts (P := (PySem.Challenge.rw_crosswalls_k27_halves_have_sides).prog) (w := w) KX G hmg c r
    exact ⟨K, fd, TX.spLaw K, KX, hb, fun H a ns hl _ hS => ⟨a, ns, rfl, hl, hS, fun _ => rfl⟩, hF⟩
end
