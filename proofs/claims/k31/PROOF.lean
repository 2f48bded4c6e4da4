import PyProof.Rows.All
import Wide.All
import OpenK.AllK
import Wide.FinOn
import HandS.ForMost
import HandS.Set
import HandS.Strs
import HandS.SetFor
import HandS.Star
import HandS.Property
import HandS.Small
import HandS.IsInst
import HandS.Walk
import HandS.Flow
import HandS.Wide
import HandS.EndBits
import HandS.TupAny
import PySem.Challenge.RW_lockdoors_k31_whole_locks
set_option Elab.async false
set_option linter.all false
set_option maxRecDepth 100000
set_option maxHeartbeats 2000000
/-! Sets of texts: set(sequence of texts), sorted(set), len(set), set == set. -/
namespace TxS
open PySem PySem.Spec PyProof.Rows L2

def txt (e : Int × Value) : Str := match e.2 with
  | .str z _ => z
  | _ => Str.empty
def TxE (w : World) (e : Int × Value) : Prop := ∃ z q, e.2 = Value.str z q ∧ e.1 = hashStr w z

structure Tbl (w : World) (es : Array (Int × Value)) (t : SetTable) (S : Str → Bool) : Prop where
  row : ∀ e ∈ es.toList, TxE w e
  nd : (es.toList.map txt).Nodup
  mem : ∀ z, S z = true ↔ z ∈ es.toList.map txt
  few : es.size < scanBound
  fit : t.fits es.size = true
  ris : Ris t.place.toList
  led : w.params.followText "set-order" = true ∨ t.led = true
/-- the set of texts at a: S its members, n how many -/
def SetX (w : World) (h : Heap) (a : Addr) (S : Str → Bool) (n : Nat) : Prop :=
  ∃ ob es ep t, h.get? a = some ob ∧ ob.ExactSet ∧ ob.data = .set es ep t ∧ Tbl w es t S ∧ es.size = n

section
variable {P : Program} {w : World} {h h' : Heap} {a : Addr} {S : Str → Bool} {n : Nat}
theorem SetX.move (R : SetX w h a S n) (keep : ∀ ob, h.get? a = some ob → h'.get? a = some ob) : SetX w h' a S n := by
  obtain ⟨ob, es, ep, t, hob, rest⟩ := R
  exact ⟨ob, es, ep, t, keep ob hob, rest⟩
theorem SetX.like {S' : Str → Bool} (R : SetX w h a S n) (e : ∀ z, S' z = S z) : SetX w h a S' n := (funext e : S' = S) ▸ R
theorem row_is {e : Int × Value} (r : TxE w e) (z : Str) : (PySem.strKind P w).is z e.2 = true ↔ txt e = z := by
  obtain ⟨y, q, e2, _⟩ := r
  unfold txt
  rw [e2]
  constructor
  · intro u
    obtain ⟨q', e'⟩ := Value.isStrOf_shape (x := z) (v := Value.str y q) u
    injection e'
  · intro u
    subst u
    show Value.isStrOf y (Value.str y q) = true
    simp [Value.isStrOf]
theorem rows_el {l : List (Int × Value)} (r : ∀ e ∈ l, TxE w e) : ElemsOf (PySem.strKind P w) l := fun e he => by
  obtain ⟨y, q, e2, e1⟩ := r e he
  refine ⟨⟨y, ?_, e1⟩, by rw [e2] <;> rfl⟩
  rw [e2]
  show Value.isStrOf y (Value.str y q) = true
  simp [Value.isStrOf]
theorem rows_mem {l : List (Int × Value)} (r : ∀ e ∈ l, TxE w e) (z : Str) : z ∈ l.map txt ↔ ∃ e ∈ l, (PySem.strKind P w).is z e.2 = true := by
  rw [List.mem_map]
  exact ⟨fun ⟨e, he, q⟩ => ⟨e, he, (row_is (r e he) z).2 q⟩, fun ⟨e, he, q⟩ => ⟨e, he, (row_is (r e he) z).1 q⟩⟩
theorem SetX.of (R : SetX w h a S n) : h.SetOf (PySem.strKind P w) a S n := by
  obtain ⟨ob, es, ep, t, hob, ex, hd, T, hn⟩ := R
  exact ⟨ob, es, ep, t, hob, ex, hd, rows_el T.row, fun z => (T.mem z).trans (rows_mem T.row z), T.few, T.fit, hn⟩
theorem Tbl.relay {es es2 : Array (Int × Value)} {t t2 : SetTable} (T : Tbl w es t S) (p : es2.toList.Perm es.toList) (f : t2.fits es2.size = true) (r : Ris t2.place.toList) (l : t2.led = t.led) : Tbl w es2 t2 S := by
  have sz : es2.size = es.size := by rw [← Array.length_toList, ← Array.length_toList]; exact p.length_eq
  exact ⟨fun e he => T.row e (p.mem_iff.mp he), (p.map txt).nodup_iff.mpr T.nd, fun z => (T.mem z).trans (p.map txt).mem_iff.symm, sz ▸ T.few, f, r, T.led.imp id fun q => l.trans q⟩
theorem Tbl.more {es es2 : Array (Int × Value)} {t t2 : SetTable} {z : Str} {q : Tok} (T : Tbl w es t S) (fresh : z ∉ es.toList.map txt) (p : es2.toList.Perm ((hashStr w z, Value.str z q) :: es.toList)) (b : es2.size < scanBound)
    (f : t2.fits es2.size = true) (r : Ris t2.place.toList) (l : t2.led = t.led) : Tbl w es2 t2 (fun y => S y || decide (y = z)) := by
  have pk : (es2.toList.map txt).Perm (z :: es.toList.map txt) := p.map txt
  refine ⟨fun e he => ?_, pk.nodup_iff.mpr (List.nodup_cons.mpr ⟨fresh, T.nd⟩), fun y => ?_, b, f, r, T.led.imp id fun u => l.trans u⟩
  · rcases List.mem_cons.mp (p.mem_iff.mp he) with u | u
    · exact ⟨z, q, by rw [u], by rw [u]⟩
    · exact T.row e u
  · rw [Bool.or_eq_true, decide_eq_true_eq, T.mem y, pk.mem_iff, List.mem_cons]
    exact Or.comm
end

section
variable {P : Program} {w : World} {A : Around} {E : Value → Shared → Prop} {s : Shared} {a : Addr} {S S' : Str → Bool} {n : Nat}
/-- the table is laid, and laid anew where it is too full -/
theorem lay_end {g : Bool → Sem Unit} (hg : ∀ (b : Bool) (s1 : Shared) (Q' : Unit → Shared → Prop), Q' () s1 → wpAny (model P w) A (g b) Q' E s1)
    {ob : Obj} {es es1 : Array (Int × Value)} {ep : Nat} {t t2 : SetTable} (hob : s.heap.get? a = some ob) (ex : ob.ExactSet) (hd : ob.data = .set es ep t) (T : Tbl w es1 t2 S') {dm : Bool} {R : Option Bool → Shared → Prop}
    (hR : ∀ h', Heap.SameBut a s.heap h' → SetX w h' a S' es1.size → R (some true) { s with heap := h' }) :
    wpAny (model P w) A (do
        storeSet a es1 t2
        if (!dm && t2.tooFull) = true then do
            g (relayAll t2 es1 (SetTable.grown es1.size)).2.2
            storeSet a (relayAll t2 es1 (SetTable.grown es1.size)).1 (relayAll t2 es1 (SetTable.grown es1.size)).2.1
            pure (some true)
          else pure (some true)) R E s := by
  refine wpAny_bind (wpAny_storeSet_of hob hd ?_ (fits_of_scanBound T.few))
  have st1 := store_at (es' := es1) (t' := t2) hob hd
  have same1 := Heap.SameBut.update s.heap a (Obj.putSet es1 t2)
  split
  · have T2 := T.relay (relayAll_perm t2 es1 (SetTable.grown es1.size)) (relayAll_fits t2 es1 (SetTable.grown es1.size)) (relayAll_ris t2 es1 (SetTable.grown es1.size)) (relayAll_led t2 es1 (SetTable.grown es1.size))
    have sz2 : (relayAll t2 es1 (SetTable.grown es1.size)).1.size = es1.size := by
      rw [← Array.length_toList, ← Array.length_toList]
      exact (relayAll_perm t2 es1 (SetTable.grown es1.size)).length_eq
    refine wpAny_bind (hg _ _ _ ?_)
    refine wpAny_bind (wpAny_storeSet_of st1 rfl ?_ (fits_of_scanBound T2.few))
    exact wpAny_pure (hR _ (same1.trans (Heap.SameBut.update _ a _)) ⟨_, _, _, _, store_at st1 rfl, ex, rfl, T2, sz2⟩)
  · exact wpAny_pure (hR _ same1 ⟨_, es1, _, t2, st1, ex, rfl, T, rfl⟩)

theorem add_txt {z : Str} {q : Tok} {Q : Bool → Shared → Prop} (R : SetX w s.heap a S n) (room : n + 1 < scanBound)
    (hQ : ∀ h', Heap.SameBut a s.heap h' → SetX w h' a (fun y => S y || decide (y = z)) (if S z = true then n else n + 1) → Q (!S z) { s with heap := h' }) :
    wpAny (model P w) A (setAddHashed a (.str z q) (hashStr w z)) Q E s := by
  obtain ⟨ob, es, ep, t, hob, ex, hd, T, hn⟩ := R
  have key : (PySem.strKind P w).is z (.str z q) = true := by
    show Value.isStrOf z (Value.str z q) = true
    simp [Value.isStrOf]
  have scn : (Value.str z q).scannable = true := rfl
  have els : ElemsOf (PySem.strKind P w) es.toList := rows_el T.row
  unfold setAddHashed setAddHashedIn
  refine wpAny_holding (wpAny_bind (wpAny_setState_of hob hd T.fit ?_))
  dsimp only
  rw [byScan_of scn T.few els]
  simp only [↓reduceIte]
  unfold setAddByScan
  refine wpAny_bind (wpAny_bind (wpAny_rule ?_))
  refine wpAny_bind (wpAny_setScan_of (knd := PySem.strKind P w) key hob hd T.fit els ?_)
  cases fi : List.findIdx? (fun e => (PySem.strKind P w).is z e.2) es.toList with
  | some j =>
    dsimp only
    obtain ⟨lj, pj, _⟩ := List.findIdx?_eq_some_iff_getElem.mp fi
    have yes : S z = true := (T.mem z).2 ((rows_mem (P := P) T.row z).2 ⟨es.toList[j], List.getElem_mem lj, pj⟩)
    have same : (fun y => S y || decide (y = z)) = S := funext fun y => by
      by_cases u : y = z
      · subst u
        rw [yes] <;> rfl
      · rw [decide_eq_false u, Bool.or_false]
    have done := hQ s.heap (Heap.SameBut.refl a s.heap) (by rw [same, if_pos yes]; exact ⟨ob, es, ep, t, hob, ex, hd, T, hn⟩)
    rw [yes] at done
    exact wpAny_pure (wpAny_pure done)
  | none =>
    dsimp only
    have fresh : z ∉ es.toList.map txt := fun u => by
      obtain ⟨e, he, k1⟩ := (rows_mem (P := P) T.row z).1 u
      have k2 := List.findIdx?_eq_none_iff.mp fi e he
      rw [k1] at k2
      cases k2
    have no : S z = false := Bool.eq_false_iff.mpr fun u => fresh ((T.mem z).1 u)
    have way : ∀ (b : Bool) {s1 : Shared} {Q' : Unit → Shared → Prop}, Q' () s1 → wpAny (model P w) A (match b with | true => rule "set.scan.the-table-gave-way" | false => pure ()) Q' E s1 := by
      intro b s1 Q' u
      cases b
      · exact wpAny_pure u
      · exact wpAny_rule u
    have p0 := layNew_perm t es ((PySem.strKind P w).hash z) (.str z q)
    have f0 := layNew_fits t es ((PySem.strKind P w).hash z) (.str z q)
    have r0 := layNew_ris t es ((PySem.strKind P w).hash z) (.str z q) T.ris
    have l0 := layNew_led t es ((PySem.strKind P w).hash z) (.str z q)
    show wpAny _ _ _ _ _ _
    have hh : (PySem.strKind P w).hash z = hashStr w z := rfl
    rw [hh] at p0 f0 r0 l0
    generalize layNew t es (hashStr w z) (.str z q) = Z at p0 f0 r0 l0 ⊢
    obtain ⟨es1, t1, dm, gv⟩ := Z
    dsimp only at p0 f0 r0 l0 ⊢
    rw [Array.toList_push] at p0
    have p1 : es1.toList.Perm ((hashStr w z, Value.str z q) :: es.toList) := p0.trans (List.perm_append_singleton _ _)
    have sz : es1.size = n + 1 := by
      rw [← Array.length_toList, p1.length_eq, List.length_cons, Array.length_toList, hn]
    have bd : es1.size < scanBound := by rw [sz]; exact room
    have T1 : ∀ t' : SetTable, t'.fits es1.size = true → Ris t'.place.toList → t'.led = t1.led → Tbl w es1 t' (fun y => S y || decide (y = z)) := fun t' a b c => T.more fresh p1 bd a b (c.trans l0)
    have fin : ∀ h', Heap.SameBut a s.heap h' → SetX w h' a (fun y => S y || decide (y = z)) es1.size → Q true { s with heap := h' } := fun h' sb r => by
      have u := hQ h' sb
      rw [no] at u
      rw [sz] at r
      exact u r
    refine wpAny_bind (way _ ?_)
    split
    · refine wpAny_bind ?_
      rw [hashByValue_scannable 8 scn]
      refine wpAny_pure ?_
      refine lay_end (fun b s1 Q' u => ?_) hob ex hd (T1 _ ?_ ?_ ?_) ?_
      · cases b <;> first | exact wpAny_pure u | exact wpAny_rule u
      · first | exact f0 | (split <;> first | exact f0 | exact SetTable.fits_plain_off f0)
      · first | exact r0 | (split <;> exact r0)
      · first | rfl | (split <;> rfl)
      · intro h' sb r
        exact wpAny_pure (fin h' sb r)
    · refine wpAny_bind (wpAny_pure ?_)
      simp only [↓reduceIte]
      refine lay_end (fun b s1 Q' u => ?_) hob ex hd (T1 _ f0 r0 rfl) ?_
      · cases b <;> first | exact wpAny_pure u | exact wpAny_rule u
      · intro h' sb r
        exact wpAny_pure (fin h' sb r)
end

/-! ### set(sequence of texts) -/
abbrev freshSet (w : World) : Obj := { cls := .type "set", dict := none, data := .set #[] 0 (.fresh 0 0 (!w.params.followText "set-order")) }
theorem fresh_at {w : World} {h : Heap} {a : Addr} (hob : h.get? a = some (freshSet w)) : SetX w h a (fun _ => false) 0 := by
  refine ⟨_, #[], 0, _, hob, ⟨rfl, rfl, rfl⟩, rfl, ⟨fun e he => (by cases he), List.Pairwise.nil, fun z => ⟨fun u => (by cases u), fun u => (by cases u)⟩, by decide, by rfl, List.Pairwise.nil, ?_⟩, rfl⟩
  show _ ∨ (!w.params.followText "set-order") = true
  cases w.params.followText "set-order" <;> simp

section
variable {P : Program} {w : World} {A : Around} {E : Value → Shared → Prop} {s : Shared}
theorem upd_loop {I : Addr} {fp wr : List Addr} {G : Array GenState → Array GenState → Prop} {n : Nat} {Pv : Nat → Value → Prop} {St : Nat → Shared → Prop} {R : Result → Shared → Prop}
    (W : WalksS P w A.in1 I fp wr G n Pv St) (D : Addr) (off : D ∉ fp) (zs : List Str) (len : n = zs.length) (few : zs.length + 1 < scanBound) (val : ∀ i v, Pv i v → ∃ z q, zs[i]? = some z ∧ v = .str z q) :
    ∀ (k i : Nat) (s : Shared), n - i = k → i ≤ n → St i s → (∃ c, c ≤ i ∧ SetX w s.heap D (fun y => decide (y ∈ zs.take i)) c) →
      (∀ s' c, Moved (D :: wr) G s s' → c ≤ n → SetX w s'.heap D (fun y => decide (y ∈ zs)) c → R (.ok (.ret .none)) s') →
      codeAny (model P w) A (.builtin "set.update.loop" ⟨[.ref D, .ref I], []⟩) R s := by
  have offW : D ∉ wr := fun u => off (W.sub _ u)
  have wide : ∀ b ∈ wr, b ∈ D :: wr := fun b u => List.mem_cons_of_mem _ u
  intro k
  induction k with
  | zero =>
    rintro i s ek hi st ⟨c, hc, X⟩ hR
    obtain rfl : i = n := by omega
    rw [List.take_of_length_le (by omega)] at X
    refine codeAny_builtin F.entry_set_update_loop ?_
    rw [Around.under_plainId F.plain_set_update_loop _]
    refine wpAny_bind (m := pyNext (.ref I)) (W.done s _ _ st fun s' mv => ?_)
    exact wpAny_pure (hR s' c (mv.mono wide) hc (X.move fun o e => mv.heap D o offW e))
  | succ k ih =>
    rintro i s ek hi st ⟨c, hc, X⟩ hR
    have lt : i < n := by omega
    refine codeAny_builtin F.entry_set_update_loop ?_
    rw [Around.under_plainId F.plain_set_update_loop _]
    refine wpAny_bind (m := pyNext (.ref I)) (W.item i s _ _ lt st fun v s' pv st' mv => ?_)
    obtain ⟨z, q, hz, rfl⟩ := val i v pv
    have X1 : SetX w s'.heap D (fun y => decide (y ∈ zs.take i)) c := X.move fun o e => mv.heap D o offW e
    refine wpAny_bind (m := holding [Value.str z q] (setAdd D (.str z q))) (wpAny_holding ?_)
    unfold setAdd
    refine wpAny_holding (wpAny_bind (wpAny_pyHash_str ?_))
    refine add_txt (s := { s' with toks := s'.toks + 1 }) X1 (by omega) fun h' same X2 => ?_
    have X3 : SetX w h' D (fun y => decide (y ∈ zs.take (i + 1))) (if decide (z ∈ zs.take i) = true then c else c + 1) := X2.like fun y => by
      rw [List.take_add_one, hz]
      simp [List.mem_append]
    have hc3 : (if decide (z ∈ zs.take i) = true then c else c + 1) ≤ i + 1 := by
      by_cases u : decide (z ∈ zs.take i) = true
      · rw [if_pos u]
        omega
      · rw [if_neg u]
        omega
    refine wpAny_pure ⟨plainId_quiet F.plain_set_update_loop _, ih (i + 1) _ (by omega) lt (W.frame _ s' _ _ st' (Nat.le_succ _) fun b hb o e => ?_) ⟨_, hc3, X3⟩ fun s2 c2 mv2 hc2 X4 => ?_⟩
    · exact (same.2 b fun u : b = D => off (u ▸ hb)).trans e
    · refine hR s2 c2 (Moved.trans W.gtrans ((mv.mono wide).then_heap (Nat.le_succ _) fun b o hb e => ?_) mv2) hc2 X4
      exact (same.2 b fun u : b = D => hb (u ▸ List.mem_cons_self)).trans e

theorem at_txt {us : List Value} {zs : List Str} (r : StrsAre us zs) (i : Nat) (v : Value) (e : us[i]? = some v) : ∃ z q, zs[i]? = some z ∧ v = .str z q := by
  obtain ⟨q, e2⟩ := SS.strs_at r i v e
  have h1 : i < us.length := (List.getElem?_eq_some_iff.mp e).1
  have h2 : i < zs.length := by rw [← StrsAre.len_eq r]; exact h1
  refine ⟨zs[i], q, List.getElem?_eq_getElem h2, ?_⟩
  rw [e2, List.getD_eq_getElem?_getD, List.getElem?_eq_getElem h2] <;> rfl

set_option maxHeartbeats 6400000 in
theorem call_setT {l : Addr} {its : Array Value} (zs : List Str) {Q : Value → Shared → Prop} (calm : A.handled = none) (hl : s.heap.IsTuple l its) (hz : StrsAre its.toList zs) (few : zs.length + 1 < scanBound)
    (done : ∀ (h' : Heap) (tk c : Nat), SetX w h' s.heap.objs.size (fun y => decide (y ∈ zs)) c → c ≤ zs.length → (∀ b o, s.heap.get? b = some o → h'.get? b = some o) → Q (.ref s.heap.objs.size) { s with heap := h', toks := tk }) :
    wpAny (model P w) A (call (.type "set") [.ref l]) Q E s := by
  have sz : its.size = zs.length := by
    rw [← StrsAre.len_eq hz, Array.length_toList]
  obtain ⟨k0, k1, m1⟩ := F.called_set.mro
  have m2 := F.called_set.made
  have m3 := F.called_set.sub
  refine wpAny_call (codeAny_of_tree ?_)
  show wpAny _ _ (callAny (.type "set") _) _ _ _
  refine wpAny_pure ⟨Code.quiet_builtin _ (by decide +kernel), codeAny_builtin F.entry_type_call ?_⟩
  rw [Around.under_plain (weight_type_call_type "set" [.ref l] []) rfl]
  have m4 := F.called_set.notType
  have m5 := F.called_set.canCreate
  have m6 := F.typeCall_set_1 (.ref l)
  repeat (any_goals (first | assumption | wp_step))
  refine codeAny_mono (code_set_led1 (.ref l) (E := E) (Q₁ := fun v s1 => v = .ref s.heap.objs.size ∧ s1 = { s with heap := s.heap.push (freshSet w) }) ⟨rfl, rfl⟩) fun r s1 hr => ?_
  cases r with
  | error e => exact hr
  | ok fl =>
    cases fl with
    | ret v =>
      obtain ⟨rfl, rfl⟩ := hr
      have g0 : (s.heap.push (freshSet w)).get? s.heap.objs.size = some (freshSet w) := Heap.get?_push_size _ rfl
      have ty0 : Shared.TypeIs { s with heap := s.heap.push (freshSet w) } (.ref s.heap.objs.size) "set" := ⟨_, g0, rfl⟩
      have m7 := F.called_set.init.lookup
      have m8 := F.called_set.init.bind (.ref s.heap.objs.size)
      repeat (any_goals (first | assumption | wp_step))
      refine codeAny_mono (codeAny_call_builtin (R := wants (fun r s2 => r = .none ∧ ∃ h' tk c, s2 = { s with heap := h', toks := tk } ∧ SetX w h' s.heap.objs.size (fun y => decide (y ∈ zs)) c ∧ c ≤ zs.length ∧
          (∀ b o, s.heap.get? b = some o → h'.get? b = some o)) E) F.called_set.init.plain F.entry_set_init (check_set_init_1 ty0 ?_)) fun r2 s2 hr2 => ?_
      · obtain ⟨⟨oc, od, odt, osl⟩, ho, hcl, nl, hdl⟩ := hl
        simp only at hcl hdl
        subst hcl hdl
        have ho1 : (s.heap.push (freshSet w)).get? l = some { cls := .type "tuple", dict := od, data := .seq its nl, slots := osl } := Heap.get?_push_of_some _ ho
        have n1 := F.sub_tuple_set
        have n2 := F.sub_tuple_frozenset
        have n3 : (Value.type "tuple" == Value.type "dict") = false := by decide
        have isT : (s.heap.push (freshSet w)).IsTuple l its := ⟨_, ho1, rfl, nl, rfl⟩
        unfold Builtin.«set.__init__» noKeywords Builtin.Frozenset.updateFrom
        generalize ePI : pyIter = PI
        wp_walk
        subst ePI
        refine wpAny_pyIter_tuple isT ?_
        refine wpAny_bind (wpAny_runValue ?_)
        have ll : l < s.heap.objs.size := Heap.lt_size ho
        have cm : A.in1.in1.in1.handled = none := by simp [calm]
        have zz : (s.heap.push (freshSet w)).objs.size = s.heap.objs.size + 1 := Heap.size_push ..
        have nI : l ≠ (s.heap.push (freshSet w)).objs.size := by rw [zz]; exact Nat.ne_of_lt (Nat.lt_succ_of_lt ll)
        have nF : s.heap.objs.size ∉ [(s.heap.push (freshSet w)).objs.size, l] := by
          simp only [List.mem_cons, List.not_mem_nil, or_false, not_or]
          exact ⟨by rw [zz]; exact Nat.ne_of_lt (Nat.lt_succ_self _), Nat.ne_of_gt ll⟩
        refine upd_loop ((Walks.tuple cm _ l nI its).toS) s.heap.objs.size nF zs sz few (fun i v hv => at_txt hz i v (by rw [Array.getElem?_toList]; exact hv)) (its.size - 0) 0 _ (by omega) (Nat.zero_le _)
          ⟨⟨_, Heap.get?_push_size _ rfl, rfl, rfl⟩, (isT.push _)⟩ ⟨0, Nat.le_refl 0, ?_⟩ fun s' c' mv hc' X' => ?_
        · exact (fresh_at (Heap.get?_push_of_some _ g0)).like fun y => by simp
        · obtain ⟨h', g2, d2, tk2, os2⟩ := s'
          obtain rfl : g2 = s.gens := mv.gens
          obtain rfl : d2 = s.drawn := mv.drawn
          obtain rfl : os2 = s.os := mv.os
          show wpAny _ _ _ _ _ _
          refine wpAny_pure (wpAny_pure ⟨rfl, h', tk2, c', rfl, X', by omega, fun b o e => ?_⟩)
          have bl : b < s.heap.objs.size := Heap.lt_size e
          refine mv.heap b o ?_ (Heap.get?_push_of_some _ (Heap.get?_push_of_some _ e))
          simp only [List.mem_cons, List.not_mem_nil, or_false, not_or]
          exact ⟨Nat.ne_of_lt bl, by rw [zz]; exact Nat.ne_of_lt (Nat.lt_succ_of_lt bl)⟩
      · cases r2 with
        | error e => exact hr2
        | ok fl2 =>
          cases fl2 with
          | ret r =>
            obtain ⟨rfl, h', tk, c', rfl, X', hc', kp⟩ := hr2
            repeat (any_goals (first | assumption | wp_step))
            exact done _ _ _ X' hc' kp
          | _ => exact hr2.elim
    | _ => exact hr.elim

set_option maxHeartbeats 6400000 in
theorem call_setL {l : Addr} {its : Array Value} (zs : List Str) {Q : Value → Shared → Prop} (calm : A.handled = none) (hl : s.heap.IsList l its) (hz : StrsAre its.toList zs) (few : zs.length + 1 < scanBound)
    (done : ∀ (h' : Heap) (tk c : Nat), SetX w h' s.heap.objs.size (fun y => decide (y ∈ zs)) c → c ≤ zs.length → (∀ b o, s.heap.get? b = some o → h'.get? b = some o) → Q (.ref s.heap.objs.size) { s with heap := h', toks := tk }) :
    wpAny (model P w) A (call (.type "set") [.ref l]) Q E s := by
  have sz : its.size = zs.length := by
    rw [← StrsAre.len_eq hz, Array.length_toList]
  obtain ⟨k0, k1, m1⟩ := F.called_set.mro
  have m2 := F.called_set.made
  have m3 := F.called_set.sub
  refine wpAny_call (codeAny_of_tree ?_)
  show wpAny _ _ (callAny (.type "set") _) _ _ _
  refine wpAny_pure ⟨Code.quiet_builtin _ (by decide +kernel), codeAny_builtin F.entry_type_call ?_⟩
  rw [Around.under_plain (weight_type_call_type "set" [.ref l] []) rfl]
  have m4 := F.called_set.notType
  have m5 := F.called_set.canCreate
  have m6 := F.typeCall_set_1 (.ref l)
  repeat (any_goals (first | assumption | wp_step))
  refine codeAny_mono (code_set_led1 (.ref l) (E := E) (Q₁ := fun v s1 => v = .ref s.heap.objs.size ∧ s1 = { s with heap := s.heap.push (freshSet w) }) ⟨rfl, rfl⟩) fun r s1 hr => ?_
  cases r with
  | error e => exact hr
  | ok fl =>
    cases fl with
    | ret v =>
      obtain ⟨rfl, rfl⟩ := hr
      have g0 : (s.heap.push (freshSet w)).get? s.heap.objs.size = some (freshSet w) := Heap.get?_push_size _ rfl
      have ty0 : Shared.TypeIs { s with heap := s.heap.push (freshSet w) } (.ref s.heap.objs.size) "set" := ⟨_, g0, rfl⟩
      have m7 := F.called_set.init.lookup
      have m8 := F.called_set.init.bind (.ref s.heap.objs.size)
      repeat (any_goals (first | assumption | wp_step))
      refine codeAny_mono (codeAny_call_builtin (R := wants (fun r s2 => r = .none ∧ ∃ h' tk c, s2 = { s with heap := h', toks := tk } ∧ SetX w h' s.heap.objs.size (fun y => decide (y ∈ zs)) c ∧ c ≤ zs.length ∧
          (∀ b o, s.heap.get? b = some o → h'.get? b = some o)) E) F.called_set.init.plain F.entry_set_init (check_set_init_1 ty0 ?_)) fun r2 s2 hr2 => ?_
      · obtain ⟨⟨oc, od, odt, osl⟩, ho, hcl, nl, hdl⟩ := hl
        simp only at hcl hdl
        subst hcl hdl
        have ho1 : (s.heap.push (freshSet w)).get? l = some { cls := .type "list", dict := od, data := .seq its nl, slots := osl } := Heap.get?_push_of_some _ ho
        have n1 := F.sub_list_set
        have n2 := F.sub_list_frozenset
        have n3 : (Value.type "list" == Value.type "dict") = false := by decide
        have isT : (s.heap.push (freshSet w)).IsList l its := ⟨_, ho1, rfl, nl, rfl⟩
        unfold Builtin.«set.__init__» noKeywords Builtin.Frozenset.updateFrom
        generalize ePI : pyIter = PI
        wp_walk
        subst ePI
        refine wpAny_pyIter_list isT ?_
        refine wpAny_bind (wpAny_runValue ?_)
        have ll : l < s.heap.objs.size := Heap.lt_size ho
        have cm : A.in1.in1.in1.handled = none := by simp [calm]
        have zz : (s.heap.push (freshSet w)).objs.size = s.heap.objs.size + 1 := Heap.size_push ..
        have nI : l ≠ (s.heap.push (freshSet w)).objs.size := by rw [zz]; exact Nat.ne_of_lt (Nat.lt_succ_of_lt ll)
        have nF : s.heap.objs.size ∉ [(s.heap.push (freshSet w)).objs.size, l] := by
          simp only [List.mem_cons, List.not_mem_nil, or_false, not_or]
          exact ⟨by rw [zz]; exact Nat.ne_of_lt (Nat.lt_succ_self _), Nat.ne_of_gt ll⟩
        refine upd_loop ((Walks.list cm _ l nI its).toS) s.heap.objs.size nF zs sz few (fun i v hv => at_txt hz i v (by rw [Array.getElem?_toList]; exact hv)) (its.size - 0) 0 _ (by omega) (Nat.zero_le _)
          ⟨⟨_, Heap.get?_push_size _ rfl, rfl, rfl⟩, (isT.push _)⟩ ⟨0, Nat.le_refl 0, ?_⟩ fun s' c' mv hc' X' => ?_
        · exact (fresh_at (Heap.get?_push_of_some _ g0)).like fun y => by simp
        · obtain ⟨h', g2, d2, tk2, os2⟩ := s'
          obtain rfl : g2 = s.gens := mv.gens
          obtain rfl : d2 = s.drawn := mv.drawn
          obtain rfl : os2 = s.os := mv.os
          show wpAny _ _ _ _ _ _
          refine wpAny_pure (wpAny_pure ⟨rfl, h', tk2, c', rfl, X', by omega, fun b o e => ?_⟩)
          have bl : b < s.heap.objs.size := Heap.lt_size e
          refine mv.heap b o ?_ (Heap.get?_push_of_some _ (Heap.get?_push_of_some _ e))
          simp only [List.mem_cons, List.not_mem_nil, or_false, not_or]
          exact ⟨Nat.ne_of_lt bl, by rw [zz]; exact Nat.ne_of_lt (Nat.lt_succ_of_lt bl)⟩
      · cases r2 with
        | error e => exact hr2
        | ok fl2 =>
          cases fl2 with
          | ret r =>
            obtain ⟨rfl, h', tk, c', rfl, X', hc', kp⟩ := hr2
            repeat (any_goals (first | assumption | wp_step))
            exact done _ _ _ X' hc' kp
          | _ => exact hr2.elim
    | _ => exact hr.elim
end
end TxS
set_option Elab.async false
set_option linter.all false
set_option maxRecDepth 100000
set_option maxHeartbeats 2000000
namespace TxS
open PySem PySem.Spec PyProof.Rows L2

/-! ### ascending lists of texts -/
def Sl (a b : Str) : Prop := a.cps.toList < b.cps.toList
instance (a b : Str) : Decidable (Sl a b) := inferInstanceAs (Decidable (a.cps.toList < b.cps.toList))
theorem sl_irr (a : Str) : ¬ Sl a a := List.lt_irrefl _
theorem sl_trans {a b c : Str} (h : Sl a b) (k : Sl b c) : Sl a c := List.lt_trans h k
theorem str_ext {a b : Str} (h : a.cps.toList = b.cps.toList) : a = b := by
  cases a
  cases b
  simp only [Str.mk.injEq]
  exact Array.toList_inj.mp h
theorem sl_total (a b : Str) : Sl a b ∨ a = b ∨ Sl b a := by
  by_cases h : Sl a b
  · exact .inl h
  · by_cases k : Sl b a
    · exact .inr (.inr k)
    · exact .inr (.inl (str_ext (List.le_antisymm (List.not_lt.mp k) (List.not_lt.mp h))))
abbrev Asc (l : List Str) : Prop := l.Pairwise Sl
theorem asc_same : ∀ {l m : List Str}, Asc l → Asc m → (∀ z, z ∈ l ↔ z ∈ m) → l = m
  | [], [], _, _, _ => rfl
  | [], y :: m, _, _, h => absurd ((h y).2 List.mem_cons_self) (by simp)
  | x :: l, [], _, _, h => absurd ((h x).1 List.mem_cons_self) (by simp)
  | x :: l, y :: m, hl, hm, h => by
    obtain ⟨l1, l2⟩ := List.pairwise_cons.mp hl
    obtain ⟨m1, m2⟩ := List.pairwise_cons.mp hm
    have exy : x = y := by
      rcases List.mem_cons.mp ((h x).1 List.mem_cons_self) with e | e
      · exact e
      · rcases List.mem_cons.mp ((h y).2 List.mem_cons_self) with e2 | e2
        · exact e2.symm
        · exact absurd (sl_trans (m1 x e) (l1 y e2)) (sl_irr y)
    subst exy
    refine congrArg (x :: ·) (asc_same l2 m2 fun z => ⟨fun u => ?_, fun u => ?_⟩)
    · rcases List.mem_cons.mp ((h z).1 (List.mem_cons_of_mem _ u)) with e | e
      · subst e
        exact absurd (l1 z u) (sl_irr z)
      · exact e
    · rcases List.mem_cons.mp ((h z).2 (List.mem_cons_of_mem _ u)) with e | e
      · subst e
        exact absurd (m1 z u) (sl_irr z)
      · exact e
def ins (z : Str) : List Str → List Str
  | [] => [z]
  | x :: r => if Sl z x then z :: x :: r else if z = x then x :: r else x :: ins z r
def srt (l : List Str) : List Str := l.foldr ins []
theorem mem_ins (z : Str) : ∀ (l : List Str) (y : Str), y ∈ ins z l ↔ y = z ∨ y ∈ l
  | [], y => by simp [ins]
  | x :: r, y => by
    unfold ins
    by_cases h : Sl z x
    · rw [if_pos h]
      simp
    · rw [if_neg h]
      by_cases k : z = x
      · rw [if_pos k]
        subst k
        simp
      · rw [if_neg k, List.mem_cons, mem_ins z r y, List.mem_cons]
        constructor
        · rintro (a | a | a)
          · exact .inr (.inl a)
          · exact .inl a
          · exact .inr (.inr a)
        · rintro (a | a | a)
          · exact .inr (.inl a)
          · exact .inl a
          · exact .inr (.inr a)
theorem asc_ins (z : Str) : ∀ l : List Str, Asc l → Asc (ins z l)
  | [], _ => List.pairwise_singleton _ _
  | x :: r, h => by
    obtain ⟨h1, h2⟩ := List.pairwise_cons.mp h
    unfold ins
    by_cases a : Sl z x
    · rw [if_pos a]
      refine List.pairwise_cons.mpr ⟨fun y hy => ?_, h⟩
      rcases List.mem_cons.mp hy with e | e
      · exact e ▸ a
      · exact sl_trans a (h1 y e)
    · rw [if_neg a]
      by_cases k : z = x
      · rw [if_pos k]
        exact h
      · rw [if_neg k]
        refine List.pairwise_cons.mpr ⟨fun y hy => ?_, asc_ins z r h2⟩
        rcases (mem_ins z r y).1 hy with e | e
        · subst e
          rcases sl_total x y with q | q | q
          · exact q
          · exact absurd q.symm k
          · exact absurd q a
        · exact h1 y e
theorem asc_srt : ∀ l : List Str, Asc (srt l)
  | [] => List.Pairwise.nil
  | z :: r => asc_ins z (srt r) (asc_srt r)
theorem mem_srt : ∀ (l : List Str) (y : Str), y ∈ srt l ↔ y ∈ l
  | [], y => Iff.rfl
  | z :: r, y => by
    show y ∈ ins z (srt r) ↔ _
    rw [mem_ins, mem_srt r y, List.mem_cons]
theorem srt_eq {l m : List Str} (h : ∀ z, z ∈ l ↔ z ∈ m) : srt l = srt m := asc_same (asc_srt l) (asc_srt m) fun z => by rw [mem_srt, mem_srt, h z]
theorem srt_of {l m : List Str} (a : Asc m) (h : ∀ z, z ∈ m ↔ z ∈ l) : m = srt l := asc_same a (asc_srt l) fun z => by rw [mem_srt, h z]
theorem srt_asc {l : List Str} (a : Asc l) : srt l = l := (srt_of a fun _ => Iff.rfl).symm
theorem srt_iff {l m : List Str} : srt l = srt m ↔ ∀ z, z ∈ l ↔ z ∈ m := ⟨fun e z => by rw [← mem_srt l z, e, mem_srt], srt_eq⟩
theorem len_ins (z : Str) : ∀ l : List Str, (ins z l).length ≤ l.length + 1
  | [] => Nat.le_refl _
  | x :: r => by
    unfold ins
    have ih := len_ins z r
    split
    · exact Nat.le_refl _
    · split
      · exact Nat.le_succ _
      · simp only [List.length_cons]
        omega
theorem len_srt : ∀ l : List Str, (srt l).length ≤ l.length
  | [] => Nat.le_refl _
  | z :: r => by
    have := len_srt r
    have := len_ins z (srt r)
    show (ins z (srt r)).length ≤ r.length + 1
    omega
theorem asc_of : ∀ {l : List Str}, sortedS l = true → l.Nodup → Asc l
  | [], _, _ => List.Pairwise.nil
  | x :: r, h, nd => by
    have go : ∀ (r : List Str) (p : Str), risingS p r = true → (p :: r).Nodup → Asc (p :: r) := by
      intro r
      induction r with
      | nil => intro p _ _; exact List.pairwise_singleton _ _
      | cons y r ih =>
        intro p h nd
        have h0 : (!ltCps y.cps.toList p.cps.toList && risingS y r) = true := h
        obtain ⟨h1, h2⟩ := Bool.and_eq_true_iff.mp h0
        obtain ⟨n1, n2⟩ := List.nodup_cons.mp nd
        have t := ih y h2 n2
        have py : Sl p y := by
          rcases sl_total p y with q | q | q
          · exact q
          · exact absurd (q ▸ List.mem_cons_self) n1
          · exfalso
            have : ltCps y.cps.toList p.cps.toList = true := (ltCps_eq _ _).trans (decide_eq_true q)
            rw [this] at h1
            cases h1
        refine List.pairwise_cons.mpr ⟨fun z hz => ?_, t⟩
        rcases List.mem_cons.mp hz with e | e
        · exact e ▸ py
        · exact sl_trans py ((List.pairwise_cons.mp t).1 z e)
    exact go r x h nd

/-! ### sorted(set) -/
section
variable {P : Program} {w : World} {A : Around} {E : Value → Shared → Prop} {s : Shared} {a : Addr} {S : Str → Bool} {n : Nat}
theorem strs_of : ∀ (l : List Value), (∀ v ∈ l, ∃ z q, v = Value.str z q) → ∃ zs : List Str, StrsAre l zs ∧ zs = l.map fun v => txt (0, v)
  | [], _ => ⟨[], .nil, rfl⟩
  | v :: l, h => by
    obtain ⟨z, q, rfl⟩ := h v List.mem_cons_self
    obtain ⟨zs, r, e⟩ := strs_of l fun u hu => h u (List.mem_cons_of_mem _ hu)
    exact ⟨z :: zs, .cons z q r, by rw [e]; rfl⟩
theorem sort_set {Q : Value → Shared → Prop} (R : SetX w s.heap a S n) (calm : A.handled = none) (few : n < 64)
    (done : ∀ s' p (out : Array Value) (c : Nat) (ys : List Str), (∀ b o, s.heap.get? b = some o → s'.heap.get? b = some o) → s'.gens = s.gens → s'.os = s.os → s.heap.objs.size ≤ p →
      s'.heap.get? p = some (seqObj "list" out c) → StrsAre out.toList ys → Asc ys → (∀ z, z ∈ ys ↔ S z = true) → ys.length = n → Q (.ref p) s') :
    wpAny (model P w) A (call (.builtin "sorted") [.ref a]) Q E s := by
  obtain ⟨ob, es, ep, t, hob, ex, hd, T, hn⟩ := R
  refine Calls.call_function_entry kind_sorted plain_sorted entry_sorted (args_sorted1 _) ?_
  unfold Builtin.«sorted»
  refine wpAny_bind (m := checkCount "sorted" 1 1 _) (wpAny_pure (wpAny_bind (collect_set (A := A.in1) calm ⟨ob, hob, ex.1, hd⟩ T.fit T.few T.ris T.led fun s1 vs kp sz g1 o1 pm => ?_)))
  have lv : vs.length = n := by rw [pm.length_eq, List.length_map, Array.length_toList]; exact hn
  obtain ⟨zs, hz, ez⟩ := strs_of vs fun v hv => by
    obtain ⟨e, he, q⟩ := List.mem_map.mp (pm.mem_iff.mp hv)
    obtain ⟨y, tk, h1, _⟩ := T.row e he
    exact ⟨y, tk, by rw [← q]; exact h1⟩
  have pk : zs.Perm (es.toList.map txt) := by
    rw [ez]
    have q := pm.map fun v => txt (0, v)
    rw [List.map_map] at q
    exact q
  refine wpAny_bind (wpAny_newList ?_ (by rw [lv, sizeLine_eq]; omega))
  have at1 : (s1.heap.push (seqObj "list" vs.toArray 0)).get? s1.heap.objs.size = some (seqObj "list" vs.toArray 0) := Heap.get?_push_size _ rfl
  refine wpAny_bind (wpAny_holding (wpAny_call_entry slot_list_sort ⟨_, at1, rfl⟩ entry_list_sort (list_sort_treeK strKind_oneLt at1 hz.keysOf (fun v1 v2 rest e => keyKind_strs (by rw [← e]; exact hz)) (by rw [lv]; exact few) fun st' a1 a2 => ⟨_, rfl, ?_⟩) (args_list_sort _)))
  obtain ⟨ys, y1, y2, y3⟩ := sorted_out_str hz a1 a2
  obtain ⟨c, hc⟩ := sortedHeap_at (vs := vs) (out := (arrOf st').map (·.2)) at1
  have py : ys.Perm (es.toList.map txt) := y2.trans pk
  refine wpAny_pure ⟨_, rfl, done _ s1.heap.objs.size _ c ys (fun b u e => ?_) g1 o1 sz hc y1 (asc_of y3 (py.nodup_iff.mpr T.nd)) (fun z => by rw [py.mem_iff, ← T.mem z]) (by rw [py.length_eq, List.length_map, Array.length_toList]; exact hn)⟩
  have q := kp b u e
  have lt := Heap.lt_size q
  refine Eq.trans (sortedHeap_old (Nat.ne_of_lt lt) ?_) (Heap.get?_push_of_some _ q)
  rw [size_push']
  exact Nat.lt_succ_of_lt lt
end

/-! ### set == set -/
section
variable {P : Program} {w : World} {A : Around} {E : Value → Shared → Prop} {s : Shared} {a b : Addr} {S S' : Str → Bool} {n m : Nat}
theorem entry_set_eq : entryFor table "set.__eq__" = some Builtin.«frozenset.__eq__» :=
  entryFor_alias (id' := "frozenset.__eq__") (by kernel_rfl) rfl (by decide +kernel) (by kernel_rfl)
theorem any_set {Q : Bool → Shared → Prop} (ty : s.TypeIs (.ref a) "set") (h : Q true s) : wpAny (model P w) A (Builtin.Frozenset.isAnySet (.ref a)) Q E s := by
  unfold Builtin.Frozenset.isAnySet orM
  refine wpAny_bind (wpAny_isInstance ty sub_set_self ?_)
  exact wpAny_pure h
theorem quiet_txt {z : Str} {q : Tok} : Builtin.Frozenset.quietEq (.str z q) = pure true := rfl
theorem size_set {Q : Nat → Shared → Prop} (R : SetX w s.heap a S n) (h : Q n s) : wpAny (model P w) A (Builtin.Frozenset.sizeOf a) Q E s := by
  obtain ⟨ob, es, ep, t, hob, ex, hd, T, hn⟩ := R
  unfold Builtin.Frozenset.sizeOf
  refine wpAny_bind (wpAny_setEntries_of hob hd T.fit (wpAny_pure ?_))
  rw [hn]
  exact h
theorem SetX.ty (R : SetX w s.heap a S n) : s.TypeIs (.ref a) "set" := by
  obtain ⟨ob, es, ep, t, hob, ex, hd, T, hn⟩ := R
  exact ⟨ob, hob, ex.1⟩
theorem full_of : ∀ {l m : List Str}, l.Nodup → (∀ x ∈ l, x ∈ m) → m.length ≤ l.length → ∀ x ∈ m, x ∈ l
  | [], m, _, _, hl, x, hx => by
    have : m = [] := List.eq_nil_of_length_eq_zero (Nat.le_zero.mp hl)
    rw [this] at hx
    cases hx
  | a :: l, m, nd, hs, hl, x, hx => by
    obtain ⟨n1, n2⟩ := List.nodup_cons.mp nd
    have am : a ∈ m := hs a List.mem_cons_self
    have le : (m.erase a).length ≤ l.length := by
      rw [List.length_erase_of_mem am]
      rw [List.length_cons] at hl
      omega
    by_cases e : x = a
    · exact e ▸ List.mem_cons_self
    · refine List.mem_cons_of_mem _ (full_of n2 (fun y hy => ?_) le x ((List.mem_erase_of_ne e).mpr hx))
      exact (List.mem_erase_of_ne fun u : y = a => n1 (u ▸ hy)).mpr (hs y (List.mem_cons_of_mem _ hy))
theorem walk_unseen {Q : List (Int × Value) → Shared → Prop} {ob ob' : Obj} {es es' : Array (Int × Value)} {ep ep' : Nat} {t t' : SetTable} (hob : s.heap.get? a = some ob) (hd : ob.data = .set es ep t) (T : Tbl w es t S)
    (hob' : s.heap.get? b = some ob') (hd' : ob'.data = .set es' ep' t') (T' : Tbl w es' t' S') (h : Q es.toList s) : wpAny (model P w) A (Builtin.Frozenset.walkUnseen a b) Q E s := by
  unfold Builtin.Frozenset.walkUnseen
  refine wpAny_bind (wpAny_setEntries_of hob hd T.fit ?_)
  refine wpAny_bind (wpAny_setEntries_of hob' hd' T'.fit ?_)
  refine wpAny_bind (wpAny_forIn_list _ (fun rest x s' => (∀ e ∈ rest, TxE w e) ∧ x.1 = none ∧ s' = s) _ ?_ ?_ _ _ ⟨fun e he => ?_, rfl, rfl⟩)
  · rintro ⟨h0, v⟩ rest x s' ⟨hr, hx, rfl⟩
    obtain ⟨z, q, e2, _⟩ := hr _ List.mem_cons_self
    have e2' : v = Value.str z q := e2
    subst e2'
    refine wpAny_bind (wpAny_of_eq quiet_txt ?_)
    exact wpAny_pure ⟨fun e he => hr e (List.mem_cons_of_mem _ he), rfl, rfl⟩
  · rintro ⟨x1, x2⟩ s' ⟨_, hx, rfl⟩
    have hx' : x1 = none := hx
    subst hx'
    exact wpAny_pure h
  · rcases List.mem_append.mp he with u | u
    · exact T.row e u
    · exact T'.row e u
theorem sub_set {id : String} {Q : Bool → Shared → Prop} (R : SetX w s.heap a S n) (R' : SetX w s.heap b S' m) (le : ¬ n > m) (done : ∀ k : Bool, (k = true ↔ ∀ z, S z = true → S' z = true) → Q k s) :
    wpAny (model P w) A (Builtin.Frozenset.subsetOf id a b) Q E s := by
  have Ra := R
  obtain ⟨ob, es, ep, t, hob, ex, hd, T, hn⟩ := R
  have R0 := R'
  obtain ⟨ob', es', ep', t', hob', ex', hd', T', hn'⟩ := R'
  unfold Builtin.Frozenset.subsetOf
  refine wpAny_bind (size_set Ra (wpAny_bind (size_set R0 ?_)))
  rw [if_neg le]
  refine wpAny_bind (wpAny_setEpoch_of hob hd T.fit ?_)
  refine wpAny_bind (walk_unseen hob hd T hob' hd' T' ?_)
  refine wpAny_bind (wpAny_forIn_list _ (fun rest x s' => (∃ pre, pre ++ rest = es.toList ∧ ∀ e ∈ pre, S' (txt e) = true) ∧ x.1 = none ∧ s' = s) _ ?_ ?_ _ _ ⟨⟨[], rfl, fun _ u => by cases u⟩, rfl, rfl⟩)
  · rintro ⟨h0, v⟩ rest x s' ⟨⟨pre, hp, ha⟩, hx, rfl⟩
    have hm : (h0, v) ∈ es.toList := by rw [← hp]; exact List.mem_append_right _ List.mem_cons_self
    obtain ⟨z, q, e2, e1⟩ := T.row _ hm
    have e2' : v = Value.str z q := e2
    have e1' : h0 = hashStr w z := e1
    subst e2' e1'
    have key : (PySem.strKind P w).is z (.str z q) = true := by
      show Value.isStrOf z (Value.str z q) = true
      simp [Value.isStrOf]
    refine wpAny_bind (wpAny_holding (wpAny_setFind_of (knd := PySem.strKind P w) key rfl R0.of fun r hr => ?_))
    cases r with
    | none =>
      have no : S' z = false := hr.symm
      refine wpAny_pure ?_
      exact wpAny_pure (done false ⟨fun u => (by cases u), fun h => (by
        have := h z ((T.mem z).2 (List.mem_map.mpr ⟨_, hm, rfl⟩))
        rw [no] at this
        cases this)⟩)
    | some j =>
      have yes : S' z = true := hr.symm
      rw [if_neg (by simp)]
      unfold Builtin.Frozenset.unchanged
      refine wpAny_bind (wpAny_bind (wpAny_setEpoch_of hob hd T.fit ?_))
      rw [if_neg (by simp)]
      refine wpAny_pure (wpAny_pure ⟨⟨pre ++ [(hashStr w z, Value.str z q)], by rw [List.append_assoc]; exact hp, fun e he => ?_⟩, rfl, rfl⟩)
      rcases List.mem_append.mp he with u | u
      · exact ha e u
      · rw [List.mem_singleton.mp u]
        exact yes
  · rintro ⟨x1, x2⟩ s' ⟨⟨pre, hp, ha⟩, hx, rfl⟩
    have hx' : x1 = none := hx
    subst hx'
    rw [List.append_nil] at hp
    subst hp
    refine wpAny_pure (done true ⟨fun _ z hz => ?_, fun _ => rfl⟩)
    obtain ⟨e, he, rfl⟩ := List.mem_map.mp ((T.mem z).1 hz)
    exact ha e he
theorem subt_sf : isSubtype (.type "set") (.type "frozenset") = pure false := by rw [isSubtype_type]; kernel_rfl
theorem eq_set {Q : Value → Shared → Prop} (R : SetX w s.heap a S n) (R' : SetX w s.heap b S' m) (hu : A.units < cLine) (done : ∀ k : Bool, (k = true ↔ ∀ z, S z = S' z) → Q (.bool k) s) :
    wpAny (model P w) A (compareOp .Eq (.ref a) (.ref b)) Q E s := by
  show wpAny (model P w) A (richCompare .Eq (.ref a) (.ref b)) Q E s
  refine wpAny_richCompare_same_room (op := .Eq) R.ty R'.ty F.slot_set_eq (wpAny_call_entry F.slot_set_eq R.ty entry_set_eq ?_ (F.args_set_eq_2 _ _)) hu
  unfold Builtin.«frozenset.__eq__»
  refine wpAny_bind (m := Builtin.Frozenset.slot1 "__eq__" _) (wpAny_of_eq (a := (Value.ref a, Value.ref b)) (by rfl) ?_)
  refine wpAny_bind (m := Builtin.Frozenset.isAnySet (.ref b)) (any_set R'.ty ?_)
  rw [if_neg (by simp)]
  refine wpAny_bind (wpAny_pure ?_)
  refine wpAny_bind (wpAny_pure ?_)
  refine wpAny_bind (size_set R ?_)
  refine wpAny_bind (size_set R' ?_)
  dsimp only
  refine wpAny_bind ?_
  have T := R
  have T' := R'
  obtain ⟨ob, es, ep, t, hob, ex, hd, T, hn⟩ := T
  obtain ⟨ob', es', ep', t', hob', ex', hd', T', hn'⟩ := T'
  have same_len : (∀ z, S z = S' z) → n = m := fun h => by
    have p : (es.toList.map txt).Perm (es'.toList.map txt) := (List.perm_ext_iff_of_nodup T.nd T'.nd).mpr fun z => by rw [← T.mem z, ← T'.mem z, h z]
    have := p.length_eq
    rw [List.length_map, List.length_map, Array.length_toList, Array.length_toList] at this
    omega
  by_cases e : n = m
  · rw [if_neg (by simp [e])]
    unfold andM
    refine wpAny_bind (wpAny_bind (wpAny_isInstance R.ty subt_sf ?_))
    refine wpAny_pure ?_
    rw [if_neg (by simp)]
    refine sub_set R R' (by omega) fun k hk => ?_
    refine wpAny_pure ⟨_, rfl, (fun u => nomatch u), done k (hk.trans ⟨fun h z => ?_, fun h z hz => (h z) ▸ hz⟩)⟩
    -- a subset as large as the whole is the whole
    have sub : ∀ y ∈ es.toList.map txt, y ∈ es'.toList.map txt := fun y hy => (T'.mem y).1 (h y ((T.mem y).2 hy))
    rw [Bool.eq_iff_iff, T.mem z, T'.mem z]
    exact ⟨sub z, full_of T.nd sub (by rw [List.length_map, List.length_map, Array.length_toList, Array.length_toList]; omega) z⟩
  · rw [if_pos (by simp [e])]
    refine wpAny_pure (wpAny_pure ⟨_, rfl, (fun u => nomatch u), done false ⟨fun u => (by cases u), fun h => absurd (same_len h) e⟩⟩)
end

/-! ### over the layer -/
def SetXO (w : World) (a : Addr) (S : Str → Bool) (n : Nat) : HO := .ext fun h => SetX w h a S n
section
variable {X : Cx}
theorem setXO_new {w : World} {P : Program} {H : Hp} {h : Heap} {a : Addr} {S : Str → Bool} {n : Nat} (R : SetX w h a S n) : ObjOk P w H h a (SetXO w a S n) := by
  have ⟨ob, _, _, _, hob, _⟩ := R
  exact ⟨R, ⟨ob, hob⟩, fun h1 h2 p k => p.move k⟩
theorem setXO_get {pins : List (Addr × Obj)} {σ : L2.St} {H : Hp} {s : Shared} {a : Addr} {S : Str → Bool} {n : Nat} (I : Inv X pins σ H s) (ha : H a = some (SetXO X.w a S n)) : SetX X.w s.heap a S n := (I.hok a _ ha).1
/-- set(t), t a tuple or a list of texts -/
def rSetX (K : PySem.W.Frag) (w : World) : List V → Hp → VK → Prop := fun xs H Q => ∃ (p : Addr) (zs : List Str), xs = [V.ref p] ∧ (SqT K H p (zs.map V.str) ∨ SqL K H p (zs.map V.str)) ∧ zs.length + 1 < scanBound ∧
  ∀ l c, c ≤ zs.length → H l = none → Q (.ref l) (upd H l (SetXO w l (fun y => decide (y ∈ zs)) c))
theorem cr_setX (hc : X.calm = true) : CallR X (.type "set") (rSetX X.K X.w) := by
  intro pins s σ H vs us Q I r h
  obtain ⟨p, zs, rfl, hs, few, q⟩ := h
  rw [Vals.ref1 r]
  have fin : ∀ (h' : Heap) (tk c : Nat), SetX X.w h' s.heap.objs.size (fun y => decide (y ∈ zs)) c → c ≤ zs.length → (∀ b o, s.heap.get? b = some o → h'.get? b = some o) → EP X pins σ Q (.ref s.heap.objs.size) { s with heap := h', toks := tk } := fun h' tk c R hc' kp =>
    ⟨.ref _, _, I.laid kp (Nat.le_refl _) (setXO_new R), rfl, q _ c hc' (I.hok.fresh (Nat.le_refl _))⟩
  rcases hs with hs | hs
  · obtain ⟨its, rv, pl, _⟩ := I.tuple hs
    exact call_setT zs (I.ok.hd hc) pl (by simpa using rv.strs) few fin
  · obtain ⟨its, rv, pl, _⟩ := I.list hs
    exact call_setL zs (I.ok.hd hc) pl.isList (by simpa using rv.strs) few fin
/-- sorted(found) -/
def rSortX (w : World) : List V → Hp → VK → Prop := fun vs H Q => ∃ (a : Addr) (S : Str → Bool) (n : Nat), vs = [V.ref a] ∧ H a = some (SetXO w a S n) ∧ n < 64 ∧
  ∀ (ys : List Str) (p : Addr), Asc ys → (∀ z, z ∈ ys ↔ S z = true) → ys.length = n → H p = none → Q (.ref p) (upd H p (.lst (ys.map V.str)))
theorem cr_sortX (hc : X.calm = true) : CallR X (.builtin "sorted") (rSortX X.w) := by
  intro pins s σ H vs us Q I r h
  obtain ⟨a, S, n, rfl, ha, few, q⟩ := h
  rw [Vals.ref1 r]
  refine sort_set (setXO_get I ha) (I.ok.hd hc) few fun s' p out c ys kp g o hp hg hi hA hm hl => ?_
  have len : (ys.map V.str).length ≤ sizeLine := by rw [List.length_map, hl, sizeLine_eq]; omega
  have hn : H p = none := I.hok.fresh hp
  have J : Inv X pins σ (upd H p (.lst (ys.map V.str))) { s with heap := s'.heap, gens := s'.gens, drawn := s'.drawn, toks := s'.toks } :=
    I.call (ch := []) (Un.laid kp hp hn) (I.hok.laid kp hp ⟨len, out.toList, c, vals_of_strs hi, hg⟩) (by rw [g]; exact I.bare) (fun _ z => nomatch z)
  have e : s' = { s with heap := s'.heap, gens := s'.gens, drawn := s'.drawn, toks := s'.toks } := by
    cases s'
    cases s
    cases o
    rfl
  rw [e]
  exact ⟨.ref p, _, J, rfl, q ys p hA hm hl hn⟩
/-- set(a) == set(b) -/
def rEqX (w : World) : R2 := fun x y H Q => ∃ (a b : Addr) (S S' : Str → Bool) (n m : Nat), x = V.ref a ∧ y = V.ref b ∧ H a = some (SetXO w a S n) ∧ H b = some (SetXO w b S' m) ∧ ∀ k : Bool, (k = true ↔ ∀ z, S z = S' z) → Q (.bl k) H
theorem op_eqX (hu : X.A.units < cLine) : OpR X (compareOp .Eq) (rEqX X.w) := by
  intro pins s σ H x y v u Q I rx ry h
  obtain ⟨a, b, S, S', n, m, rfl, rfl, ha, hb, q⟩ := h
  cases rx
  cases ry
  exact eq_set (setXO_get I ha) (setXO_get I hb) hu fun k hk => ⟨.bl k, H, I, rfl, q k hk⟩
/-- len(found) -/
theorem cr_lenX : CallR X (.builtin "len") (fun xs H Q => ∃ (a : Addr) (S : Str → Bool) (n : Nat), xs = [V.ref a] ∧ H a = some (SetXO X.w a S n) ∧ Q (.int n) H) := by
  intro pins s σ H vs us Q I r h
  obtain ⟨a, S, n, rfl, ha, q⟩ := h
  rw [Vals.ref1 r]
  obtain ⟨ob, es, ep, t, hob, ex, hd, T, hn⟩ := setXO_get I ha
  have big : (es.size : Int) < 2 ^ 63 := by
    have := fits_of_scanBound T.few
    rw [sizeLine_eq] at this
    omega
  refine call_len_set hob ex hd T.fit big ⟨.int n, H, I.tok _, ⟨s.toks + 1, ?_⟩, q⟩
  rw [hn]
end
end TxS
set_option Elab.async false
set_option linter.all false
set_option maxRecDepth 100000
set_option maxHeartbeats 2000000
/-! Operators of an own class: a | b, a == b, x in a, len(a), bool(a); C() and C(*xs) by a positional promise of __init__. -/
namespace LkO
open PySem PySem.Spec PyProof.Rows L2

/-- the class at C has the def at f under this name -/
structure OwnM (K : PySem.W.Frag) (C f : Addr) (name : Str) : Prop where
  at_ : PySem.W.findIn K (.ref C) name = some (some (.ref f))
  fn : PySem.W.isFn K (.ref f) = true

section
variable {X : Cx} {CX : CXT} {k : Nat} {C f : Addr} {fd : FuncData} {ps : List Str} {sp : Sp} {E : XK}
theorem back_of {pins : List (Addr × Obj)} {σ : L2.St} {Q : VK} {u : Value} {s' : Shared} (h : EP X pins σ Q u s') : PySem.W.CmpBack (EP X pins σ Q) u s' := by
  cases u with
  | notImplemented =>
    obtain ⟨v, H', I', rv, q⟩ := h
    cases v with
    | non => exact nomatch (show Value.notImplemented = Value.none from rv)
    | bl b => exact nomatch (show Value.notImplemented = Value.bool b from rv)
    | int i => obtain ⟨t, e⟩ := (show ∃ t, Value.notImplemented = Value.int i t from rv); exact nomatch e
    | str z => obtain ⟨t, e⟩ := (show ∃ t, Value.notImplemented = Value.str z t from rv); exact nomatch e
    | byt z => obtain ⟨t, e⟩ := (show ∃ t, Value.notImplemented = Value.bytes z t from rv); exact nomatch e
    | flt z => obtain ⟨t, e⟩ := (show ∃ t, Value.notImplemented = Value.float z t from rv); exact nomatch e
    | ref a => exact nomatch (show Value.notImplemented = Value.ref a from rv)
    | ty n => exact nomatch (show Value.notImplemented = Value.type n from rv)
  | _ => exact h
theorem inst_of {pins : List (Addr × Obj)} {σ : L2.St} {H : Hp} {s : Shared} {a dx : Addr} {fs : List (Str × V)} (I : Inv X pins σ H s) (h : H a = some (.ins C dx fs)) : ∃ od, PySem.W.InstAt s.heap a (PySem.W.instObj C dx) C od := by
  obtain ⟨mA, J, _⟩ := ins_get I.hok h
  obtain ⟨od, J, _⟩ := J.look
  exact ⟨_, J⟩
/-- both operands instances of C: the method's promise -/
def rOwn (C : Addr) (sp : Sp) (E : XK) : R2 := fun x y H Q => ∃ a dx fs b dy gs, x = .ref a ∧ y = .ref b ∧ H a = some (.ins C dx fs) ∧ H b = some (.ins C dy gs) ∧ sp [.ref a, .ref b] H Q E
theorem op_own {op : Operator} (hc : PySem.W.selfFirst X.K C = true) (m : OwnM X.K C f (PySem.dunder op.info.2)) (F : FnOk X.prog X.w X.K X.mg X.base CX k f fd ps sp) (hr : Room k X.A) (hb : Binds X.K fd ps []) (hx : Passes CX X E) :
    OpR X (binaryOp op) (rOwn C sp E) := by
  intro pins s σ H x y v u Q I rx ry h
  obtain ⟨a, dx, fs, b, dy, gs, rfl, rfl, ha, hb', q⟩ := h
  cases rx
  cases ry
  obtain ⟨od, J⟩ := inst_of I ha
  obtain ⟨od', J'⟩ := inst_of I hb'
  obtain ⟨m0, hF⟩ := I.fr
  exact PySem.W.binop_K hF I.ok.mod.kin J J'.type hc m.at_ m.fn (thn (run_fn (vs := [.ref a, .ref b]) F hr hb .nil hx I (.cons rfl (.cons rfl .nil)) q) fun w s' z => back_of z)
theorem op_ownEq (m : OwnM X.K C f "__eq__") (F : FnOk X.prog X.w X.K X.mg X.base CX k f fd ps sp) (hr : Room k X.A) (hb : Binds X.K fd ps []) (hx : Passes CX X E) : OpR X (compareOp .Eq) (rOwn C sp E) := by
  intro pins s σ H x y v u Q I rx ry h
  obtain ⟨a, dx, fs, b, dy, gs, rfl, rfl, ha, hb', q⟩ := h
  cases rx
  cases ry
  obtain ⟨od, J⟩ := inst_of I ha
  obtain ⟨od', J'⟩ := inst_of I hb'
  obtain ⟨m0, hF⟩ := I.fr
  exact PySem.W.cmp_K (op := .Eq) (tb := .ref C) hr.units0 hF I.ok.mod.kin J J'.type (by simp [PySem.W.notFirst]) m.at_ m.fn (thn (run_fn (vs := [.ref a, .ref b]) F hr hb .nil hx I (.cons rfl (.cons rfl .nil)) q) fun w s' z => back_of z)
/-- x in a -/
def rOwnIn (C : Addr) (sp : Sp) (E : XK) (neg : Bool) : R2 := fun x y H Q => ∃ a dx fs, y = .ref a ∧ H a = some (.ins C dx fs) ∧ sp [.ref a, x] H (fun v H' => ∃ c, v = .bl c ∧ Q (.bl (if neg then !c else c)) H') E
theorem op_ownIn (m : OwnM X.K C f "__contains__") (F : FnOk X.prog X.w X.K X.mg X.base CX k f fd ps sp) (hr : Room k X.A) (hb : Binds X.K fd ps []) (hx : Passes CX X E) : OpR X (compareOp .In) (rOwnIn C sp E false) := by
  intro pins s σ H x y v u Q I rx ry h
  obtain ⟨a, dx, fs, rfl, ha, q⟩ := h
  cases ry
  obtain ⟨od, J⟩ := inst_of I ha
  obtain ⟨m0, hF⟩ := I.fr
  refine PySem.W.in_K hF I.ok.mod.kin J m.at_ m.fn (thn (run_fn (vs := [.ref a, x]) F hr hb .nil hx I (.cons rfl (.cons rx .nil)) q) fun w s' z => ?_)
  obtain ⟨z0, H', I', rz, c, rfl, q'⟩ := z
  cases rz
  exact wpAny_truthy_bool ⟨.bl c, H', I', rfl, q'⟩
theorem op_ownNotIn (m : OwnM X.K C f "__contains__") (F : FnOk X.prog X.w X.K X.mg X.base CX k f fd ps sp) (hr : Room k X.A) (hb : Binds X.K fd ps []) (hx : Passes CX X E) : OpR X (compareOp .NotIn) (rOwnIn C sp E true) := by
  intro pins s σ H x y v u Q I rx ry h
  obtain ⟨a, dx, fs, rfl, ha, q⟩ := h
  cases ry
  obtain ⟨od, J⟩ := inst_of I ha
  obtain ⟨m0, hF⟩ := I.fr
  refine PySem.W.notIn_K hF I.ok.mod.kin J m.at_ m.fn (thn (run_fn (vs := [.ref a, x]) F hr hb .nil hx I (.cons rfl (.cons rx .nil)) q) fun w s' z => ?_)
  obtain ⟨z0, H', I', rz, c, rfl, q'⟩ := z
  cases rz
  exact wpAny_truthy_bool ⟨.bl (!c), H', I', rfl, q'⟩
/-- the callee runs one builtin deeper -/
theorem run_in1 {A : Around} {pins : List (Addr × Obj)} {σ : L2.St} {H : Hp} {s : Shared} {Q : VK} {us : List Value} {vs : List V} (F : FnOk X.prog X.w X.K X.mg X.base CX k f fd ps sp) (hr : Room k A) (fr : A.frames = X.A.frames) (hb : Binds X.K fd ps []) (hx : Passes CX X E)
    (I : Inv X pins σ H s) (r : Vals vs us) (h : sp vs H Q E) : wpAny (model X.prog X.w) A (call (.ref f) us) (EP X pins σ Q) X.xe s := by
  have hl : us.length = ps.length := by rw [← r.length]; exact F.len _ _ _ _ h
  have e0 : Env0 X.prog X.w X.K X.mg X.base A X.stack s H := by
    have e := I.env0
    exact ⟨by rw [fr]; exact e.frames, e.mod, e.bs, e.bsz, e.funs, e.frf, e.hok, e.bare⟩
  refine wpAny_call (codeAny_mono (F.run A X.stack s H ⟨us, []⟩ us vs Q E hr e0 (by simpa using hb s us I.kIn (by simpa using hl)) r h) fun r s' hq => ?_)
  cases r with
  | error e => exact hx pins σ H s e s' I hq
  | ok fl =>
    cases fl with
    | ret u => exact I.after hq
    | next => exact False.elim hq
    | brk => exact False.elim hq
    | cont => exact False.elim hq
/-- len(a) -/
def rOwnLen (C : Addr) (sp : Sp) (E : XK) (g : Nat → V) : List V → Hp → VK → Prop := fun xs H Q => ∃ a dx fs, xs = [.ref a] ∧ H a = some (.ins C dx fs) ∧ sp [.ref a] H (fun v H' => ∃ n : Nat, v = .int n ∧ n ≤ sizeLine ∧ Q (g n) H') E
theorem cr_ownLen (m : OwnM X.K C f "__len__") (F : FnOk X.prog X.w X.K X.mg X.base CX k f fd ps sp) (hr : Room (k + 1) X.A) (hb : Binds X.K fd ps []) (hx : Passes CX X E) : CallR X (.builtin "len") (rOwnLen C sp E fun n => .int n) := by
  intro pins s σ H xs us Q I r h
  obtain ⟨a, dx, fs, rfl, ha, q⟩ := h
  rw [Vals.ref1 r]
  obtain ⟨od, J⟩ := inst_of I ha
  obtain ⟨m0, hF⟩ := I.fr
  refine PySem.W.len_K hF I.ok.mod.kin J m.at_ m.fn (thn (run_in1 (vs := [.ref a]) F hr.in1 rfl hb hx I (.cons rfl .nil) q) fun w s' z => ?_)
  obtain ⟨z0, H', I', rz, n, rfl, hn, q'⟩ := z
  obtain ⟨t, rfl⟩ := rz
  have hl := line63
  exact ⟨⟨by omega, by omega⟩, .int n, H', I'.tok _, ⟨_, rfl⟩, q'⟩
/-- a's truth, by __len__ alone -/
theorem own_truth {A : Around} {pins : List (Addr × Obj)} {σ : L2.St} {H : Hp} {s : Shared} {a dx : Addr} {fs : List (Str × V)} {Q : Bool → Hp → Prop} (nb : PySem.W.findIn X.K (.ref C) "__bool__" = some none) (m : OwnM X.K C f "__len__")
    (F : FnOk X.prog X.w X.K X.mg X.base CX k f fd ps sp) (hr : Room (k + 1) A) (fr : A.frames = X.A.frames) (hb : Binds X.K fd ps []) (hx : Passes CX X E) (I : Inv X pins σ H s) (ha : H a = some (.ins C dx fs))
    (h : sp [.ref a] H (fun v H' => ∃ n : Nat, v = .int n ∧ n ≤ sizeLine ∧ Q (n != 0) H') E) : wpAny (model X.prog X.w) A (truthy (.ref a)) (TP X pins σ Q) X.xe s := by
  obtain ⟨od, J⟩ := inst_of I ha
  obtain ⟨m0, hF⟩ := I.fr
  have kin := I.kIn
  have key : wpAny (model X.prog X.w) A (runValue (.builtin "len" ⟨[.ref a], []⟩)) (fun r s' => ∃ (n : Nat) (t : Tok), r = .int n t ∧ TP X pins σ Q (n != 0) s') X.xe s := by
    refine wpAny_runValue (codeAny_builtin entry_len ?_)
    rw [Around.under_plainId plain_len _]
    unfold Builtin.«len»
    refine wpAny_bind (m := oneArg "len" _) (wpAny_pure ?_)
    refine wpAny_bind (m := callSpecial? (.ref a) (Str.ofString "__len__")) (PySem.W.special_fn kin J m.at_ (beq_iff_eq.mp m.fn) (thn (run_in1 (vs := [.ref a]) F hr.in1 fr hb hx I (.cons rfl .nil) h) fun w s' z => ?_))
    obtain ⟨z0, H', I', rz, n, rfl, hn, q'⟩ := z
    obtain ⟨t, rfl⟩ := rz
    have hl := line63
    refine wpAny_bind (wpAny_holding (wpAny_pure ?_))
    refine wpAny_bind (wpAny_letGo ?_)
    rw [if_neg (by omega)]
    rw [if_neg (by omega)]
    exact wpAny_bind (wpAny_mkInt (wpAny_pure ⟨n, _, rfl, H', I'.tok _, q'⟩))
  unfold truthy
  refine wpAny_bind (m := callSpecial? (.ref a) (Str.ofString "__bool__")) (wpAny_bind (wpAny_bind (J.type.here ((PySem.W.looks_findIn kin nb).here (wpAny_pure ?_)))))
  refine wpAny_bind (wpAny_bind (J.type.here ((PySem.W.looks_findIn kin m.at_).here ?_)))
  refine wpAny_bind (thn key fun r s' z => ?_)
  obtain ⟨n, t, rfl, q⟩ := z
  refine wpAny_pure ?_
  have e : ((n : Int) != 0) = (n != 0) := by
    cases n <;> rfl
  rw [e]
  exact q
theorem cr_ownBool (nb : PySem.W.findIn X.K (.ref C) "__bool__" = some none) (m : OwnM X.K C f "__len__") (F : FnOk X.prog X.w X.K X.mg X.base CX k f fd ps sp) (hr : Room (k + 4) X.A) (hb : Binds X.K fd ps []) (hx : Passes CX X E) :
    CallR X (.type "bool") (rOwnLen C sp E fun n => .bl (n != 0)) := by
  intro pins s σ H xs us Q I r h
  obtain ⟨a, dx, fs, rfl, ha, q⟩ := h
  rw [Vals.ref1 r]
  refine callType_newIn (S := fun A' R s' => A' = X.A.in1 ∧ s' = s ∧ (∀ b s2, TP X pins σ (fun b H' => Q (.bl b) H') b s2 → R (.ok (.ret (.bool b))) s2) ∧ ∀ e s2, X.xe e s2 → R (.error e) s2) PySem.F.called_bool PySem.F.newNe_bool (PySem.F.typeCall_bool_1 _) (PySem.F.newCall_bool_1 _) (fun obj => PySem.F.args_object_init_2 obj _) PySem.F.entry_bool_new (fun A' R s' hS => ?_) ?_
  · obtain ⟨rfl, rfl, h1, h2⟩ := hS
    unfold Builtin.«bool.__new__»
    refine wpAny_bind (m := isType (Value.type "bool")) (wpAny_of_eq (a := true) (by rfl) ?_)
    dsimp only
    rw [if_neg (by simp)]
    refine wpAny_bind (wpAny_of_eq PySem.F.conv_sub_bool ?_)
    rw [if_neg (by simp)]
    refine wpAny_bind (wpAny_of_eq (a := [Value.ref a]) (by rfl) ?_)
    dsimp only
    refine wpAny_bind (wpAny_mono (own_truth (A := X.A.in1.in1) (Q := fun b H' => Q (.bl b) H') nb m F (hr.in1.in1.mono (by omega)) rfl hb hx I ha q) (fun b s2 z => ?_) fun e s2 z => h2 e s2 z)
    exact wpAny_pure (h1 b s2 z)
  · exact ⟨rfl, rfl, fun b s2 z => ⟨PySem.typeIs_bool _ _, let ⟨H', I', q'⟩ := z; ⟨.bl b, H', I', rfl, q'⟩⟩, fun e s2 z => z⟩
end

/-! ### C(), C(*xs) -/
section
variable {X : Cx} {CX : CXT} {k : Nat} {f C : Addr} {sp : Sp} {E : XK} {x : Str} {e : Expr} {te : TE} {p sp_ pos : Pos}
theorem pe_makeR0 (M : Mk X.K C f) (F : FnR X.prog X.w X.K X.mg X.base CX k f sp) (hr : Room (k + 1) X.A) (hg : Gl X x) (hm : X.mg x = some (.ref C)) (hx : Passes CX X E) (hdb : (x == ("__debug__" : Str)) = false := by decide) :
    PE X (.Call (.Name x p) [] [] pos) (StX.tMakeR C sp E tNil) := by
  refine ⟨fun pins s σ H Q I h => ?_⟩
  refine wpAny_Call_Name_kw (ld_glob I hg hm ?_ hdb)
  exact PySem.W.callWith_K0 I.kIn M.kp (StX.run_makeR (us := []) M F hr hx I .nil h)
def tMakeS (K : PySem.W.Frag) (C : Addr) (sp : Sp) (E : XK) (te : TE) : TE := fun σ H Q => te σ H fun y H1 => ∃ a xs, y = V.ref a ∧ (SqT K H1 a xs ∨ SqL K H1 a xs) ∧ ∀ x dx, H1 x = Option.none → H1 dx = Option.none → dx ≠ x →
  sp (V.ref x :: xs) (upd (upd H1 dx (.own x)) x (.ins C dx [])) (fun v H2 => v = .non ∧ Q (.ref x) H2) E
theorem pe_makeS (M : Mk X.K C f) (F : FnR X.prog X.w X.K X.mg X.base CX k f sp) (hr : Room (k + 1) X.A) (hg : Gl X x) (hm : X.mg x = some (.ref C)) (hx : Passes CX X E) (he : PE X e te) (hd : (x == ("__debug__" : Str)) = false := by decide)
    (hst : starEach [.Starred e sp_] X.env = [(true, eval e X.env)] := by rfl) : PE X (.Call (.Name x p) [.Starred e sp_] [] pos) (tMakeS X.K C sp E te) := by
  refine ⟨fun pins s σ H Q I h => ?_⟩
  refine wpAny_Call_Name_kw (ld_glob I hg hm ?_ hd)
  refine PySem.W.callWith_S (h₀ := X.base) I.ok.mod.kin M.kp (thn (he.run pins s σ H _ I h) fun v s1 ⟨y, H1, I1, ry, a, xs, ey, hxs, q⟩ => ?_) hst
  subst ey
  obtain rfl : v = Value.ref a := ry
  exact StX.star_any I1 hxs fun us s2 I2 rv => ⟨I2.kIn, StX.run_makeR M F hr hx I2 rv q⟩
end
end LkO
set_option Elab.async false
set_option linter.all false
set_option maxRecDepth 100000
set_option maxHeartbeats 2000000
/-! What the program's defs share: names, lists of texts as data, heaps that grew, comprehensions. -/
namespace Lk
open PySem PySem.Spec PyProof.Rows L2 TxS LkO

/-! ### names -/
def abc : Str := "abcdefghijklmnopqrstuvwxyz"
def lettersOk (z : Str) : Bool := z.cps.toList.all fun c => decide (c ∈ abc.cps.toList)
def isNm (z : Str) : Bool := (decide (1 ≤ z.length) && decide (z.length ≤ 8)) && lettersOk z
theorem nm_len {z : Str} (h : isNm z = true) : z.length ≤ 8 := by
  unfold isNm at h
  simp only [Bool.and_eq_true, decide_eq_true_eq] at h
  exact h.1.2
theorem nm_line {z : Str} (h : isNm z = true) : z.length ≤ sizeLine := Nat.le_trans (nm_len h) (by rw [sizeLine_eq]; decide)
theorem abc_small : abc.cps.toList.all (fun c => decide (c < 128)) = true := by decide +kernel
theorem nm_ok {z : Str} (h : isNm z = true) : PyData.strOk z = true := by
  have l8 := nm_len h
  unfold isNm at h
  simp only [Bool.and_eq_true] at h
  have h2 := h.2
  unfold lettersOk at h2
  have small : ∀ c ∈ z.cps.toList, c < 128 := fun c hc => by
    have := List.all_eq_true.mp h2 c hc
    exact of_decide_eq_true (List.all_eq_true.mp abc_small c (of_decide_eq_true this))
  unfold PyData.strOk
  rw [← Array.all_toList]
  refine List.all_eq_true.mpr fun c hc => decide_eq_true ?_
  have := small c hc
  omega

/-! ### heaps that grew -/
theorem same_new {H : Hp} {p : Addr} {o : HO} (h : H p = none) : Same H (upd H p o) := fun b x e => by
  rw [upd_ne (ne_of_none e h)]
  exact e
theorem Same.up {H H1 : Hp} {p : Addr} {o : HO} (s : Same H H1) (h : H p = none) : Same H (upd H1 p o) := fun b x e => by
  rw [upd_ne (ne_of_none e h)]
  exact s b x e
theorem Same.tup {K : PySem.W.Frag} {H H' : Hp} {a : Addr} {xs : List V} (e : Same H H') (h : SqT K H a xs) : SqT K H' a xs := by
  rcases h with (h | ⟨o, h⟩) | h
  · exact .inl (.inl (e _ _ h))
  · exact .inl (.inr ⟨o, e _ _ h⟩)
  · exact .inr h
/-- a list or a tuple -/
def Sq (K : PySem.W.Frag) (H : Hp) (a : Addr) (xs : List V) : Prop := SqL K H a xs ∨ SqT K H a xs
theorem Same.sq {K : PySem.W.Frag} {H H' : Hp} {a : Addr} {xs : List V} (e : Same H H') (h : Sq K H a xs) : Sq K H' a xs := h.imp e.seq (Same.tup e)
/-- all of H stands, and a list of xs stands at D -/
def Grow (H : Hp) (D : Addr) (xs : List V) (H' : Hp) : Prop := Same H H' ∧ H' D = some (.lst xs)
theorem grow0 {H : Hp} {D : Addr} (n : H D = none) : Grow H D [] (upd H D (.lst [])) := ⟨same_new n, upd_same⟩
/-- one more item in a comprehension's list -/
theorem grow1 {H H4 : Hp} {D : Addr} {acc acc' : List V} {y : V} (n : H D = none) (g : Grow H D acc H4) (l : acc.length < sizeLine) (e : acc' = acc ++ [y]) :
    ∃ acc, H4 D = some (.lst acc) ∧ acc.length < sizeLine ∧ Grow H D acc' (upd H4 D (.lst (acc ++ [y]))) := ⟨acc, g.2, l, Same.up g.1 n, by rw [upd_same, e]⟩
theorem Grow.more {H H1 H2 : Hp} {D : Addr} {xs : List V} (g : Grow H D xs H1) (s : Same H1 H2) : Grow H D xs H2 := ⟨g.1.trans s, s _ _ g.2⟩
theorem take_next {α β : Type} {f : α → β} {l : List α} {i : Nat} {x : α} (h : l[i]? = some x) : (l.map f).take (i + 1) = (l.map f).take i ++ [f x] := by
  rw [List.take_add_one, List.getElem?_map, h]
  rfl
theorem take_next1 {α : Type} {l : List α} {i : Nat} {x : α} (h : l[i]? = some x) : l.take (i + 1) = l.take i ++ [x] := by
  rw [List.take_add_one, h]
  rfl
theorem at_map {α β : Type} {f : α → β} {l : List α} {i : Nat} {y : β} (h : (l.map f)[i]? = some y) : ∃ x, l[i]? = some x ∧ y = f x := by
  rw [List.getElem?_map] at h
  cases q : l[i]? with
  | none =>
    rw [q] at h
    cases h
  | some x =>
    rw [q] at h
    exact ⟨x, rfl, (Option.some.inj h).symm⟩

/-! ### texts as data -/
theorem flat_strs (zs : List Str) : (zs.map V.str).all flatV = true := by
  rw [List.all_map]
  exact List.all_eq_true.mpr fun _ _ => rfl
theorem inV_str (z : Str) : ∀ zs : List Str, inV (.str z) (zs.map V.str) = decide (z ∈ zs)
  | [] => rfl
  | y :: r => by
    have ih := inV_str z r
    unfold inV at ih ⊢
    rw [List.map_cons, List.any_cons, ih]
    show ((y == z) || decide (z ∈ r)) = decide (z ∈ y :: r)
    by_cases e : y = z
    · subst e
      simp
    · have e1 : (y == z) = false := beq_eq_false_iff_ne.mpr e
      rw [e1]
      simp [Ne.symm e]
theorem eqvAll_strs : ∀ zs ws : List Str, PyData.eqvAll (zs.map PyData.str) (ws.map PyData.str) = decide (zs = ws)
  | [], [] => by simp [PyData.eqvAll]
  | [], _ :: _ => by simp [PyData.eqvAll]
  | _ :: _, [] => by simp [PyData.eqvAll]
  | z :: r, y :: q => by
    simp only [List.map_cons, PyData.eqvAll, PyData.eqv, eqvAll_strs r q]
    by_cases h : z = y <;> simp [h]
theorem canLay_strs : ∀ zs : List Str, (∀ z ∈ zs, PyData.strOk z = true) → PyData.canLayAll0 (zs.map PyData.str) = true
  | [], _ => by simp [PyData.canLayAll0]
  | z :: r, h => by simp [PyData.canLayAll0, PyData.canLay0, h z List.mem_cons_self, canLay_strs r fun y hy => h y (List.mem_cons_of_mem _ hy)]
theorem depth_strs : ∀ zs : List Str, PyData.depthAll (zs.map PyData.str) ≤ 1
  | [] => by simp [PyData.depthAll]
  | z :: r => by
    have := depth_strs r
    simp only [List.map_cons, PyData.depthAll, PyData.depth]
    omega
theorem shaped_strsL {zs : List Str} (h : ∀ z ∈ zs, PyData.strOk z = true) : SeqAt.shaped (.list (zs.map PyData.str)) = true := by
  have h1 := depth_strs zs
  have h2 : PyData.depth (.list (zs.map PyData.str)) ≤ 64 := by simp only [PyData.depth]; omega
  show (PyData.canLay0 _ && decide _) = true
  rw [Bool.and_eq_true]
  exact ⟨by simp only [PyData.canLay0]; exact canLay_strs zs h, decide_eq_true h2⟩
theorem shaped_strsT {zs : List Str} (h : ∀ z ∈ zs, PyData.strOk z = true) : SeqAt.shaped (.tuple (zs.map PyData.str)) = true := by
  have h1 := depth_strs zs
  have h2 : PyData.depth (.tuple (zs.map PyData.str)) ≤ 64 := by simp only [PyData.depth]; omega
  show (PyData.canLay0 _ && decide _) = true
  rw [Bool.and_eq_true]
  exact ⟨by simp only [PyData.canLay0]; exact canLay_strs zs h, decide_eq_true h2⟩
theorem dp_strs {K : PySem.W.Frag} {H : Hp} : ∀ zs : List Str, DpAll K H (zs.map V.str) (zs.map PyData.str)
  | [] => .nil
  | z :: r => .cons (.str z) (dp_strs r)
end Lk
set_option Elab.async false
set_option linter.all false
set_option maxRecDepth 100000
set_option maxHeartbeats 2000000
namespace Lk
open PySem PySem.Spec PyProof.Rows L2 TxS LkO
def top (i : Nat) : Stmt := PySem.Challenge.pw_lockdoors_k31_whole_locks.main.body.getD i (.Pass ⟨0, 0, 0, 0⟩)
abbrev sIsName : Stmt := top 3
abbrev sAllIn : Stmt := top 4
abbrev sCheck : Stmt := top 9
abbrev sLocks : Stmt := top 10
abbrev sInit : Stmt := inClass sLocks 0
abbrev sEq : Stmt := inClass sLocks 1
abbrev sOr : Stmt := inClass sLocks 2
abbrev sAnd : Stmt := inClass sLocks 3
abbrev sSub : Stmt := inClass sLocks 4
abbrev sHas : Stmt := inClass sLocks 5
abbrev sLen : Stmt := inClass sLocks 6
abbrev sNames : Stmt := inClass sLocks 7
abbrev sHolds : Stmt := inClass sLocks 8

/-- the names of the module that are built-ins still -/
structure Blt (mg : Str → Option Value) : Prop where
  len : mg "len" = none
  isi : mg "isinstance" = none
  str : mg "str" = none
  all : mg "all" = none
  set : mg "set" = none
  srt : mg "sorted" = none
  tup : mg "tuple" = none
  lst : mg "list" = none
  bl : mg "bool" = none
  rng : mg "range" = none
  max : mg "max" = none
  min : mg "min" = none
structure Cst (mg : Str → Option Value) : Prop where
  abc : ∃ t, mg "LETTERS" = some (.str abc t)
  top : ∃ t, mg "LONGEST" = some (.int 8 t)

section
variable {P : Program} {w : World} {K : PySem.W.Frag} {mg : Str → Option Value} {base : Heap}
/-! ### is_name -/
def spName : Sp := fun vs H Q _ => ∃ z : Str, vs = [.str z] ∧ z.length ≤ sizeLine ∧ ∀ H', Same H H' → Q (.bl (isNm z)) H'
theorem scName : FnScope ["value", "letter"] ["value"] (defScope sIsName) := ⟨rfl, rfl, rfl, by decide +kernel, rfl, by decide +kernel, by decide +kernel⟩
theorem ok_name {f : Addr} {fd : FuncData} {k : Nat} (F : Fun K "is_name" "is_name" sIsName f fd) (B : Blt mg) (G : Cst mg) : FnOk P w K mg base CX0 (k + 1) f fd ["value"] spName := by
  obtain ⟨ta, eA⟩ := G.abc
  obtain ⟨tl, eL⟩ := G.top
  refine F.ok scName (fun vs H Q E h => ?_) (fun cdv A outer s H vs Q E hr h => ?_)
  · obtain ⟨z, rfl, _⟩ := h
    rfl
  · obtain ⟨z, rfl, hz, q⟩ := h
    refine ⟨_, pss_one (ps_ret (pe_and (pe_callB call_isi (by rfl) B.isi PyProof.Rows.boot_isinstance (pa_cons (pv 0) (pa_cons (pe_bltn (v := .ty "str") (by rfl) B.str PyProof.Rows.boot_str rfl) pa_nil)))
      (pe_and (pe_chain op_le op_le pe_int (pe_callB call_len_str (by rfl) B.len PySem.boot_len (pa_cons (pv 0) pa_nil)) (pe_glob (v := .int 8) (by rfl) eL ⟨_, rfl⟩))
      (pe_one (pe_callB (cr_all rfl) (by rfl) B.all PyProof.Rows.boot_all (pa_cons (pe_lc (own := [("letter", 1)]) (g := gName 1) (tt := tYes) rfl scName.nd (pi_str (pv 0)) (blkOk_by (N := ["value", "letter"]) (sc := defScope sIsName) (by decide +kernel))
        (fun _ _ _ _ _ => pg_name (i := 1) scName.nd rfl (Or.inl rfl)) (fun _ _ _ _ _ => pts_nil) (fun _ _ _ _ _ => pe_cmpR op_in_sign (pv 1) (pe_glob (v := .str abc) (by rfl) eA ⟨_, rfl⟩) rfl)) pa_nil)))))), ?_⟩
    refine ⟨.str z, rfl, .str z, .ty "str", _, _, true, rfl, .ty _, .base (.str z), kit_ty (by decide +kernel), true, rfl, iteT ?_⟩
    refine ⟨.str z, rfl, z, rfl, hz, 1, _, rfl, rfl, _, rfl, ite2 (fun e1 => ?_) (fun e1 => ?_)⟩
    · refine ⟨_, _, rfl, rfl, _, rfl, ite2 (fun e2 => ?_) (fun e2 => ?_)⟩
      · have e3 : isNm z = (z.cps.toList.map fun c => decide (c ∈ abc.cps.toList)).all id := by
          unfold isNm lettersOk
          have a1 := of_decide_eq_true e1
          have a2 := of_decide_eq_true e2
          rw [decide_eq_true (show 1 ≤ z.length by omega), decide_eq_true (show z.length ≤ 8 by omega), List.all_map]
          rfl
        have szl : z.cps.size = z.length := rfl
        refine ⟨.str z, rfl, z, rfl, fun D nD => lc_it (walk_str (z := z)) (fun i H' => Grow H D ((z.cps.toList.map fun c => V.bl (decide (c ∈ abc.cps.toList))).take i) H')
          (grow0 nD) (fun _ _ _ _ => trivial) (fun i x H2 H3 hi hP hY => ?_) (fun H2 hP => ?_)⟩
        · obtain ⟨rfl, c, hc, rfl⟩ := hY
          have hc' : z.cps.toList[i]? = some c := by rw [Array.getElem?_toList]; exact hc
          refine ⟨rfl, .str ⟨#[c]⟩, rfl, c, abc, rfl, rfl, grow1 nD hP ?_ (take_next hc')⟩
          rw [List.length_take, List.length_map, Array.length_toList]
          omega
        · obtain ⟨sm, hD⟩ := hP
          rw [List.take_of_length_le (by rw [List.length_map, Array.length_toList]; exact Nat.le_refl _)] at hD
          refine ⟨D, z.cps.toList.map fun c => decide (c ∈ abc.cps.toList), rfl, .inl (.inl (by rw [List.map_map]; exact hD)), ?_⟩
          rw [← e3]
          exact q _ sm
      · have e3 : isNm z = false := by
          unfold isNm
          rw [decide_eq_false (show ¬ z.length ≤ 8 from fun u => e2 (decide_eq_true (by omega)))]
          simp
        rw [e3] at q
        exact q _ (Same.refl H)
    · have e3 : isNm z = false := by
        unfold isNm
        rw [decide_eq_false (show ¬ 1 ≤ z.length from fun u => e1 (decide_eq_true (by omega)))]
        simp
      rw [e3] at q
      exact ⟨false, rfl, iteF (q _ (Same.refl H))⟩
/-! ### all_in -/
def spAllIn (K : PySem.W.Frag) : Sp := fun vs H Q _ => ∃ (a b : Addr) (zs ws : List Str), vs = [.ref a, .ref b] ∧ zs.length ≤ 1000 ∧ SqT K H a (zs.map V.str) ∧ Sq K H b (ws.map V.str) ∧ ∀ H', Same H H' → Q (.bl (zs.all fun z => decide (z ∈ ws))) H'
theorem scAllIn : FnScope ["names", "known", "name"] ["names", "known"] (defScope sAllIn) := ⟨rfl, rfl, rfl, by decide +kernel, rfl, by decide +kernel, by decide +kernel⟩
theorem ok_allIn {f : Addr} {fd : FuncData} {k : Nat} (F : Fun K "all_in" "all_in" sAllIn f fd) (B : Blt mg) : FnOk P w K mg base CX0 (k + 1) f fd ["names", "known"] (spAllIn K) := by
  refine F.ok scAllIn (fun vs H Q E h => ?_) (fun cdv A outer s H vs Q E hr h => ?_)
  · obtain ⟨a, b, zs, ws, rfl, _⟩ := h
    rfl
  · obtain ⟨a, b, zs, ws, rfl, len, ha, hb, q⟩ := h
    refine ⟨_, pss_one (ps_ret (pe_callB (cr_all rfl) (by rfl) B.all PyProof.Rows.boot_all (pa_cons (pe_lc (own := [("name", 2)]) (g := gName 2) (tt := tYes) rfl scAllIn.nd (pi_tup (pv 0))
      (blkOk_by (N := ["names", "known", "name"]) (sc := defScope sAllIn) (by decide +kernel)) (fun _ _ _ _ _ => pg_name (i := 2) scAllIn.nd rfl (Or.inl rfl)) (fun _ _ _ _ _ => pts_nil) (fun _ _ _ _ _ => pe_cmpR (r := rIn K false) op_in_seq (pv 2) (pv 1) rfl)) pa_nil))), ?_⟩
    refine ⟨.ref a, rfl, a, rfl, ⟨_, ha⟩, fun D nD => lc_it (walk_tup (xs := zs.map V.str)) (fun i H' => Grow H D ((zs.map fun z => V.bl (decide (z ∈ ws))).take i) H')
      (grow0 nD) (fun i H' _ hP => Same.tup hP.1 ha) (fun i x H2 H3 hi hP hY => ?_) (fun H2 hP => ?_)⟩
    · obtain ⟨rfl, hx⟩ := hY
      obtain ⟨z, hz, rfl⟩ := at_map hx
      refine ⟨rfl, .str z, rfl, .ref b, rfl, b, _, rfl, Same.sq hP.1 hb, rfl, flat_strs ws, grow1 nD hP ?_ ?_⟩
      · rw [List.length_take, List.length_map]
        exact Nat.lt_of_le_of_lt (Nat.min_le_right _ _) (small1000 len)
      · rw [take_next hz, inV_str]
        rfl
    · obtain ⟨sm, hD⟩ := hP
      rw [List.length_map, List.take_of_length_le (by rw [List.length_map]; exact Nat.le_refl _)] at hD
      refine ⟨D, zs.map fun z => decide (z ∈ ws), rfl, .inl (.inl (by rw [List.map_map]; exact hD)), ?_⟩
      rw [List.all_map]
      exact q _ sm
end
end Lk
set_option Elab.async false
set_option linter.all false
set_option maxRecDepth 100000
set_option maxHeartbeats 2000000
namespace Lk
open PySem PySem.Spec PyProof.Rows L2 TxS LkO
/-- the class Locks as the top has made it -/
structure LkC (K : PySem.W.Frag) (mg : Str → Option Value) (C : Addr) : Prop where
  cl : Cls K C
  mgC : mg "Locks" = some (.ref C)
  nK : NoAttr K C "kept_names"
  tyc : PySem.W.findIn K (.ref C) "__class__" = some (some (.builtin "object.__class__"))
  tyg : PySem.W.specialIn K (.builtin "object.__class__") "__get__" = some (some (.builtin "getset_descriptor.__get__"))
  tyt : PySem.W.takesIn K (.builtin "object.__class__") = some true
  tym : PySem.W.mroIn K C (.type "object") = some true
  kit : PySem.W.kitOne K (.ref C) (.ref C) = some true
  sf : PySem.W.selfFirst K C = true
  nb : PySem.W.findIn K (.ref C) "__bool__" = some none
/-- a Locks at a with these names -/
structure LkAt (C : Addr) (H : Hp) (a : Addr) (zs : List Str) : Prop where
  ob : ∃ dx t, H a = some (.ins C dx [("kept_names", .ref t)]) ∧ H t = some (.tup (zs.map V.str))
  asc : Asc zs
  nm : ∀ z ∈ zs, isNm z = true
theorem LkAt.same {C : Addr} {H H' : Hp} {a : Addr} {zs : List Str} (h : LkAt C H a zs) (s : Same H H') : LkAt C H' a zs := by
  obtain ⟨⟨dx, t, h1, h2⟩, h3, h4⟩ := h
  exact ⟨⟨dx, t, s _ _ h1, s _ _ h2⟩, h3, h4⟩
section
variable {P : Program} {w : World} {K : PySem.W.Frag} {mg : Str → Option Value} {base : Heap} {C : Addr}
/-! ### check_other -/
def spCheck (C : Addr) : Sp := fun vs H Q _ => ∃ (a dx : Addr) (fs : List (Str × V)), vs = [.ref a] ∧ H a = some (.ins C dx fs) ∧ Q .non H
theorem scCheck : FnScope ["other"] ["other"] (defScope sCheck) := ⟨rfl, rfl, rfl, by decide +kernel, rfl, by decide +kernel, by decide +kernel⟩
theorem ok_check {f : Addr} {fd : FuncData} {k : Nat} (F : Fun K "check_other" "check_other" sCheck f fd) (B : Blt mg) (T : LkC K mg C) : FnOk P w K mg base CX0 (k + 1) f fd ["other"] (spCheck C) := by
  refine F.ok scCheck (fun vs H Q E h => ?_) (fun cdv A outer s H vs Q E hr h => ?_)
  · obtain ⟨a, dx, fs, rfl, _⟩ := h
    rfl
  · obtain ⟨a, dx, fs, rfl, ha, q⟩ := h
    refine ⟨_, pss_one (ps_if (pt_not (pt_val (pe_callB call_isi (by rfl) B.isi PyProof.Rows.boot_isinstance (pa_cons (pv 0) (pa_cons (pe_glob (v := .ref C) (by rfl) T.mgC rfl) pa_nil))))) (pss_one ps_never) pss_nil), ?_⟩
    exact ⟨.ref a, rfl, .ref a, .ref C, _, _, true, rfl, .own C, .base (.ins ha T.cl T.tyc T.tyg T.tyt T.tym), T.kit, true, rfl, iteF q⟩
/-! ### Locks.__init__ -/
def spIn (K : PySem.W.Frag) (C : Addr) : Sp := fun vs H Q _ => ∃ (x dx p : Addr) (zs : List Str), vs = [.ref x, .ref p] ∧ H x = some (.ins C dx []) ∧ SqT K H p (zs.map V.str) ∧ (∀ z ∈ zs, isNm z = true) ∧ zs.length < 64 ∧
  ∀ H' t, (∀ b o, H b = some o → b ≠ x → H' b = some o) → H' x = some (.ins C dx [("kept_names", .ref t)]) → H' t = some (.tup ((srt zs).map V.str)) → Q .non H'
theorem scInit : FnScope ["self", "names", "name"] ((["self"] : List Str) ++ (["names"] : List Str)) (defScope sInit) := ⟨rfl, rfl, rfl, by decide +kernel, rfl, by decide +kernel, by decide +kernel⟩
/-- Locks(..): the new instance, then its names -/
def spNew (C : Addr) : Sp := fun vs H Q _ => ∃ (x dx : Addr) (zs : List Str), vs = .ref x :: zs.map V.str ∧ H x = some (.ins C dx []) ∧ (∀ z ∈ zs, isNm z = true) ∧ zs.length < 64 ∧
  ∀ H' t, (∀ b o, H b = some o → b ≠ x → H' b = some o) → H' x = some (.ins C dx [("kept_names", .ref t)]) → H' t = some (.tup ((srt zs).map V.str)) → Q .non H'
theorem ok_init {f fN : Addr} {fd fdN : FuncData} (F : Fun K "__init__" "Locks.__init__" sInit f fd) (B : Blt mg) (T : LkC K mg C) (GN : FnOk P w K mg base CX0 1 fN fdN ["value"] spName) (bN : Binds K fdN ["value"] []) (mN : mg "is_name" = some (.ref fN)) (kN : PySem.W.keepIn K (.ref fN) = true) :
    FnR P w K mg base CX0 2 f (spNew C) := by
  obtain ⟨oc, od, kV, doc, pm, an, cdv, ct, osl, rfl, lk, hcd⟩ := F.ex
  have R := StX.fn_star (P := P) (w := w) (mg := mg) (base := base) (k := 1) (ps := ["self"]) (pv := "names") (sp := spIn K C) lk hcd scInit StX.cxUp_none (StX.bind_star1 (B := fun us => bindArgs (PySem.W.fnOf "__init__" "Locks.__init__" (defArgs sInit) (defBody sInit) (defScope sInit) .none kV doc pm an cdv ct) ⟨us, []⟩) (fun a => rfl) (fun a r rs => rfl)) (fun A outer s H vs Q E hr h => ?_)
  · intro A outer s H us vs Q E hr e0 r h
    refine R A outer s H us vs Q E hr e0 r ?_
    obtain ⟨x, dx, zs, rfl, hx, nm, few, q⟩ := h
    refine ⟨[.ref x], zs.map V.str, rfl, rfl, by rw [List.length_map, sizeLine_eq]; omega, fun p np => ?_⟩
    have nxp : x ≠ p := ne_of_none hx np
    refine ⟨x, dx, p, zs, rfl, by rw [upd_ne nxp]; exact hx, .inl (.inl upd_same), nm, few, fun H' t kp h1 h2 => q H' t (fun b o e hb => kp b o ?_ hb) h1 h2⟩
    rw [upd_ne (ne_of_none e np)]
    exact e
  · obtain ⟨x, dx, p, zs, rfl, hx, hp, nm, few, q⟩ := h
    refine ⟨_, (pss_cons (ps_if (pt_not (pt_val (pe_callB (cr_all rfl) (by rfl) B.all PyProof.Rows.boot_all (pa_cons (pe_lc (own := [("name", 2)]) (g := gName 2) (tt := tYes) rfl scInit.nd (pi_tup (pv 1))
      (blkOk_by (N := ["self", "names", "name"]) (sc := defScope sInit) (by decide +kernel)) (fun _ _ _ _ _ => pg_name (i := 2) scInit.nd rfl (Or.inl rfl)) (fun _ _ _ _ _ => pts_nil)
      (fun _ _ _ _ _ => pe_call GN hr (by rfl) mN kN bN .nil pass0 (pa_cons (pv 2) pa_nil))) pa_nil)))) (pss_one ps_never) pss_nil)
      (pss_one (ps_fld (pv 0) (pe_callTy call_tuple_of (by rfl) B.tup PyProof.Rows.boot_tuple (pa_cons (pe_callB (cr_sortX rfl) (by rfl) B.srt PyProof.Rows.boot_sorted (pa_cons (pe_callTy (cr_setX rfl) (by rfl) B.set PyProof.Rows.boot_set (pa_cons (pv 1) pa_nil)) pa_nil)) pa_nil)) rfl))), ?_⟩
    refine ⟨.ref p, rfl, p, rfl, ⟨_, hp⟩, fun D nD => lc_it (walk_tup (xs := zs.map V.str)) (fun i H' => Grow H D ((zs.map fun z => V.bl true).take i) H')
      (grow0 nD) (fun i H' _ hP => Same.tup hP.1 hp) (fun i y H2 H3 hi hP hY => ?_) (fun H2 hP => ?_)⟩
    · obtain ⟨rfl, hy⟩ := hY
      obtain ⟨z, hz, rfl⟩ := at_map hy
      have hn := nm z (List.mem_of_getElem? hz)
      refine ⟨rfl, .str z, rfl, z, rfl, nm_line hn, fun H4 s4 => grow1 nD (hP.more s4) ?_ ?_⟩
      · rw [List.length_take, List.length_map]
        exact Nat.lt_of_le_of_lt (Nat.min_le_right _ _) (small1000 (by omega))
      · rw [hn, take_next hz]
    · obtain ⟨sm, hD⟩ := hP
      rw [List.length_map, List.take_of_length_le (by rw [List.length_map]; exact Nat.le_refl _)] at hD
      refine ⟨D, zs.map fun z => true, rfl, .inl (.inl (by rw [List.map_map]; exact hD)), true, ?_, iteF ?_⟩
      · congr 1
        rw [List.all_map]
        exact List.all_eq_true.mpr fun _ _ => rfl
      · -- self.kept_names = tuple(sorted(set(names)))
        refine ⟨.ref p, rfl, p, zs, rfl, .inl (Same.tup sm hp), by (have : scanBound = 4096 := rfl); omega, fun l c hc nl => ?_⟩
        refine ⟨l, _, c, rfl, upd_same, by omega, fun ys u hA hm hy nu => ?_⟩
        have ey : ys = srt zs := srt_of hA fun z => by rw [hm z, decide_eq_true_eq]
        subst ey
        refine ⟨u, _, rfl, .inl ⟨.inl (.inl upd_same), fun t nt => ?_⟩⟩
        have st := sm.trans ((same_new nl).trans ((same_new nu).trans (same_new nt (o := .tup ((srt zs).map V.str)))))
        have nxt : x ≠ t := ne_of_none ((sm.trans ((same_new nl).trans (same_new nu))) _ _ hx) nt
        refine ⟨.ref x, rfl, x, C, dx, [], rfl, st _ _ hx, T.cl, T.nK, by show 0 < 1000; decide, q _ t (fun b o e hb => ?_) upd_same ?_⟩
        · rw [upd_ne hb]
          exact st _ _ e
        · rw [upd_ne nxt.symm, upd_same]
end
end Lk
set_option Elab.async false
set_option linter.all false
set_option maxRecDepth 100000
set_option maxHeartbeats 2000000
namespace Lk
open PySem PySem.Spec PyProof.Rows L2 TxS LkO
theorem look_kept (t : Addr) : List.lookup ("kept_names" : Str) ([(("kept_names" : Str), V.ref t)] : List (Str × V)) = some (V.ref t) := by
  rw [List.lookup_cons, beq_self_eq_true]
theorem LkAt.few {C : Addr} {H : Hp} {a : Addr} {zs : List Str} (h : LkAt C H a zs) : True := trivial
section
variable {P : Program} {w : World} {K : PySem.W.Frag} {mg : Str → Option Value} {base : Heap} {C : Addr}
/-- the made Locks, whatever else is new -/
theorem made_at {H H' : Hp} {x dx t : Addr} {zs : List Str} (nx : H x = none) (nd : H dx = none) (ne : dx ≠ x) (nm : ∀ z ∈ zs, isNm z = true)
    (kp : ∀ b o, (upd (upd H dx (.own x)) x (.ins C dx [])) b = some o → b ≠ x → H' b = some o) (h1 : H' x = some (.ins C dx [("kept_names", .ref t)])) (h2 : H' t = some (.tup ((srt zs).map V.str))) : Same H H' ∧ LkAt C H' x (srt zs) :=
  ⟨Same.made nx nd kp, ⟨⟨dx, t, h1, h2⟩, asc_srt zs, fun z hz => nm z ((mem_srt zs z).1 hz)⟩⟩
/-- two Locks in, a Locks out -/
def spBin (C : Addr) (g : List Str → List Str → List Str) : Sp := fun vs H Q _ => ∃ (a b : Addr) (zs ws : List Str), vs = [.ref a, .ref b] ∧ LkAt C H a zs ∧ LkAt C H b ws ∧ zs.length + ws.length < 64 ∧ ∀ H' c, Same H H' → LkAt C H' c (g zs ws) → Q (.ref c) H'
def gOr (zs ws : List Str) : List Str := srt (zs ++ ws)
def gAnd (zs ws : List Str) : List Str := zs.filter fun z => decide (z ∈ ws)
def gSub (zs ws : List Str) : List Str := zs.filter fun z => !decide (z ∈ ws)
theorem asc_filter {zs : List Str} (p : Str → Bool) (h : Asc zs) : Asc (zs.filter p) := h.sublist List.filter_sublist

/-! ### __eq__ -/
def spEqL (C : Addr) : Sp := fun vs H Q _ => ∃ (a b : Addr) (zs ws : List Str), vs = [.ref a, .ref b] ∧ LkAt C H a zs ∧ LkAt C H b ws ∧ Q (.bl (decide (zs = ws))) H
theorem scEq : FnScope ["self", "other"] ["self", "other"] (defScope sEq) := ⟨rfl, rfl, rfl, by decide +kernel, rfl, by decide +kernel, by decide +kernel⟩
theorem ok_eq {f : Addr} {fd : FuncData} {k : Nat} (F : Fun K "__eq__" "Locks.__eq__" sEq f fd) (B : Blt mg) (T : LkC K mg C) : FnOk P w K mg base CX0 (k + 1) f fd ["self", "other"] (spEqL C) := by
  refine F.ok scEq (fun vs H Q E h => ?_) (fun cdv A outer s H vs Q E hr h => ?_)
  · obtain ⟨a, b, zs, ws, rfl, _⟩ := h
    rfl
  · obtain ⟨a, b, zs, ws, rfl, ha, hb, q⟩ := h
    refine ⟨_, pss_one (ps_ret (pe_and (pe_callB call_isi (by rfl) B.isi PyProof.Rows.boot_isinstance (pa_cons (pv 1) (pa_cons (pe_glob (v := .ref C) (by rfl) T.mgC rfl) pa_nil)))
      (pe_one (pe_cmpR (op_eqD hr.units) (pe_fld (pv 0) rfl) (pe_fld (pv 1) rfl) (nomark _))))), ?_⟩
    obtain ⟨⟨dx, t, h1, h2⟩, a1, n1⟩ := ha
    obtain ⟨⟨dy, u, g1, g2⟩, a2, n2⟩ := hb
    refine ⟨.ref b, rfl, .ref b, .ref C, _, _, true, rfl, .own C, .base (.ins g1 T.cl T.tyc T.tyg T.tyt T.tym), T.kit, true, rfl, iteT ?_⟩
    refine ⟨.ref a, rfl, a, C, dx, _, _, rfl, h1, T.cl, T.nK, look_kept t, .ref b, rfl, b, C, dy, _, _, rfl, g1, T.cl, T.nK, look_kept u, _, _, .tup (.inl (.inl h2)) (dp_strs zs), .tup (.inl (.inl g2)) (dp_strs ws),
      shaped_strsT fun z hz => nm_ok (n1 z hz), shaped_strsT fun z hz => nm_ok (n2 z hz), ?_⟩
    rw [PyData.eqv, eqvAll_strs]
    exact q
/-! ### __contains__, __len__, names -/
def spHas (C : Addr) : Sp := fun vs H Q _ => ∃ (a : Addr) (zs : List Str) (z : Str), vs = [.ref a, .str z] ∧ LkAt C H a zs ∧ Q (.bl (decide (z ∈ zs))) H
theorem scHas : FnScope ["self", "name"] ["self", "name"] (defScope sHas) := ⟨rfl, rfl, rfl, by decide +kernel, rfl, by decide +kernel, by decide +kernel⟩
theorem ok_has {f : Addr} {fd : FuncData} {k : Nat} (F : Fun K "__contains__" "Locks.__contains__" sHas f fd) (T : LkC K mg C) : FnOk P w K mg base CX0 (k + 1) f fd ["self", "name"] (spHas C) := by
  refine F.ok scHas (fun vs H Q E h => ?_) (fun cdv A outer s H vs Q E hr h => ?_)
  · obtain ⟨a, zs, z, rfl, _⟩ := h
    rfl
  · obtain ⟨a, zs, z, rfl, ⟨⟨dx, t, h1, h2⟩, a1, n1⟩, q⟩ := h
    refine ⟨_, pss_one (ps_ret (pe_cmpR op_in_seq (pv 1) (pe_fld (pv 0) rfl) rfl)), ?_⟩
    refine ⟨.str z, rfl, .ref a, rfl, a, C, dx, _, _, rfl, h1, T.cl, T.nK, look_kept t, t, _, rfl, .inr (.inl (.inl h2)), rfl, flat_strs zs, ?_⟩
    rw [inV_str]
    exact q
def spLen (C : Addr) : Sp := fun vs H Q _ => ∃ (a : Addr) (zs : List Str), vs = [.ref a] ∧ LkAt C H a zs ∧ Q (.int zs.length) H
theorem scLen : FnScope ["self"] ["self"] (defScope sLen) := ⟨rfl, rfl, rfl, by decide +kernel, rfl, by decide +kernel, by decide +kernel⟩
theorem ok_len {f : Addr} {fd : FuncData} {k : Nat} (F : Fun K "__len__" "Locks.__len__" sLen f fd) (B : Blt mg) (T : LkC K mg C) : FnOk P w K mg base CX0 (k + 1) f fd ["self"] (spLen C) := by
  refine F.ok scLen (fun vs H Q E h => ?_) (fun cdv A outer s H vs Q E hr h => ?_)
  · obtain ⟨a, zs, rfl, _⟩ := h
    rfl
  · obtain ⟨a, zs, rfl, ⟨⟨dx, t, h1, h2⟩, a1, n1⟩, q⟩ := h
    refine ⟨_, pss_one (ps_ret (pe_callB call_len_seq (by rfl) B.len PySem.boot_len (pa_cons (pe_fld (pv 0) rfl) pa_nil))), ?_⟩
    refine ⟨.ref a, rfl, a, C, dx, _, _, rfl, h1, T.cl, T.nK, look_kept t, t, _, rfl, .inr (.inl (.inl h2)), ?_⟩
    rw [List.length_map]
    exact q
def spNames (C : Addr) : Sp := fun vs H Q _ => ∃ (a : Addr) (zs : List Str), vs = [.ref a] ∧ LkAt C H a zs ∧ ∀ l, H l = none → Q (.ref l) (upd H l (.lst (zs.map V.str)))
theorem scNames : FnScope ["self"] ["self"] (defScope sNames) := ⟨rfl, rfl, rfl, by decide +kernel, rfl, by decide +kernel, by decide +kernel⟩
theorem ok_names {f : Addr} {fd : FuncData} {k : Nat} (F : Fun K "names" "Locks.names" sNames f fd) (B : Blt mg) (T : LkC K mg C) : FnOk P w K mg base CX0 (k + 1) f fd ["self"] (spNames C) := by
  refine F.ok scNames (fun vs H Q E h => ?_) (fun cdv A outer s H vs Q E hr h => ?_)
  · obtain ⟨a, zs, rfl, _⟩ := h
    rfl
  · obtain ⟨a, zs, rfl, ⟨⟨dx, t, h1, h2⟩, a1, n1⟩, q⟩ := h
    refine ⟨_, pss_one (ps_ret (pe_callTy call_list_of (by rfl) B.lst PyProof.Rows.boot_list (pa_cons (pe_fld (pv 0) rfl) pa_nil))), ?_⟩
    exact ⟨.ref a, rfl, a, C, dx, _, _, rfl, h1, T.cl, T.nK, look_kept t, t, _, rfl, .inr (.inl (.inl h2)), q⟩
/-! ### holds -/
def spHolds (C : Addr) : Sp := fun vs H Q _ => ∃ (a b : Addr) (zs ws : List Str), vs = [.ref a, .ref b] ∧ LkAt C H a zs ∧ LkAt C H b ws ∧ ws.length < 64 ∧ ∀ H', Same H H' → Q (.bl (ws.all fun z => decide (z ∈ zs))) H'
theorem scHolds : FnScope ["self", "other"] ["self", "other"] (defScope sHolds) := ⟨rfl, rfl, rfl, by decide +kernel, rfl, by decide +kernel, by decide +kernel⟩
theorem ok_holds {f fC fA : Addr} {fd fdC fdA : FuncData} (F : Fun K "holds" "Locks.holds" sHolds f fd) (T : LkC K mg C)
    (GC : FnOk P w K mg base CX0 1 fC fdC ["other"] (spCheck C)) (bC : Binds K fdC ["other"] []) (mC : mg "check_other" = some (.ref fC)) (kC : PySem.W.keepIn K (.ref fC) = true)
    (GA : FnOk P w K mg base CX0 1 fA fdA ["names", "known"] (spAllIn K)) (bA : Binds K fdA ["names", "known"] []) (mA : mg "all_in" = some (.ref fA)) (kA : PySem.W.keepIn K (.ref fA) = true) :
    FnOk P w K mg base CX0 2 f fd ["self", "other"] (spHolds C) := by
  refine F.ok scHolds (fun vs H Q E h => ?_) (fun cdv A outer s H vs Q E hr h => ?_)
  · obtain ⟨a, b, zs, ws, rfl, _⟩ := h
    rfl
  · obtain ⟨a, b, zs, ws, rfl, ⟨⟨dx, t, h1, h2⟩, a1, n1⟩, ⟨⟨dy, u, g1, g2⟩, a2, n2⟩, few, q⟩ := h
    refine ⟨_, pss_cons (ps_expr (pe_call GC hr (by rfl) mC kC bC .nil pass0 (pa_cons (pv 1) pa_nil))) (pss_one (ps_ret (pe_call GA hr (by rfl) mA kA bA .nil pass0 (pa_cons (pe_fld (pv 1) rfl) (pa_cons (pe_fld (pv 0) rfl) pa_nil))))), ?_⟩
    refine ⟨.ref b, rfl, b, dy, _, rfl, g1, ?_⟩
    exact ⟨.ref b, rfl, b, C, dy, _, _, rfl, g1, T.cl, T.nK, look_kept u, .ref a, rfl, a, C, dx, _, _, rfl, h1, T.cl, T.nK, look_kept t, u, t, ws, zs, rfl, by omega, .inl (.inl g2), .inr (.inl (.inl h2)), q⟩
/-! ### __or__, __and__, __sub__ -/
theorem scOr : FnScope ["self", "other", "names"] ["self", "other"] (defScope sOr) := ⟨rfl, rfl, rfl, by decide +kernel, rfl, by decide +kernel, by decide +kernel⟩
theorem ok_or {f fC fI : Addr} {fd fdC : FuncData} (F : Fun K "__or__" "Locks.__or__" sOr f fd) (T : LkC K mg C)
    (GC : FnOk P w K mg base CX0 1 fC fdC ["other"] (spCheck C)) (bC : Binds K fdC ["other"] []) (mC : mg "check_other" = some (.ref fC)) (kC : PySem.W.keepIn K (.ref fC) = true)
    (M : Mk K C fI) (GI : FnR P w K mg base CX0 2 fI (spNew C)) : FnOk P w K mg base CX0 4 f fd ["self", "other"] (spBin C gOr) := by
  refine F.ok scOr (fun vs H Q E h => ?_) (fun cdv A outer s H vs Q E hr h => ?_)
  · obtain ⟨a, b, zs, ws, rfl, _⟩ := h
    rfl
  · obtain ⟨a, b, zs, ws, rfl, ⟨⟨dx, t, h1, h2⟩, a1, n1⟩, ⟨⟨dy, u, g1, g2⟩, a2, n2⟩, few, q⟩ := h
    refine ⟨_, pss_cons (ps_expr (pe_call GC (hr.mono (by decide)) (by rfl) mC kC bC .nil pass0 (pa_cons (pv 1) pa_nil)))
      (pss_cons (ps_set (i := 2) scOr.nd rfl (.inl rfl) (pe_op op_catA (pe_fld (pv 0) rfl) (pe_fld (pv 1) rfl)))
      (pss_one (ps_ret (pe_makeS (E := E0) M GI hr (by rfl) T.mgC pass0 (pv 2))))), ?_⟩
    refine ⟨.ref b, rfl, b, dy, _, rfl, g1, ?_⟩
    refine ⟨.ref a, rfl, a, C, dx, _, _, rfl, h1, T.cl, T.nK, look_kept t, .ref b, rfl, b, C, dy, _, _, rfl, g1, T.cl, T.nK, look_kept u, t, u, _, _, rfl, rfl, .inl (.inl h2), .inl (.inl g2), by rw [List.length_map, List.length_map, sizeLine_eq]; omega, ?_⟩
    have fin : ∀ (H1 : Hp) (p : Addr), Same H H1 → H1 p = some (.tup ((zs ++ ws).map V.str)) → ∃ v, ([some (V.ref a), some (V.ref b), some (V.ref p)] : L2.St)[2]? = some (some v) ∧ ∃ a' xs, v = V.ref a' ∧ (SqT K H1 a' xs ∨ SqL K H1 a' xs) ∧ ∀ x dx, H1 x = none → H1 dx = none → dx ≠ x →
        spNew C (V.ref x :: xs) (upd (upd H1 dx (.own x)) x (.ins C dx [])) (fun v H2 => v = .non ∧ Q (.ref x) H2) E0 := fun H1 p s1 hp => by
      refine ⟨_, rfl, p, _, rfl, .inl (.inl (.inl hp)), fun x ex nx ne hne => ⟨x, ex, zs ++ ws, rfl, upd_same, ?_, by rw [List.length_append]; omega, fun H2 t2 kp e1 e2 => ⟨rfl, ?_⟩⟩⟩
      · intro z hz
        rcases List.mem_append.mp hz with k | k
        · exact n1 z k
        · exact n2 z k
      · obtain ⟨s2, m2⟩ := made_at nx ne hne (fun z hz => (List.mem_append.mp hz).elim (n1 z) (n2 z)) kp e1 e2
        exact q H2 x (s1.trans s2) m2
    refine ⟨fun e => ?_, fun e e' => ?_, fun e e' p np => ?_⟩
    · have ez : zs = [] := List.map_eq_nil_iff.mp e
      subst ez
      exact fin H u (Same.refl H) g2
    · have ez : ws = [] := List.map_eq_nil_iff.mp e'
      subst ez
      exact fin H t (Same.refl H) (by rw [List.append_nil]; exact h2)
    · exact fin _ p (same_new np) (by rw [upd_same, List.map_append])
end
end Lk
set_option Elab.async false
set_option linter.all false
set_option maxRecDepth 100000
set_option maxHeartbeats 2000000
namespace Lk
open PySem PySem.Spec PyProof.Rows L2 TxS LkO
theorem filt_yes {α : Type} {p : α → Bool} {l : List α} {i : Nat} {x : α} (h : l[i]? = some x) (e : p x = true) : (l.take (i + 1)).filter p = (l.take i).filter p ++ [x] := by
  rw [take_next1 h, List.filter_append, List.filter_cons, if_pos e]
  rfl
theorem filt_no {α : Type} {p : α → Bool} {l : List α} {i : Nat} {x : α} (h : l[i]? = some x) (e : p x = false) : (l.take (i + 1)).filter p = (l.take i).filter p := by
  rw [take_next1 h, List.filter_append, List.filter_cons, if_neg (by rw [e]; exact Bool.false_ne_true)]
  exact List.append_nil _
theorem filt_len {α : Type} (p : α → Bool) (l : List α) (i : Nat) : ((l.take i).filter p).length ≤ l.length := Nat.le_trans (List.length_filter_le _ _) (by rw [List.length_take]; exact Nat.min_le_right _ _)
section
variable {P : Program} {w : World} {K : PySem.W.Frag} {mg : Str → Option Value} {base : Heap} {C : Addr}
theorem scAnd : FnScope ["self", "other", "names", "name"] ["self", "other"] (defScope sAnd) := ⟨rfl, rfl, rfl, by decide +kernel, rfl, by decide +kernel, by decide +kernel⟩
theorem scSub : FnScope ["self", "other", "names", "name"] ["self", "other"] (defScope sSub) := ⟨rfl, rfl, rfl, by decide +kernel, rfl, by decide +kernel, by decide +kernel⟩
theorem ok_and {f fC fI : Addr} {fd fdC : FuncData} (F : Fun K "__and__" "Locks.__and__" sAnd f fd) (T : LkC K mg C)
    (GC : FnOk P w K mg base CX0 1 fC fdC ["other"] (spCheck C)) (bC : Binds K fdC ["other"] []) (mC : mg "check_other" = some (.ref fC)) (kC : PySem.W.keepIn K (.ref fC) = true)
    (M : Mk K C fI) (GI : FnR P w K mg base CX0 2 fI (spNew C)) : FnOk P w K mg base CX0 4 f fd ["self", "other"] (spBin C gAnd) := by
  refine F.ok scAnd (fun vs H Q E h => ?_) (fun cdv A outer s H vs Q E hr h => ?_)
  · obtain ⟨a, b, zs, ws, rfl, _⟩ := h
    rfl
  · obtain ⟨a, b, zs, ws, rfl, ⟨⟨dx, t, h1, h2⟩, a1, n1⟩, ⟨⟨dy, u, g1, g2⟩, a2, n2⟩, few, q⟩ := h
    refine ⟨_, pss_cons (ps_expr (pe_call GC (hr.mono (by decide)) (by rfl) mC kC bC .nil pass0 (pa_cons (pv 1) pa_nil)))
      (pss_cons (ps_setLc (i := 2) (own := [("name", 3)]) (g := gName 3) (tt := tTest (tOp (rIn K false) (tVar 3) (tFld K (tVar 1) "kept_names"))) rfl scAnd.nd rfl rfl (sw_true rfl rfl rfl (by decide +kernel)) (pi_tup (pe_fld (pv 0) rfl))
        (blkOk_by (N := ["self", "other", "names", "name"]) (sc := defScope sAnd) (by decide +kernel)) (fun _ _ _ _ _ => pg_name (i := 3) scAnd.nd rfl (Or.inl rfl)) (fun _ _ _ _ _ => pts_one (pt_cmpR op_in_seq (pv 3) (pe_fld (pv 1) rfl) rfl)) (fun _ _ _ _ _ => pv 3))
      (pss_one (ps_ret (pe_makeS (E := E0) M GI hr (by rfl) T.mgC pass0 (pv 2))))), ?_⟩
    refine ⟨.ref b, rfl, b, dy, _, rfl, g1, ?_⟩
    refine ⟨.ref a, rfl, a, C, dx, _, _, rfl, h1, T.cl, T.nK, look_kept t, t, rfl, ⟨_, .inl (.inl h2)⟩, fun D nD => lc_it (walk_tup (xs := zs.map V.str)) (fun i H' => Grow H D (((zs.take i).filter fun z => decide (z ∈ ws)).map V.str) H')
      (grow0 nD) (fun i H' _ hP => Same.tup hP.1 (.inl (.inl h2))) (fun i x H2 H3 hi hP hY => ?_) (fun H2 hP => ?_)⟩
    · obtain ⟨rfl, hx⟩ := hY
      obtain ⟨z, hz, rfl⟩ := at_map hx
      refine ⟨rfl, .str z, rfl, .ref b, rfl, b, C, dy, _, _, rfl, hP.1 _ _ g1, T.cl, T.nK, look_kept u, u, _, rfl, .inr (.inl (.inl (hP.1 _ _ g2))), rfl, flat_strs ws, _, rfl, ?_⟩
      rw [inV_str]
      refine ite2 (fun e => ?_) (fun e => ?_)
      · refine ⟨.str z, rfl, grow1 nD hP ?_ ?_⟩
        · rw [List.length_map]
          exact Nat.lt_of_le_of_lt (filt_len _ _ _) (small1000 (by omega))
        · rw [filt_yes hz e, List.map_append]
          rfl
      · show Grow H D _ H3
        rw [filt_no hz (Bool.eq_false_iff.mpr e)]
        exact hP
    · obtain ⟨sm, hD⟩ := hP
      rw [List.length_map, List.take_length] at hD
      have nm : ∀ z ∈ gAnd zs ws, isNm z = true := fun z hz => n1 z (List.mem_filter.mp hz).1
      refine ⟨_, rfl, D, _, rfl, .inr (.inl (.inl hD)), fun x ex nx ne hne => ⟨x, ex, gAnd zs ws, rfl, upd_same, nm, ?_, fun H4 t2 kp e1 e2 => ⟨rfl, ?_⟩⟩⟩
      · exact Nat.lt_of_le_of_lt (List.length_filter_le _ _) (by omega)
      · obtain ⟨s2, m2⟩ := made_at nx ne hne nm kp e1 e2
        rw [srt_asc (l := gAnd zs ws) (asc_filter _ a1)] at m2
        exact q H4 x (sm.trans s2) m2
theorem ok_sub {f fC fI : Addr} {fd fdC : FuncData} (F : Fun K "__sub__" "Locks.__sub__" sSub f fd) (T : LkC K mg C)
    (GC : FnOk P w K mg base CX0 1 fC fdC ["other"] (spCheck C)) (bC : Binds K fdC ["other"] []) (mC : mg "check_other" = some (.ref fC)) (kC : PySem.W.keepIn K (.ref fC) = true)
    (M : Mk K C fI) (GI : FnR P w K mg base CX0 2 fI (spNew C)) : FnOk P w K mg base CX0 4 f fd ["self", "other"] (spBin C gSub) := by
  refine F.ok scSub (fun vs H Q E h => ?_) (fun cdv A outer s H vs Q E hr h => ?_)
  · obtain ⟨a, b, zs, ws, rfl, _⟩ := h
    rfl
  · obtain ⟨a, b, zs, ws, rfl, ⟨⟨dx, t, h1, h2⟩, a1, n1⟩, ⟨⟨dy, u, g1, g2⟩, a2, n2⟩, few, q⟩ := h
    refine ⟨_, pss_cons (ps_expr (pe_call GC (hr.mono (by decide)) (by rfl) mC kC bC .nil pass0 (pa_cons (pv 1) pa_nil)))
      (pss_cons (ps_setLc (i := 2) (own := [("name", 3)]) (g := gName 3) (tt := tTest (tOp (rIn K true) (tVar 3) (tFld K (tVar 1) "kept_names"))) rfl scSub.nd rfl rfl (sw_true rfl rfl rfl (by decide +kernel)) (pi_tup (pe_fld (pv 0) rfl))
        (blkOk_by (N := ["self", "other", "names", "name"]) (sc := defScope sSub) (by decide +kernel)) (fun _ _ _ _ _ => pg_name (i := 3) scSub.nd rfl (Or.inl rfl)) (fun _ _ _ _ _ => pts_one (pt_cmpR op_notIn_seq (pv 3) (pe_fld (pv 1) rfl) rfl)) (fun _ _ _ _ _ => pv 3))
      (pss_one (ps_ret (pe_makeS (E := E0) M GI hr (by rfl) T.mgC pass0 (pv 2))))), ?_⟩
    refine ⟨.ref b, rfl, b, dy, _, rfl, g1, ?_⟩
    refine ⟨.ref a, rfl, a, C, dx, _, _, rfl, h1, T.cl, T.nK, look_kept t, t, rfl, ⟨_, .inl (.inl h2)⟩, fun D nD => lc_it (walk_tup (xs := zs.map V.str)) (fun i H' => Grow H D (((zs.take i).filter fun z => !decide (z ∈ ws)).map V.str) H')
      (grow0 nD) (fun i H' _ hP => Same.tup hP.1 (.inl (.inl h2))) (fun i x H2 H3 hi hP hY => ?_) (fun H2 hP => ?_)⟩
    · obtain ⟨rfl, hx⟩ := hY
      obtain ⟨z, hz, rfl⟩ := at_map hx
      refine ⟨rfl, .str z, rfl, .ref b, rfl, b, C, dy, _, _, rfl, hP.1 _ _ g1, T.cl, T.nK, look_kept u, u, _, rfl, .inr (.inl (.inl (hP.1 _ _ g2))), rfl, flat_strs ws, _, rfl, ?_⟩
      rw [inV_str]
      refine ite2 (fun e => ?_) (fun e => ?_)
      · refine ⟨.str z, rfl, grow1 nD hP ?_ ?_⟩
        · rw [List.length_map]
          exact Nat.lt_of_le_of_lt (filt_len _ _ _) (small1000 (by omega))
        · rw [filt_yes (p := fun z => !decide (z ∈ ws)) hz e, List.map_append]
          rfl
      · show Grow H D _ H3
        rw [filt_no (p := fun z => !decide (z ∈ ws)) hz (Bool.eq_false_iff.mpr e)]
        exact hP
    · obtain ⟨sm, hD⟩ := hP
      rw [List.length_map, List.take_length] at hD
      have nm : ∀ z ∈ gSub zs ws, isNm z = true := fun z hz => n1 z (List.mem_filter.mp hz).1
      refine ⟨_, rfl, D, _, rfl, .inr (.inl (.inl hD)), fun x ex nx ne hne => ⟨x, ex, gSub zs ws, rfl, upd_same, nm, ?_, fun H4 t2 kp e1 e2 => ⟨rfl, ?_⟩⟩⟩
      · exact Nat.lt_of_le_of_lt (List.length_filter_le _ _) (by omega)
      · obtain ⟨s2, m2⟩ := made_at nx ne hne nm kp e1 e2
        rw [srt_asc (l := gSub zs ws) (asc_filter _ a1)] at m2
        exact q H4 x (sm.trans s2) m2
end
end Lk
set_option Elab.async false
set_option linter.all false
set_option maxRecDepth 100000
set_option maxHeartbeats 2000000
/-! The law's own draws. -/
namespace Lw
open PySem PySem.Spec PyProof.Rows L2 TxS LkO Lk
def top (i : Nat) : Stmt := PySem.Challenge.pw_lockdoors_k31_whole_locks.main.body.getD i (.Pass ⟨0, 0, 0, 0⟩)
abbrev sCell : Stmt := top 12
abbrev sDraw : Stmt := top 13
abbrev sNumber : Stmt := top 14
abbrev sNext : Stmt := top 15
section
variable {P : Program} {w : World} {K : PySem.W.Frag} {mg : Str → Option Value} {base : Heap}
/-! ### _law_cell_at -/
def spCell (K : PySem.W.Frag) : Sp := fun vs H Q _ => ∃ (a : Addr) (ns : List Int) (j : Nat), vs = [.ref a, .int j] ∧ SqL K H a (ns.map V.int) ∧ ∀ c : Int, Q (.int c) H
theorem scCell : FnScope ["_law_script", "_law_k"] ["_law_script", "_law_k"] (defScope sCell) := ⟨rfl, rfl, rfl, by decide +kernel, rfl, by decide +kernel, by decide +kernel⟩
theorem ok_cell {f : Addr} {fd : FuncData} {k : Nat} (F : Fun K "_law_cell_at" "_law_cell_at" sCell f fd) (mL : mg "len" = none) : FnOk P w K mg base CX0 (k + 1) f fd ["_law_script", "_law_k"] (spCell K) := by
  refine F.ok scCell (fun vs H Q E h => ?_) (fun cdv A outer s H vs Q E hr h => ?_)
  · obtain ⟨a, ns, j, rfl, _⟩ := h
    rfl
  · obtain ⟨a, ns, j, rfl, ha, q⟩ := h
    refine ⟨_, pss_cons (ps_if (pt_cmpR op_lt (pv 1) (pe_callB call_len_seq (by rfl) mL PySem.boot_len (pa_cons (pv 0) pa_nil)) (nomark _)) (pss_one (ps_ret (pe_ix ix_list (pv 0) (pv 1) (fun _ _ => rfl)))) pss_nil) (pss_one (ps_ret pe_int)), ?_⟩
    refine ⟨.int j, rfl, .ref a, rfl, a, _, rfl, .inl ha, _, _, rfl, rfl, _, rfl, ite2 (fun e => ?_) (fun e => ?_)⟩
    · have lt : j < ns.length := by
        have := of_decide_eq_true e
        rw [List.length_map] at this
        omega
      exact ⟨.ref a, rfl, .int j, rfl, a, _, j, _, rfl, rfl, ha, atI_nat (by rw [List.getElem?_map, List.getElem?_eq_getElem lt]; rfl), q _⟩
    · exact q 0
/-! ### _law_draw -/
def spDraw : Sp := fun vs H Q _ => ∃ c k b : Int, vs = [.int c, .int k, .int b] ∧ 0 < b ∧ ∀ r H', Same H H' → 0 ≤ r → r < b → Q (.int r) H'
def primes : List Int := [1000003, 1000033, 1000037, 1000039, 1000081, 1000099, 1000117, 1000121, 1000133, 1000151, 1000159, 1000171, 1000183, 1000187, 1000193, 1000199]
theorem primes_pos : ∀ p ∈ primes, 0 < p := by decide
theorem scDraw : FnScope ["_law_cell", "_law_k", "_law_below", "_law_primes"] ["_law_cell", "_law_k", "_law_below"] (defScope sDraw) := ⟨rfl, rfl, rfl, by decide +kernel, rfl, by decide +kernel, by decide +kernel⟩
theorem ok_draw {f : Addr} {fd : FuncData} {k : Nat} (F : Fun K "_law_draw" "_law_draw" sDraw f fd) : FnOk P w K mg base CX0 (k + 1) f fd ["_law_cell", "_law_k", "_law_below"] spDraw := by
  refine F.ok scDraw (fun vs H Q E h => ?_) (fun cdv A outer s H vs Q E hr h => ?_)
  · obtain ⟨c, k, b, rfl, _⟩ := h
    rfl
  · obtain ⟨c, k', b, rfl, hb, q⟩ := h
    refine ⟨_, pss_cons (ps_set (i := 3) scDraw.nd rfl (.inl rfl) (pe_tup (pa_cons pe_int (pa_cons pe_int (pa_cons pe_int (pa_cons pe_int (pa_cons pe_int (pa_cons pe_int (pa_cons pe_int (pa_cons pe_int (pa_cons pe_int (pa_cons pe_int (pa_cons pe_int (pa_cons pe_int (pa_cons pe_int (pa_cons pe_int (pa_cons pe_int (pa_cons pe_int pa_nil))))))))))))))))))
      (pss_one (ps_ret (pe_op op_mod (pe_op op_mod (pe_op op_add (pe_op op_mul (pv 0) pe_int) (pe_op op_mul (pv 1) pe_int)) (pe_ix ix_tup (pv 3) (pe_op op_mod (pv 1) pe_int) (fun _ _ => rfl))) (pv 2)))), ?_⟩
    refine ⟨by show 16 ≤ sizeLine; rw [sizeLine_eq]; decide, fun p np => ?_⟩
    have m0 : 0 ≤ k' % 16 := Int.emod_nonneg _ (by decide)
    have m1 : k' % 16 < 16 := Int.emod_lt_of_pos _ (by decide)
    have lt : (k' % 16).toNat < primes.length := by
      show (k' % 16).toNat < 16
      omega
    have at_ : atI (primes.map V.int) (k' % 16) = some (.int primes[(k' % 16).toNat]) := by
      have := atI_nat (xs := primes.map V.int) (j := (k' % 16).toNat) (v := .int primes[(k' % 16).toNat]) (by rw [List.getElem?_map, List.getElem?_eq_getElem lt]; rfl)
      rw [Int.toNat_of_nonneg m0] at this
      exact this
    refine ⟨.int c, rfl, c, 48271, rfl, rfl, .inr ⟨by decide, by decide⟩, .int k', rfl, k', 69621, rfl, rfl, .inr ⟨by decide, by decide⟩, _, _, rfl, rfl, .ref p, rfl, .int k', rfl, k', 16, rfl, rfl, (show (0 : Int) < 16 by decide), p, _, _, _, rfl, rfl, .inl (.inl upd_same), at_, _, _, rfl, rfl, primes_pos _ (List.getElem_mem lt), .int b, rfl, _, b, rfl, rfl, hb, ?_⟩
    exact q _ _ (same_new np) (Int.emod_nonneg _ (by omega)) (Int.emod_lt_of_pos _ hb)
/-! ### _law_number -/
theorem pow_small {i : Nat} (h : i ≤ 23) : ((1009 : Int) ^ i).natAbs < 2 ^ 240 := by
  rw [Int.natAbs_pow]
  refine Nat.lt_of_le_of_lt (Nat.pow_le_pow_right (by decide) h) ?_
  decide +kernel
theorem pow_pos1 (i : Nat) : 0 < (1009 : Int) ^ i := Int.pow_pos (by decide)
def spNumber : Sp := fun vs H Q _ => ∃ c k b : Int, vs = [.int c, .int k, .int b] ∧ 0 ≤ k ∧ k ≤ 1000 ∧ 0 < b ∧ ∀ r H', Same H H' → 0 ≤ r → r < b → Q (.int r) H'
theorem scNumber : FnScope ["_law_cell", "_law_k", "_law_below", "_law_power", "_law_times", "_law_remains", "_law_small"] ["_law_cell", "_law_k", "_law_below"] (defScope sNumber) := ⟨rfl, rfl, rfl, by decide +kernel, rfl, by decide +kernel, by decide +kernel⟩
theorem ok_number {f fD : Addr} {fd fdD : FuncData} (F : Fun K "_law_number" "_law_number" sNumber f fd) (mR : mg "range" = none)
    (GD : FnOk P w K mg base CX0 1 fD fdD ["_law_cell", "_law_k", "_law_below"] spDraw) (bD : Binds K fdD ["_law_cell", "_law_k", "_law_below"] []) (mD : mg "_law_draw" = some (.ref fD)) (kD : PySem.W.keepIn K (.ref fD) = true) :
    FnOk P w K mg base CX0 2 f fd ["_law_cell", "_law_k", "_law_below"] spNumber := by
  refine F.ok scNumber (fun vs H Q E h => ?_) (fun cdv A outer s H vs Q E hr h => ?_)
  · obtain ⟨c, k, b, rfl, _⟩ := h
    rfl
  · obtain ⟨c, k', b, rfl, k0, k1, hb, q⟩ := h
    refine ⟨_, pss_cons (ps_set (i := 3) scNumber.nd rfl (.inl rfl) pe_int)
      (pss_cons (ps_for PassesOwn.never rfl (pi_range1 (by rfl) mR (pa_cons (pe_op op_mod (pv 1) pe_int) pa_nil)) (pg_name (i := 4) scNumber.nd rfl (Or.inl rfl)) (pss_one (ps_set (i := 3) scNumber.nd rfl (.inl rfl) (pe_op op_mul (pv 3) pe_int))))
      (pss_cons (ps_set (i := 5) scNumber.nd rfl (.inl rfl) (pe_op op_fdivW (pe_op op_sub (pv 0) (pe_op op_pow pe_int pe_int)) (pv 3)))
      (pss_cons (ps_if (pt_cmpR op_gt (pv 5) pe_int (nomark _)) (pss_one (ps_ret (pe_op op_mod (pe_op op_mod (pv 5) pe_int) (pv 2)))) pss_nil)
      (pss_cons (ps_set (i := 6) scNumber.nd rfl (.inl rfl) (pe_op op_mod (pv 0) pe_int))
      (pss_one (ps_ret (pe_op op_mod (pe_call GD hr (by rfl) mD kD bD .nil pass0 (pa_cons (pe_op op_mul (pe_op op_add (pv 6) (pe_op op_mul pe_int (pv 1))) (pe_op op_add (pe_op op_add (pv 6) (pe_op op_mul pe_int (pv 1))) pe_int))
        (pa_cons (pe_op op_add (pe_op op_mod (pv 1) pe_int) pe_int) (pa_cons pe_int pa_nil)))) (pv 2)))))))), ?_⟩
    have m0 : 0 ≤ k' % 24 := Int.emod_nonneg _ (by decide)
    have m1 : k' % 24 < 24 := Int.emod_lt_of_pos _ (by decide)
    refine ⟨.int k', rfl, k', 24, rfl, rfl, (show (0 : Int) < 24 by decide), k' % 24, rfl, by omega, by omega, for_it walk_range (fun i σ H' => H' = H ∧ ∃ y4, σ = [some (.int c), some (.int k'), some (.int b), some (.int (1009 ^ i)), y4, none, none]) ⟨rfl, none, rfl⟩ (fun _ _ _ _ _ => trivial) (fun i x σ H2 H3 hi hP hY => ?_) (fun σ H2 hP => ?_)⟩
    · obtain ⟨rfl, rfl⟩ := hY
      obtain ⟨rfl, y4, rfl⟩ := hP
      refine ⟨_, rfl, _, 1009, rfl, rfl, .inr ⟨by decide, by decide⟩, rfl, some (.int (0 + (i : Int))), ?_⟩
      rw [Int.pow_succ]
      rfl
    · obtain ⟨rfl, y4, rfl⟩ := hP
      refine ⟨.int c, rfl, 10, 18, rfl, rfl, ⟨by decide, by decide, by decide⟩, c, _, rfl, rfl, _, rfl, _, _, rfl, rfl, wide_div (pow_pos1 _) (pow_small (by omega)) (by decide) (by decide), ?_⟩
      refine ⟨_, rfl, _, 0, rfl, rfl, _, rfl, ite2 (fun e => ?_) (fun e => ?_)⟩
      · exact ⟨_, rfl, _, 1009, rfl, rfl, (show (0 : Int) < 1009 by decide), .int b, rfl, _, b, rfl, rfl, hb, q _ _ (Same.refl _) (Int.emod_nonneg _ (by omega)) (Int.emod_lt_of_pos _ hb)⟩
      · refine ⟨.int c, rfl, c, 1000003, rfl, rfl, (show (0 : Int) < 1000003 by decide), ?_⟩
        have s0 : 0 ≤ c % 1000003 := Int.emod_nonneg _ (by decide)
        have s1 : c % 1000003 < 1000003 := Int.emod_lt_of_pos _ (by decide)
        refine ⟨_, rfl, _, rfl, 977, k', rfl, rfl, .inl ⟨by decide, by decide⟩, _, _, rfl, rfl, _, rfl, .int k', rfl, 31, k', rfl, rfl, .inl ⟨by decide, by decide⟩, _, _, rfl, rfl, _, 5, rfl, rfl, _, _, rfl, rfl, .inl ⟨by omega, by omega⟩, .int k', rfl, k', 9, rfl, rfl, (show (0 : Int) < 9 by decide), _, 1, rfl, rfl, _, _, _, rfl, by decide, fun r H' sm r0 r1 => ?_⟩
        exact ⟨.int b, rfl, r, b, rfl, rfl, hb, q _ _ sm (Int.emod_nonneg _ (by omega)) (Int.emod_lt_of_pos _ hb)⟩
/-! ### _law_next -/
/-- all stands as it was, but what is at st -/
def SameX (st : Addr) (H H' : Hp) : Prop := ∀ b o, H b = some o → b ≠ st → H' b = some o
theorem SameX.refl (st : Addr) (H : Hp) : SameX st H H := fun _ _ e _ => e
theorem SameX.of {st : Addr} {H H' : Hp} (s : Same H H') : SameX st H H' := fun b o e _ => s b o e
theorem SameX.trans {st : Addr} {H H1 H2 : Hp} (s : SameX st H H1) (t : SameX st H1 H2) : SameX st H H2 := fun b o e n => t b o (s b o e n) n
/-- the state at st: the script's list, two numbers -/
structure Sta (K : PySem.W.Frag) (H : Hp) (st a : Addr) (ns : List Int) (b n : Nat) : Prop where
  ob : H st = some (.lst [.ref a, .int b, .int n])
  sc : SqL K H a (ns.map V.int)
theorem Sta.sq {K : PySem.W.Frag} {H H' : Hp} {st a : Addr} {ns : List Int} {b n : Nat} (h : Sta K H st a ns b n) (s : SameX st H H') : SqL K H' a (ns.map V.int) := by
  rcases h.sc with (e | ⟨o, e⟩) | e
  · refine .inl (.inl (s _ _ e fun z => ?_))
    have q := h.ob
    rw [← z, e] at q
    have q2 := Option.some.inj q
    injection q2 with q3
    cases ns with
    | nil => cases q3
    | cons x r =>
      injection q3 with q4 _
      cases q4
  · refine .inl (.inr ⟨o, s _ _ e fun z => ?_⟩)
    have q := h.ob
    rw [← z, e] at q
    cases q
  · exact .inr e
theorem Sta.move {K : PySem.W.Frag} {H H' : Hp} {st a : Addr} {ns : List Int} {b n m : Nat} (h : Sta K H st a ns b n) (s : SameX st H H') (e : H' st = some (.lst [.ref a, .int b, .int m])) : Sta K H' st a ns b m := ⟨e, h.sq s⟩
theorem Sta.same {K : PySem.W.Frag} {H H' : Hp} {st a : Addr} {ns : List Int} {b n : Nat} (h : Sta K H st a ns b n) (s : Same H H') : Sta K H' st a ns b n := ⟨s _ _ h.ob, s.seq h.sc⟩
def spNext (K : PySem.W.Frag) : Sp := fun vs H Q _ => ∃ (st a : Addr) (ns : List Int) (b n : Nat) (m : Int), vs = [.ref st, .int m] ∧ Sta K H st a ns b n ∧ 0 < m ∧
  ∀ r H', 0 ≤ r → r < m → SameX st H H' → Sta K H' st a ns b (n + 1) → Q (.int r) H'
theorem scNext : FnScope ["_law_state", "_law_below", "_law_at", "_law_cell"] ["_law_state", "_law_below"] (defScope sNext) := ⟨rfl, rfl, rfl, by decide +kernel, rfl, by decide +kernel, by decide +kernel⟩
theorem ok_next {f fC fN : Addr} {fd fdC fdN : FuncData} (F : Fun K "_law_next" "_law_next" sNext f fd)
    (GC : FnOk P w K mg base CX0 1 fC fdC ["_law_script", "_law_k"] (spCell K)) (bC : Binds K fdC ["_law_script", "_law_k"] []) (mC : mg "_law_cell_at" = some (.ref fC)) (kC : PySem.W.keepIn K (.ref fC) = true)
    (GN : FnOk P w K mg base CX0 2 fN fdN ["_law_cell", "_law_k", "_law_below"] spNumber) (bN : Binds K fdN ["_law_cell", "_law_k", "_law_below"] []) (mN : mg "_law_number" = some (.ref fN)) (kN : PySem.W.keepIn K (.ref fN) = true) :
    FnOk P w K mg base CX0 3 f fd ["_law_state", "_law_below"] (spNext K) := by
  refine F.ok scNext (fun vs H Q E h => ?_) (fun cdv A outer s H vs Q E hr h => ?_)
  · obtain ⟨st, a, ns, b, n, m, rfl, _⟩ := h
    rfl
  · obtain ⟨st, a, ns, b, n, m, rfl, hS, hm, q⟩ := h
    refine ⟨_, pss_cons (ps_asg (pe_op op_add (pe_ix ix_list (pv 0) pe_int (fun _ _ => rfl)) pe_int) (pg_sub (pv 0) pe_int set_list))
      (pss_cons (ps_set (i := 2) scNext.nd rfl (.inl rfl) (pe_op op_fdiv (pe_ix ix_list (pv 0) pe_int (fun _ _ => rfl)) pe_int))
      (pss_cons (ps_set (i := 3) scNext.nd rfl (.inl rfl) (pe_op op_add (pe_call GC (hr.mono (by decide)) (by rfl) mC kC bC .nil pass0 (pa_cons (pe_ix ix_list (pv 0) pe_int (fun _ _ => rfl)) (pa_cons (pe_op op_add (pe_ix ix_list (pv 0) pe_int (fun _ _ => rfl)) (pv 2)) pa_nil))) (pe_op op_mul pe_int (pv 2))))
      (pss_one (ps_ret (pe_call GN hr (by rfl) mN kN bN .nil pass0 (pa_cons (pv 3) (pa_cons (pe_op op_add (pe_op op_mod (pe_ix ix_list (pv 0) pe_int (fun _ _ => rfl)) pe_int) pe_int) (pa_cons (pv 1) pa_nil)))))))), ?_⟩
    refine ⟨.ref st, rfl, st, _, 2, _, rfl, rfl, .inl (.inl hS.ob), rfl, _, 1, rfl, rfl, .ref st, rfl, st, _, 2, 2, rfl, rfl, hS.ob, rfl, ?_⟩
    have hS1 : Sta K (upd H st (.lst [.ref a, .int b, .int ((n + 1 : Nat) : Int)])) st a ns b (n + 1) := hS.move (fun x o e hx => by rw [upd_ne hx]; exact e) upd_same
    have hx1 : SameX st H (upd H st (.lst [.ref a, .int b, .int ((n + 1 : Nat) : Int)])) := fun x o e hx => by rw [upd_ne hx]; exact e
    have eL : ([V.ref a, V.int b, V.int n] : List V).set 2 (.int ((n : Int) + 1)) = [.ref a, .int b, .int ((n + 1 : Nat) : Int)] := rfl
    rw [eL]
    have at2 : atI ([V.ref a, V.int b, V.int ((n + 1 : Nat) : Int)]) 2 = some (.int ((n + 1 : Nat) : Int)) := rfl
    refine ⟨.ref st, rfl, st, _, 2, _, rfl, rfl, .inl (.inl hS1.ob), rfl, _, 12, rfl, rfl, ⟨by decide, by decide⟩, ?_⟩
    refine ⟨.ref st, rfl, st, _, 0, _, rfl, rfl, .inl (.inl hS1.ob), rfl, .ref st, rfl, st, _, 1, _, rfl, rfl, .inl (.inl hS1.ob), rfl, _, rfl, _, _, rfl, rfl, a, ns, b + (n + 1) / 12, ?_, hS1.sc, fun c => ?_⟩
    · rfl
    · have d0 : (0 : Int) ≤ ((n + 1 : Nat) : Int) / 12 := by omega
      refine ⟨_, rfl, 31, _, rfl, rfl, .inl ⟨by decide, by decide⟩, _, _, rfl, rfl, ?_⟩
      have m0 : 0 ≤ ((n + 1 : Nat) : Int) % 12 := Int.emod_nonneg _ (by decide)
      have m1 : ((n + 1 : Nat) : Int) % 12 < 12 := Int.emod_lt_of_pos _ (by decide)
      refine ⟨_, rfl, .ref st, rfl, st, _, 2, _, rfl, rfl, .inl (.inl hS1.ob), rfl, _, 12, rfl, rfl, (show (0 : Int) < 12 by decide), _, 1, rfl, rfl, .int m, rfl, _, _, m, rfl, by omega, by omega, hm, fun r H' sm r0 r1 => ?_⟩
      exact q r H' r0 r1 (hx1.trans (SameX.of sm)) (hS1.same sm)
end
end Lw
set_option Elab.async false
set_option linter.all false
set_option maxRecDepth 100000
set_option maxHeartbeats 2000000
namespace Lw
open PySem PySem.Spec PyProof.Rows L2 TxS LkO Lk
abbrev sLNames : Stmt := Lw.top 16
abbrev sMade : Stmt := Lw.top 17
abbrev sStands : Stmt := Lw.top 18
abbrev sOne : Stmt := Lw.top 19
abbrev sLaw : Stmt := Lw.top 20
def five : List Str := ["gate", "b", "abcdefgh", "front", "a"]
theorem five_nm : ∀ z ∈ five, isNm z = true := by decide +kernel
section
variable {P : Program} {w : World} {K : PySem.W.Frag} {mg : Str → Option Value} {base : Heap} {C : Addr}
/-! ### _law_names -/
def spLN (K : PySem.W.Frag) : Sp := fun vs H Q _ => ∃ (st a : Addr) (ns : List Int) (b n : Nat), vs = [.ref st] ∧ Sta K H st a ns b n ∧
  ∀ (zs : List Str) (l : Addr) (n' : Nat) (H' : Hp), (∀ z ∈ zs, z ∈ five) → zs.length ≤ 5 → SameX st H H' → Sta K H' st a ns b n' → H l = none → H' l = some (.lst (zs.map V.str)) → Q (.ref l) H'
theorem scLN : FnScope ["_law_state", "_law_every", "_law_turn"] ["_law_state"] (defScope sLNames) := ⟨rfl, rfl, rfl, by decide +kernel, rfl, by decide +kernel, by decide +kernel⟩
theorem ok_ln {f fX : Addr} {fd fdX : FuncData} (F : Fun K "_law_names" "_law_names" sLNames f fd) (mR : mg "range" = none)
    (GX : FnOk P w K mg base CX0 3 fX fdX ["_law_state", "_law_below"] (spNext K)) (bX : Binds K fdX ["_law_state", "_law_below"] []) (mX : mg "_law_next" = some (.ref fX)) (kX : PySem.W.keepIn K (.ref fX) = true) :
    FnOk P w K mg base CX0 4 f fd ["_law_state"] (spLN K) := by
  refine F.ok scLN (fun vs H Q E h => ?_) (fun cdv A outer s H vs Q E hr h => ?_)
  · obtain ⟨st, a, ns, b, n, rfl, _⟩ := h
    rfl
  · obtain ⟨st, a, ns, b, n, rfl, hS, q⟩ := h
    refine ⟨_, pss_cons (ps_set (i := 1) scLN.nd rfl (.inr rfl) (pe_lst (pa_cons pe_str (pa_cons pe_str (pa_cons pe_str (pa_cons pe_str (pa_cons pe_str pa_nil)))))))
      (pss_one (ps_ret (pe_lc (own := [("_law_turn", 2)]) (g := gName 2) (tt := tYes) (te := tOp (rIxL K) (tVar 1) (tCall (spNext K) [] E0 (tCons (tVar 0) (tCons (tC (.int 5)) tNil)))) rfl scLN.nd
        (pi_range1 (by rfl) mR (pa_cons (pe_call GX hr (by rfl) mX kX bX .nil pass0 (pa_cons (pv 0) (pa_cons pe_int pa_nil))) pa_nil))
        (blkOk_by (N := ["_law_state", "_law_every", "_law_turn"]) (sc := defScope sLNames) (by decide +kernel)) (fun _ _ _ _ _ => pg_name (i := 2) scLN.nd rfl (Or.inl rfl)) (fun _ _ _ _ _ => pts_nil)
        (fun _ _ _ _ _ => pe_ix ix_list (pv 1) (pe_call GX hr (by rfl) mX kX bX .nil pass0 (pa_cons (pv 0) (pa_cons pe_int pa_nil))) (fun _ _ => rfl))))), ?_⟩
    refine ⟨by show 5 ≤ sizeLine; rw [sizeLine_eq]; decide, fun e ne => ?_⟩
    have hS0 : Sta K (upd H e (.lst (five.map V.str))) st a ns b n := hS.same (same_new ne)
    refine ⟨.ref st, rfl, st, a, ns, b, n, 6, rfl, hS0, by decide, fun r H1 r0 r1 x1 hS1 => ⟨r, rfl, by omega, by omega, fun D nD => ?_⟩⟩
    have nes : e ≠ st := fun z => by
      rw [z] at ne
      rw [hS.ob] at ne
      cases ne
    have e1 : H1 e = some (.lst (five.map V.str)) := x1 _ _ upd_same nes
    have hx : SameX st H H1 := (SameX.of (same_new ne)).trans x1
    have nDs : D ≠ st := fun z => by
      rw [z, hS1.ob] at nD
      cases nD
    have nDe : D ≠ e := fun z => by
      rw [z, e1] at nD
      cases nD
    have nHD : H D = none := by
      cases z : H D with
      | none => rfl
      | some o =>
        have := hx D o z nDs
        rw [nD] at this
        cases this
    have off : ∀ H' : Hp, SameX st H1 H' → ∀ o, SameX st H1 (upd H' D o) := fun H' sx o y u hy hn => by
      rw [upd_ne (ne_of_none hy nD)]
      exact sx y u hy hn
    refine lc_it walk_range (fun i H' => ∃ zs : List Str, zs.length = i ∧ (∀ z ∈ zs, z ∈ five) ∧ SameX st H1 H' ∧ H' st = some (.lst [.ref a, .int b, .int ((n + 1 + i : Nat) : Int)]) ∧ H' D = some (.lst (zs.map V.str))) ?_ (fun _ _ _ _ => trivial) (fun i x H2 H3 hi hP hY => ?_) (fun H2 hP => ?_)
    · refine ⟨[], rfl, fun _ z => (by cases z), off _ (SameX.refl _ _) _, ?_, upd_same⟩
      rw [upd_ne nDs.symm]
      exact hS1.ob
    · obtain ⟨rfl, rfl⟩ := hY
      obtain ⟨zs, lz, mz, sx, eS, eD⟩ := hP
      have hS2 : Sta K H3 st a ns b (n + 1 + i) := hS1.move sx eS
      refine ⟨rfl, .ref e, rfl, .ref st, rfl, st, a, ns, b, _, 5, rfl, hS2, by decide, fun v H4 v0 v1 x4 hS4 => ?_⟩
      have lt : v.toNat < five.length := by
        show v.toNat < 5
        omega
      have ev : atI (five.map V.str) v = some (.str five[v.toNat]) := by
        have := atI_nat (xs := five.map V.str) (j := v.toNat) (v := .str five[v.toNat]) (by rw [List.getElem?_map, List.getElem?_eq_getElem lt]; rfl)
        rw [Int.toNat_of_nonneg v0] at this
        exact this
      refine ⟨e, _, v, _, rfl, rfl, .inl (.inl (x4 _ _ (sx _ _ e1 nes) nes)), ev, zs.map V.str, x4 _ _ eD nDs, ?_, zs ++ [five[v.toNat]], ?_, ?_, off _ (sx.trans x4) _, ?_, ?_⟩
      · rw [List.length_map, lz, sizeLine_eq]
        omega
      · rw [List.length_append, lz]
        rfl
      · intro z hz
        rcases List.mem_append.mp hz with u | u
        · exact mz z u
        · rw [List.mem_singleton.mp u]
          exact List.getElem_mem lt
      · rw [upd_ne nDs.symm]
        exact hS4.ob
      · rw [upd_same, List.map_append]
        rfl
    · obtain ⟨zs, lz, mz, sx, eS, eD⟩ := hP
      exact q zs D _ H2 mz (by omega) (hx.trans sx) (hS1.move sx eS) nHD eD
/-! ### _law_made -/
def spMade (C : Addr) (m : Nat) : Sp := fun vs H Q _ => ∃ (l : Addr) (zs : List Str), vs = [.ref l] ∧ H l = some (.lst (zs.map V.str)) ∧ zs.length ≤ m ∧ (∀ z ∈ zs, isNm z = true) ∧ ∀ H' c, Same H H' → LkAt C H' c (srt zs) → Q (.ref c) H'
theorem scMade : FnScope ["_law_names_here"] ["_law_names_here"] (defScope sMade) := ⟨rfl, rfl, rfl, by decide +kernel, rfl, by decide +kernel, by decide +kernel⟩
theorem new_of {H : Hp} {Q : VK} {zs : List Str} (nm : ∀ z ∈ zs, isNm z = true) (few : zs.length < 64) (q : ∀ H' c, Same H H' → LkAt C H' c (srt zs) → Q (.ref c) H') :
    ∀ x dx, H x = none → H dx = none → dx ≠ x → spNew C (V.ref x :: zs.map V.str) (upd (upd H dx (.own x)) x (.ins C dx [])) (fun v H2 => v = .non ∧ Q (.ref x) H2) E0 := fun x dx nx nd ne =>
  ⟨x, dx, zs, rfl, upd_same, nm, few, fun H' t kp e1 e2 => ⟨rfl, by
    obtain ⟨s2, m2⟩ := made_at nx nd ne nm kp e1 e2
    exact q H' x s2 m2⟩⟩
theorem at_strs {zs : List Str} {i : Nat} {z : Str} (h : zs[i]? = some z) : atI (zs.map V.str) (i : Int) = some (.str z) := atI_nat (by rw [List.getElem?_map, h]; rfl)
theorem two_of {zs : List Str} (h : zs.length = 2) : ∃ z y, zs = [z, y] := by
  match zs, h with
  | [z, y], _ => exact ⟨z, y, rfl⟩
theorem more_of {zs : List Str} (h : 3 ≤ zs.length) : ∃ x y z r, zs = x :: y :: z :: r := by
  match zs, h with
  | x :: y :: z :: r, _ => exact ⟨x, y, z, r, rfl⟩
  | [], h => simp at h
  | [_], h => simp at h
  | [_, _], h => simp at h
theorem eqv_nil (zs : List Str) : PyData.eqv (.list (zs.map PyData.str)) (.list []) = decide (zs = []) := by
  have := eqvAll_strs zs []
  rw [PyData.eqv]
  exact this
theorem ok_made0 {f fI : Addr} {fd : FuncData} (F : Fun K "_law_made" "_law_made" sMade f fd) (B : Blt mg) (T : LkC K mg C) (M : Mk K C fI) (GI : FnR P w K mg base CX0 2 fI (spNew C)) : FnOk P w K mg base CX0 4 f fd ["_law_names_here"] (spMade C 2) := by
  refine F.ok scMade (fun vs H Q E h => ?_) (fun cdv A outer s H vs Q E hr h => ?_)
  · obtain ⟨l, zs, rfl, _⟩ := h
    rfl
  · obtain ⟨l, zs, rfl, hl, few, nm, q⟩ := h
    refine ⟨_, pss_cons (ps_if (pt_cmpR (op_eqD hr.units) (pv 0) (pe_lst pa_nil) (nomark _)) (pss_one (ps_ret (pe_makeR0 (E := E0) M GI hr (by rfl) T.mgC pass0))) pss_nil)
      (pss_cons (ps_if (pt_cmpR op_eq (pe_callB call_len_seq (by rfl) B.len PySem.boot_len (pa_cons (pv 0) pa_nil)) pe_int (nomark _)) (pss_one (ps_ret (StX.pe_makeR (E := E0) M GI hr (by rfl) T.mgC pass0 (pa_cons (pe_ix ix_list (pv 0) pe_int (fun _ _ => rfl)) pa_nil)))) pss_nil)
      (pss_cons (ps_if (pt_cmpR op_eq (pe_callB call_len_seq (by rfl) B.len PySem.boot_len (pa_cons (pv 0) pa_nil)) pe_int (nomark _)) (pss_one (ps_ret (StX.pe_makeR (E := E0) M GI hr (by rfl) T.mgC pass0 (pa_cons (pe_ix ix_list (pv 0) pe_int (fun _ _ => rfl)) (pa_cons (pe_ix ix_list (pv 0) pe_int (fun _ _ => rfl)) pa_nil))))) pss_nil)
      (pss_one ps_never))), ?_⟩
    refine ⟨.ref l, rfl, Nat.zero_le _, fun p np => ⟨_, _, .lst ((same_new np).seq (.inl (.inl hl))) (dp_strs zs), .lst (.inl (.inl upd_same)) .nil, shaped_strsL fun z hz => nm_ok (nm z hz), by decide +kernel, _, rfl, ?_⟩⟩
    rw [eqv_nil]
    have sm := same_new (o := .lst []) np
    have q1 : ∀ H' c, Same (upd H p (.lst [])) H' → LkAt C H' c (srt zs) → Q (.ref c) H' := fun H' c s => q H' c (sm.trans s)
    have hl1 : SqL K (upd H p (.lst [])) l (zs.map V.str) := sm.seq (.inl (.inl hl))
    refine ite2 (fun e => ?_) (fun e => ?_)
    · have ez : zs = [] := of_decide_eq_true e
      subst ez
      exact new_of (zs := []) nm (by decide) q1
    · have n0 : zs ≠ [] := fun z => e (decide_eq_true z)
      refine ⟨.ref l, rfl, l, _, rfl, .inl hl1, rfl, _, rfl, ite2 (fun e1 => ?_) (fun e1 => ?_)⟩
      · have l1 := V.int.inj (of_decide_eq_true e1)
        rw [List.length_map] at l1
        obtain ⟨z, rfl⟩ : ∃ z, zs = [z] := List.length_eq_one_iff.mp (by omega)
        exact ⟨.ref l, rfl, l, _, 0, _, rfl, rfl, hl1, rfl, new_of (zs := [z]) nm (by simp) q1⟩
      · refine ⟨.ref l, rfl, l, _, rfl, .inl hl1, rfl, _, rfl, ite2 (fun e2 => ?_) (fun e2 => ?_)⟩
        · have l2 := V.int.inj (of_decide_eq_true e2)
          rw [List.length_map] at l2
          obtain ⟨z, y, rfl⟩ : ∃ z y, zs = [z, y] := two_of (by omega)
          exact ⟨.ref l, rfl, l, _, 0, _, rfl, rfl, hl1, rfl, .ref l, rfl, l, _, 1, _, rfl, rfl, hl1, rfl, new_of (zs := [z, y]) nm (by simp) q1⟩
        · exfalso
          have k1 : zs.length ≠ 1 := fun z => e1 (decide_eq_true (by rw [List.length_map, z]; rfl))
          have k2 : zs.length ≠ 2 := fun z => e2 (decide_eq_true (by rw [List.length_map, z]; rfl))
          have k0 : zs.length ≠ 0 := fun z => n0 (List.eq_nil_of_length_eq_zero z)
          omega
theorem cut3 (xs : List V) (h : 3 ≤ xs.length) : cutV xs (some 3) none = xs.drop 3 := by
  unfold cutV
  rw [show HT.sIx xs.length 0 (some 3) = min 3 xs.length from HT.sIx_nat xs.length 0 3, HT.sIx_none, Nat.min_eq_left h]
  exact List.take_of_length_le (by rw [List.length_drop]; exact Nat.le_refl _)
theorem ok_made1 {f fI fO : Addr} {fd fdO : FuncData} (F : Fun K "_law_made" "_law_made" sMade f fd) (B : Blt mg) (T : LkC K mg C) (M : Mk K C fI) (GI : FnR P w K mg base CX0 2 fI (spNew C)) (bF : Binds K fd ["_law_names_here"] []) (mF : mg "_law_made" = some (.ref f))
    (mO : OwnM K C fO (PySem.dunder Operator.BitOr.info.2)) (GO : FnOk P w K mg base CX0 4 fO fdO ["self", "other"] (spBin C gOr)) (bO : Binds K fdO ["self", "other"] []) : FnOk P w K mg base CX0 5 f fd ["_law_names_here"] (spMade C 5) := by
  have G0 : FnOk P w K mg base CX0 4 f fd ["_law_names_here"] (spMade C 2) := ok_made0 F B T M GI
  refine F.ok scMade (fun vs H Q E h => ?_) (fun cdv A outer s H vs Q E hr h => ?_)
  · obtain ⟨l, zs, rfl, _⟩ := h
    rfl
  · obtain ⟨l, zs, rfl, hl, few, nm, q⟩ := h
    have hr3 := hr.mono (show 3 ≤ 4 by decide)
    refine ⟨_, pss_cons (ps_if (pt_cmpR (op_eqD hr.units) (pv 0) (pe_lst pa_nil) (nomark _)) (pss_one (ps_ret (pe_makeR0 (E := E0) M GI hr3 (by rfl) T.mgC pass0))) pss_nil)
      (pss_cons (ps_if (pt_cmpR op_eq (pe_callB call_len_seq (by rfl) B.len PySem.boot_len (pa_cons (pv 0) pa_nil)) pe_int (nomark _)) (pss_one (ps_ret (StX.pe_makeR (E := E0) M GI hr3 (by rfl) T.mgC pass0 (pa_cons (pe_ix ix_list (pv 0) pe_int (fun _ _ => rfl)) pa_nil)))) pss_nil)
      (pss_cons (ps_if (pt_cmpR op_eq (pe_callB call_len_seq (by rfl) B.len PySem.boot_len (pa_cons (pv 0) pa_nil)) pe_int (nomark _)) (pss_one (ps_ret (StX.pe_makeR (E := E0) M GI hr3 (by rfl) T.mgC pass0 (pa_cons (pe_ix ix_list (pv 0) pe_int (fun _ _ => rfl)) (pa_cons (pe_ix ix_list (pv 0) pe_int (fun _ _ => rfl)) pa_nil))))) pss_nil)
      (pss_one (ps_ret (pe_op (op_own (E := E0) T.sf mO GO hr bO pass0) (StX.pe_makeR (E := E0) M GI hr3 (by rfl) T.mgC pass0 (pa_cons (pe_ix ix_list (pv 0) pe_int (fun _ _ => rfl)) (pa_cons (pe_ix ix_list (pv 0) pe_int (fun _ _ => rfl)) (pa_cons (pe_ix ix_list (pv 0) pe_int (fun _ _ => rfl)) pa_nil))))
        (pe_call G0 hr (by rfl) mF F.kp bF .nil pass0 (pa_cons (pe_slice sl_list (pv 0) (po_some pe_int) po_none) pa_nil))))))), ?_⟩
    refine ⟨.ref l, rfl, Nat.zero_le _, fun p np => ⟨_, _, .lst ((same_new np).seq (.inl (.inl hl))) (dp_strs zs), .lst (.inl (.inl upd_same)) .nil, shaped_strsL fun z hz => nm_ok (nm z hz), by decide +kernel, _, rfl, ?_⟩⟩
    rw [eqv_nil]
    have sm := same_new (o := .lst []) np
    have q1 : ∀ H' c, Same (upd H p (.lst [])) H' → LkAt C H' c (srt zs) → Q (.ref c) H' := fun H' c s => q H' c (sm.trans s)
    have hl1 : SqL K (upd H p (.lst [])) l (zs.map V.str) := sm.seq (.inl (.inl hl))
    refine ite2 (fun e => ?_) (fun e => ?_)
    · have ez : zs = [] := of_decide_eq_true e
      subst ez
      exact new_of (zs := []) nm (by decide) q1
    · have n0 : zs ≠ [] := fun z => e (decide_eq_true z)
      refine ⟨.ref l, rfl, l, _, rfl, .inl hl1, rfl, _, rfl, ite2 (fun e1 => ?_) (fun e1 => ?_)⟩
      · have l1 := V.int.inj (of_decide_eq_true e1)
        rw [List.length_map] at l1
        obtain ⟨z, rfl⟩ : ∃ z, zs = [z] := List.length_eq_one_iff.mp (by omega)
        exact ⟨.ref l, rfl, l, _, 0, _, rfl, rfl, hl1, rfl, new_of (zs := [z]) nm (by simp) q1⟩
      · refine ⟨.ref l, rfl, l, _, rfl, .inl hl1, rfl, _, rfl, ite2 (fun e2 => ?_) (fun e2 => ?_)⟩
        · have l2 := V.int.inj (of_decide_eq_true e2)
          rw [List.length_map] at l2
          obtain ⟨z, y, rfl⟩ : ∃ z y, zs = [z, y] := two_of (by omega)
          exact ⟨.ref l, rfl, l, _, 0, _, rfl, rfl, hl1, rfl, .ref l, rfl, l, _, 1, _, rfl, rfl, hl1, rfl, new_of (zs := [z, y]) nm (by simp) q1⟩
        · have k1 : zs.length ≠ 1 := fun z => e1 (decide_eq_true (by rw [List.length_map, z]; rfl))
          have k2 : zs.length ≠ 2 := fun z => e2 (decide_eq_true (by rw [List.length_map, z]; rfl))
          have k0 : zs.length ≠ 0 := fun z => n0 (List.eq_nil_of_length_eq_zero z)
          obtain ⟨x, y, z, r, rfl⟩ := more_of (zs := zs) (by omega)
          have lr : r.length ≤ 2 := by
            simp only [List.length_cons] at few
            omega
          have nmr : ∀ u ∈ r, isNm u = true := fun u hu => nm u (List.mem_cons_of_mem _ (List.mem_cons_of_mem _ (List.mem_cons_of_mem _ hu)))
          have nm3 : ∀ u ∈ [x, y, z], isNm u = true := fun u hu => nm u (by
            simp only [List.mem_cons, List.not_mem_nil, or_false] at hu ⊢
            rcases hu with a | a | a
            · exact .inl a
            · exact .inr (.inl a)
            · exact .inr (.inr (.inl a)))
          refine ⟨.ref l, rfl, l, _, 0, .str x, rfl, rfl, hl1, at_strs (i := 0) rfl, .ref l, rfl, l, _, 1, .str y, rfl, rfl, hl1, at_strs (i := 1) rfl, .ref l, rfl, l, _, 2, .str z, rfl, rfl, hl1, at_strs (i := 2) rfl, fun c1 e1 nx nd ne => ⟨c1, e1, [x, y, z], rfl, upd_same, nm3, by simp, fun H1 t1 kp f1 f2 => ⟨rfl, ?_⟩⟩⟩
          obtain ⟨s1, m1⟩ := made_at nx nd ne nm3 kp f1 f2
          refine ⟨.ref l, rfl, 3, rfl, l, _, rfl, s1.seq hl1, fun p2 np2 => ?_⟩
          have s2 := same_new (o := .lst (cutV ((x :: y :: z :: r).map V.str) (some 3) none)) np2
          refine ⟨p2, r, rfl, ?_, lr, nmr, fun H3 c2 s3 m2 => ?_⟩
          · rw [upd_same, cut3 _ (by simp)]
            rfl
          · have m1' := (m1.same s2).same s3
            have few3 : (srt [x, y, z]).length + (srt r).length < 64 := by
              have a1 := len_srt [x, y, z]
              have a2 := len_srt r
              simp only [List.length_cons, List.length_nil] at a1
              omega
            obtain ⟨⟨dx1, t1, g1, _⟩, _, _⟩ := id m1'
            obtain ⟨⟨dx2, t2, g2, _⟩, _, _⟩ := id m2
            refine ⟨c1, dx1, _, c2, dx2, _, rfl, rfl, g1, g2, c1, c2, _, _, rfl, m1', m2, few3, fun H4 c3 s4 m3 => ?_⟩
            refine q1 H4 c3 (s1.trans (s2.trans (s3.trans s4))) ?_
            have e3 : gOr (srt [x, y, z]) (srt r) = srt (x :: y :: z :: r) := srt_eq fun u => by
              rw [List.mem_append, mem_srt, mem_srt, ← List.mem_append]
              rfl
            rw [e3] at m3
            exact m3
end
end Lw
set_option Elab.async false
set_option linter.all false
set_option maxRecDepth 100000
set_option maxHeartbeats 4000000
namespace Lw
open PySem PySem.Spec PyProof.Rows L2 TxS LkO Lk
/-- what the methods of Locks promise -/
structure Ops (P : Program) (w : World) (K : PySem.W.Frag) (mg : Str → Option Value) (base : Heap) (C : Addr) : Prop where
  or_ : ∃ f fd, OwnM K C f (PySem.dunder Operator.BitOr.info.2) ∧ FnOk P w K mg base CX0 4 f fd ["self", "other"] (spBin C gOr) ∧ Binds K fd ["self", "other"] []
  and_ : ∃ f fd, OwnM K C f (PySem.dunder Operator.BitAnd.info.2) ∧ FnOk P w K mg base CX0 4 f fd ["self", "other"] (spBin C gAnd) ∧ Binds K fd ["self", "other"] []
  sub_ : ∃ f fd, OwnM K C f (PySem.dunder Operator.Sub.info.2) ∧ FnOk P w K mg base CX0 4 f fd ["self", "other"] (spBin C gSub) ∧ Binds K fd ["self", "other"] []
  eq_ : ∃ f fd, OwnM K C f "__eq__" ∧ FnOk P w K mg base CX0 1 f fd ["self", "other"] (spEqL C) ∧ Binds K fd ["self", "other"] []
  has : ∃ f fd, OwnM K C f "__contains__" ∧ FnOk P w K mg base CX0 1 f fd ["self", "name"] (spHas C) ∧ Binds K fd ["self", "name"] []
  len : ∃ f fd, OwnM K C f "__len__" ∧ FnOk P w K mg base CX0 1 f fd ["self"] (spLen C) ∧ Binds K fd ["self"] []
  nms : ∃ p f fd, PropOf K C "names" p f ∧ FnOk P w K mg base CX0 1 f fd ["self"] (spNames C) ∧ Binds K fd ["self"] []
  hol : ∃ f fd, Meth K C "holds" f ∧ FnOk P w K mg base CX0 2 f fd ["self", "other"] (spHolds C) ∧ Binds K fd ["self", "other"] []
def six : List Str := ["gate", "b", "abcdefgh", "front", "a", "z"]
theorem neStr (a b : Nat) : (!decide (V.int (a : Int) = V.int (b : Int))) = !decide (a = b) := by
  by_cases h : a = b
  · subst h
    simp
  · rw [decide_eq_false h, decide_eq_false (fun z => h (by have := V.int.inj z; omega))]
section
variable {P : Program} {w : World} {K : PySem.W.Frag} {mg : Str → Option Value} {base : Heap} {C : Addr}
/-! ### _law_stands -/
def spStands (C : Addr) : Sp := fun vs H Q _ => ∃ (a l : Addr) (xs : List Str), vs = [.ref a, .ref l] ∧ LkAt C H a (srt xs) ∧ H l = some (.lst (xs.map V.str)) ∧ xs.length < 64 ∧ (∀ z ∈ xs, isNm z = true) ∧ ∀ H', Same H H' → Q (.bl true) H'
theorem scStands : FnScope ["_law_whole", "_law_names_here", "_law_due", "_law_every", "_law_name"] ["_law_whole", "_law_names_here"] (defScope sStands) := ⟨rfl, rfl, rfl, by decide +kernel, rfl, by decide +kernel, by decide +kernel⟩
theorem ok_stands {f : Addr} {fd : FuncData} (F : Fun K "_law_stands" "_law_stands" sStands f fd) (B : Blt mg) (T : LkC K mg C) (O : Ops P w K mg base C) : FnOk P w K mg base CX0 6 f fd ["_law_whole", "_law_names_here"] (spStands C) := by
  obtain ⟨pN, fN, fdN, PN, GN, bN⟩ := O.nms
  obtain ⟨fL, fdL, mL, GL, bL⟩ := O.len
  obtain ⟨fH, fdH, mH, GH, bH⟩ := O.has
  refine F.ok scStands (fun vs H Q E h => ?_) (fun cdv A outer s H vs Q E hr h => ?_)
  · obtain ⟨a, l, xs, rfl, _⟩ := h
    rfl
  · obtain ⟨a, l, xs, rfl, ha, hl, few, nm, q⟩ := h
    refine ⟨_, pss_cons (ps_set (i := 2) scStands.nd rfl (.inr rfl) (pe_callB (cr_sortX rfl) (by rfl) B.srt PyProof.Rows.boot_sorted (pa_cons (pe_callTy (cr_setX rfl) (by rfl) B.set PyProof.Rows.boot_set (pa_cons (pv 1) pa_nil)) pa_nil)))
      (pss_cons (ps_if (PW.pt (pw_or (pt_cmpR (op_neD hr.units) (pe_prop (E := E0) (pv 0) T.cl PN GN (hr.mono (by decide)) bN .nil pass0 rfl) (pv 2) (nomark _))
        (pw_or (pt_cmpR op_ne (pe_callB (cr_ownLen (E := E0) mL GL (hr.mono (by decide)) bL pass0) (by rfl) B.len PySem.boot_len (pa_cons (pv 0) pa_nil)) (pe_callB call_len_seq (by rfl) B.len PySem.boot_len (pa_cons (pv 2) pa_nil)) (nomark _))
        (pw_or1 (pt_cmpR op_ne (pe_callTy (cr_ownBool (E := E0) T.nb mL GL hr bL pass0) (by rfl) B.bl PyProof.Rows.boot_bool (pa_cons (pv 0) pa_nil)) (pe_cmpR (op_neD hr.units) (pv 2) (pe_lst pa_nil) (nomark _)) (nomark _))))))
        (pss_one (ps_ret pe_bl)) pss_nil)
      (pss_cons (ps_set (i := 3) scStands.nd rfl (.inl rfl) (pe_lst (pa_cons pe_str (pa_cons pe_str (pa_cons pe_str (pa_cons pe_str (pa_cons pe_str (pa_cons pe_str pa_nil))))))))
      (pss_one (ps_ret (pe_callB (cr_all rfl) (by rfl) B.all PyProof.Rows.boot_all (pa_cons (pe_lc (own := [("_law_name", 4)]) (g := gName 4) (tt := tYes) (te := tOp rEq (tOp (rOwnIn C (spHas C) E0 false) (tVar 4) (tVar 0)) (tOp (rIn K false) (tVar 4) (tVar 2))) rfl scStands.nd (pi_list (pv 3))
        (blkOk_by (N := ["_law_whole", "_law_names_here", "_law_due", "_law_every", "_law_name"]) (sc := defScope sStands) (by decide +kernel)) (fun _ _ _ _ _ => pg_name (i := 4) scStands.nd rfl (Or.inl rfl)) (fun _ _ _ _ _ => pts_nil)
        (fun _ _ _ _ _ => pe_cmpR op_eq (pe_cmpR (op_ownIn (E := E0) mH GH (hr.mono (by decide)) bH pass0) (pv 4) (pv 0) rfl) (pe_cmpR op_in_seq (pv 4) (pv 2) rfl) (nomark _))) pa_nil)))))), ?_⟩
    -- due = sorted(set(names))
    refine ⟨.ref l, rfl, l, xs, rfl, .inr (.inl (.inl hl)), by (have : scanBound = 4096 := rfl); omega, fun t c hc nt => ⟨t, _, c, rfl, upd_same, by omega, fun ys u hA hm hy nu => ?_⟩⟩
    have ey : ys = srt xs := srt_of hA fun z => by rw [hm z, decide_eq_true_eq]
    subst ey
    have s1 : Same H (upd (upd H t (SetXO w t (fun y => decide (y ∈ xs)) c)) u (.lst ((srt xs).map V.str))) := (same_new nt).trans (same_new nu)
    have ha1 := ha.same s1
    have nms : ∀ z ∈ srt xs, PyData.strOk z = true := fun z hz => nm_ok (nm z ((mem_srt xs z).1 hz))
    obtain ⟨⟨dx, tk, g1, g2⟩, ga, gn⟩ := id ha1
    -- whole.names != due
    refine ⟨.ref a, rfl, a, dx, _, rfl, g1, a, _, rfl, ha1, fun v nv => ?_⟩
    have s2 := same_new (o := .lst ((srt xs).map V.str)) nv
    have e2 := s2 _ _ (upd_same (H := upd H t (SetXO w t (fun y => decide (y ∈ xs)) c)) (a := u) (o := .lst ((srt xs).map V.str)))
    refine ⟨.ref u, rfl, _, _, .lst (.inl (.inl upd_same)) (dp_strs _), .lst (.inl (.inl e2)) (dp_strs _), shaped_strsL nms, shaped_strsL nms, _, rfl, ?_⟩
    rw [PyData.eqv, eqvAll_strs, decide_eq_true rfl]
    refine iteF ?_
    -- len(whole) != len(due)
    have ha2 := ha1.same s2
    obtain ⟨⟨dx2, tk2, k1, k2⟩, ka, kn⟩ := id ha2
    have lx : (srt xs).length ≤ sizeLine := Nat.le_trans (len_srt xs) (by rw [sizeLine_eq]; omega)
    refine ⟨.ref a, rfl, a, dx2, _, rfl, k1, a, _, rfl, ha2, _, rfl, lx, .ref u, rfl, u, _, rfl, .inl (.inl (.inl e2)), rfl, _, rfl, ?_⟩
    rw [List.length_map, neStr, decide_eq_true rfl]
    refine iteF ?_
    -- bool(whole) != (due != [])
    refine ⟨.ref a, rfl, a, dx2, _, rfl, k1, a, _, rfl, ha2, _, rfl, lx, .ref u, rfl, Nat.zero_le _, fun x nx => ?_⟩
    have s3 := same_new (o := .lst []) nx
    refine ⟨_, _, .lst (.inl (.inl (s3 _ _ e2))) (dp_strs _), .lst (.inl (.inl upd_same)) .nil, shaped_strsL nms, by decide +kernel, rfl, _, rfl, ?_⟩
    rw [eqv_nil]
    have eb : ((srt xs).length != 0) = !decide (srt xs = []) := by
      cases z : srt xs with
      | nil => rfl
      | cons p r => simp
    have e3 : (!decide ((fun n : Nat => V.bl (n != 0)) (srt xs).length = V.bl (!decide (srt xs = [])))) = false := by
      show (!decide (V.bl ((srt xs).length != 0) = V.bl (!decide (srt xs = [])))) = false
      rw [eb, decide_eq_true rfl]
      rfl
    rw [e3]
    -- every, all
    refine ⟨by show 6 ≤ sizeLine; rw [sizeLine_eq]; decide, fun ev nev => ?_⟩
    have s4 := same_new (o := .lst (six.map V.str)) nev
    have eu := s4 _ _ (s3 _ _ e2)
    have ha4 := (ha2.same s3).same s4
    have st := s1.trans (s2.trans (s3.trans s4))
    refine ⟨.ref ev, rfl, ev, rfl, ⟨_, .inl (.inl upd_same)⟩, fun D nD => lc_it (walk_list (xs := six.map V.str)) (fun i H' => Grow (upd (upd (upd (upd (upd H t (SetXO w t (fun y => decide (y ∈ xs)) c)) u (.lst ((srt xs).map V.str))) v (.lst ((srt xs).map V.str))) x (.lst [])) ev (.lst (six.map V.str))) D ((six.map fun z => V.bl true).take i) H')
      (grow0 nD) (fun i H' _ hP => hP.1.seq (.inl (.inl upd_same))) (fun i y H2 H3 hi hP hY => ?_) (fun H2 hP => ?_)⟩
    · obtain ⟨rfl, hy'⟩ := hY
      obtain ⟨z, hz, rfl⟩ := at_map hy'
      have ha5 := ha4.same hP.1
      obtain ⟨⟨dx5, tk5, p1, p2⟩, pa, pn⟩ := id ha5
      refine ⟨rfl, .str z, rfl, .ref a, rfl, a, dx5, _, rfl, p1, a, _, z, rfl, ha5, _, rfl, .str z, rfl, .ref u, rfl, u, _, rfl, .inl (.inl (.inl (hP.1 _ _ eu))), rfl, Lk.flat_strs _, rfl, grow1 nD hP ?_ ?_⟩
      · rw [List.length_take]
        exact Nat.lt_of_le_of_lt (Nat.min_le_right _ _) (by rw [List.length_map]; show 6 < sizeLine; rw [sizeLine_eq]; decide)
      · rw [take_next hz, inV_str, decide_eq_true rfl]
    · obtain ⟨sm, hD⟩ := hP
      rw [List.length_map, List.take_of_length_le (by rw [List.length_map]; exact Nat.le_refl _)] at hD
      refine ⟨D, six.map fun z => true, rfl, .inl (.inl (by rw [List.map_map]; exact hD)), ?_⟩
      exact q _ (st.trans sm)
end
end Lw
set_option Elab.async false
set_option linter.all false
set_option maxRecDepth 100000
set_option maxHeartbeats 4000000
namespace Lw
open PySem PySem.Spec PyProof.Rows L2 TxS LkO Lk
/-! ### the mathematics -/
theorem m_or (a b : List Str) : gOr (srt a) (srt b) = srt (a ++ b) := srt_eq fun z => by rw [List.mem_append, mem_srt, mem_srt, List.mem_append]
theorem m_and (a b : List Str) : gAnd (srt a) (srt b) = srt (a.filter fun z => decide (z ∈ b)) := srt_of (asc_filter _ (asc_srt a)) fun z => by
  unfold gAnd
  rw [List.mem_filter, List.mem_filter, mem_srt, decide_eq_true_eq, decide_eq_true_eq, mem_srt]
theorem m_sub (a b : List Str) : Lk.gSub (srt a) (srt b) = srt (a.filter fun z => !decide (z ∈ b)) := srt_of (asc_filter _ (asc_srt a)) fun z => by
  unfold Lk.gSub
  rw [List.mem_filter, List.mem_filter, mem_srt, Bool.not_eq_true', Bool.not_eq_true', decide_eq_false_iff_not, decide_eq_false_iff_not, mem_srt]
theorem m_hold (a b : List Str) : ((srt b).all fun z => decide (z ∈ srt a)) = b.all fun z => decide (z ∈ a) := by
  rw [Bool.eq_iff_iff, List.all_eq_true, List.all_eq_true]
  constructor
  · intro h z hz
    have := of_decide_eq_true (h z ((mem_srt b z).2 hz))
    exact decide_eq_true ((mem_srt a z).1 this)
  · intro h z hz
    have := of_decide_eq_true (h z ((mem_srt b z).1 hz))
    exact decide_eq_true ((mem_srt a z).2 this)
theorem m_eq {a b : List Str} {k : Bool} (h : k = true ↔ ∀ z, decide (z ∈ a) = decide (z ∈ b)) : decide (srt a = srt b) = k := by
  rw [Bool.eq_iff_iff, decide_eq_true_eq, h, srt_iff]
  constructor
  · intro e z
    by_cases q : z ∈ a
    · rw [decide_eq_true q, decide_eq_true ((e z).1 q)]
    · rw [decide_eq_false q, decide_eq_false (fun u => q ((e z).2 u))]
  · intro e z
    have := e z
    constructor
    · intro q
      rw [decide_eq_true q] at this
      exact of_decide_eq_true this.symm
    · intro q
      rw [decide_eq_true q] at this
      exact of_decide_eq_true this
theorem m_one {zs ws : List Str} (hz : Asc zs) (hw : Asc ws) : Lk.gSub (gOr zs ws) zs = Lk.gSub ws zs := asc_same (asc_filter _ (asc_srt _)) (asc_filter _ hw) fun z => by
  unfold Lk.gSub gOr
  rw [List.mem_filter, List.mem_filter, mem_srt, List.mem_append, Bool.not_eq_true', decide_eq_false_iff_not]
  constructor
  · rintro ⟨h | h, k⟩
    · exact absurd h k
    · exact ⟨h, k⟩
  · rintro ⟨h, k⟩
    exact ⟨.inr h, k⟩
theorem m_two {zs ws : List Str} (hz : Asc zs) : gOr (gAnd zs ws) (Lk.gSub zs ws) = zs := (srt_of hz fun z => by
  unfold gAnd Lk.gSub
  rw [List.mem_append, List.mem_filter, List.mem_filter, decide_eq_true_eq, Bool.not_eq_true', decide_eq_false_iff_not]
  by_cases k : z ∈ ws <;> simp [k]).symm
theorem len_gOr (a b : List Str) : (gOr a b).length ≤ a.length + b.length := by
  have := len_srt (a ++ b)
  rw [List.length_append] at this
  exact this
theorem len_gAnd (a b : List Str) : (gAnd a b).length ≤ a.length := List.length_filter_le _ _
theorem len_gSub (a b : List Str) : (Lk.gSub a b).length ≤ a.length := List.length_filter_le _ _
theorem look_holds (t : Addr) : List.lookup ("holds" : Str) ([(("kept_names" : Str), V.ref t)] : List (Str × V)) = none := by
  rw [List.lookup_cons, show (("holds" : Str) == ("kept_names" : Str)) = false by decide +kernel]
  rfl
/-- what stands while the law compares -/
structure Here (C : Addr) (H0 : Hp) (st l1 l2 left right : Addr) (one oth : List Str) (H : Hp) : Prop where
  sx : SameX st H0 H
  e1 : H l1 = some (.lst (one.map V.str))
  e2 : H l2 = some (.lst (oth.map V.str))
  mL : LkAt C H left (srt one)
  mR : LkAt C H right (srt oth)
theorem Here.same {C : Addr} {H0 : Hp} {st l1 l2 left right : Addr} {one oth : List Str} {H H' : Hp} (h : Here C H0 st l1 l2 left right one oth H) (s : Same H H') : Here C H0 st l1 l2 left right one oth H' :=
  ⟨h.sx.trans (SameX.of s), s _ _ h.e1, s _ _ h.e2, h.mL.same s, h.mR.same s⟩
theorem _root_.Lk.LkAt.ins {C : Addr} {H : Hp} {a : Addr} {zs : List Str} (h : LkAt C H a zs) : ∃ dx t, H a = some (.ins C dx [("kept_names", .ref t)]) := by
  obtain ⟨⟨dx, t, h1, _⟩, _, _⟩ := h
  exact ⟨dx, t, h1⟩
theorem notAll {b c : Bool} (h : b = c) : (!decide (V.bl b = V.bl c)) = false := by
  rw [h, decide_eq_true rfl]
  rfl
section
variable {P : Program} {w : World} {K : PySem.W.Frag} {mg : Str → Option Value} {base : Heap} {C : Addr}
/-! ### _law_one_right -/
def spOne (K : PySem.W.Frag) : Sp := fun vs H Q _ => ∃ (st a : Addr) (ns : List Int) (b n : Nat), vs = [.ref st] ∧ Sta K H st a ns b n ∧ ∀ H', SameX st H H' → Q (.bl true) H'
theorem scOne : FnScope ["_law_state", "_law_one", "_law_other", "_law_left", "_law_right", "_law_name"] ["_law_state"] (defScope sOne) := ⟨rfl, rfl, rfl, by decide +kernel, rfl, by decide +kernel, by decide +kernel⟩
theorem ok_one {f fN fM fS : Addr} {fd fdN fdM fdS : FuncData} (F : Fun K "_law_one_right" "_law_one_right" sOne f fd) (B : Blt mg) (T : LkC K mg C) (O : Ops P w K mg base C)
    (GN : FnOk P w K mg base CX0 4 fN fdN ["_law_state"] (spLN K)) (bN : Binds K fdN ["_law_state"] []) (mN : mg "_law_names" = some (.ref fN)) (kN : PySem.W.keepIn K (.ref fN) = true)
    (GM : FnOk P w K mg base CX0 5 fM fdM ["_law_names_here"] (spMade C 5)) (bM : Binds K fdM ["_law_names_here"] []) (mM : mg "_law_made" = some (.ref fM)) (kM : PySem.W.keepIn K (.ref fM) = true)
    (GS : FnOk P w K mg base CX0 6 fS fdS ["_law_whole", "_law_names_here"] (spStands C)) (bS : Binds K fdS ["_law_whole", "_law_names_here"] []) (mS : mg "_law_stands" = some (.ref fS)) (kS : PySem.W.keepIn K (.ref fS) = true) :
    FnOk P w K mg base CX0 7 f fd ["_law_state"] (spOne K) := by
  obtain ⟨pP, fP, fdP, PP, GP, bP⟩ := O.nms
  obtain ⟨fO, fdO, mO, GO, bO⟩ := O.or_
  obtain ⟨fA, fdA, mA, GA, bA⟩ := O.and_
  obtain ⟨fU, fdU, mU, GU, bU⟩ := O.sub_
  obtain ⟨fE, fdE, mE, GE, bE⟩ := O.eq_
  obtain ⟨fH, fdH, mH, GH, bH⟩ := O.hol
  refine F.ok scOne (fun vs H Q E h => ?_) (fun cdv A outer s H vs Q E hr h => ?_)
  · obtain ⟨st, a, ns, b, n, rfl, _⟩ := h
    rfl
  · obtain ⟨st, a, ns, b, n, rfl, hS, q⟩ := h
    have h4 := hr.mono (show 4 ≤ 6 by decide)
    have h5 := hr.mono (show 5 ≤ 6 by decide)
    have h1 := hr.mono (show 1 ≤ 6 by decide)
    have h2 := hr.mono (show 2 ≤ 6 by decide)
    have blk : ∀ {scope : Scope}, blkC ["_law_state", "_law_one", "_law_other", "_law_left", "_law_right", "_law_name"] (defScope sOne) scope [("_law_name", 5)] = true → BlkOk ["_law_state", "_law_one", "_law_other", "_law_left", "_law_right", "_law_name"] (defScope sOne) scope [("_law_name", 5)] := fun h => blkOk_by h
    refine ⟨_, pss_cons (ps_asg (pe_tup (pa_cons (pe_call GN h4 (by rfl) mN kN bN .nil pass0 (pa_cons (pv 0) pa_nil)) (pa_cons (pe_call GN h4 (by rfl) mN kN bN .nil pass0 (pa_cons (pv 0) pa_nil)) pa_nil)))
        (pg_tup rfl (pgs_cons (pg_name (i := 1) scOne.nd rfl (.inr rfl)) (pgs_cons (pg_name (i := 2) scOne.nd rfl (.inr rfl)) pgs_nil))))
      (pss_cons (ps_par (i := 3) (j := 4) (by rfl) scOne.nd rfl rfl (by decide) rfl rfl (pa_cons (pe_call GM h5 (by rfl) mM kM bM .nil pass0 (pa_cons (pv 1) pa_nil)) (pa_cons (pe_call GM h5 (by rfl) mM kM bM .nil pass0 (pa_cons (pv 2) pa_nil)) pa_nil)) (by rfl))
      (pss_cons (ps_if (pt_not (pt_val (pe_call GS hr (by rfl) mS kS bS .nil pass0 (pa_cons (pv 3) (pa_cons (pv 1) pa_nil))))) (pss_one (ps_ret pe_bl)) pss_nil)
      (pss_cons (ps_if (pt_not (pt_val (pe_call GS hr (by rfl) mS kS bS .nil pass0 (pa_cons (pv 4) (pa_cons (pv 2) pa_nil))))) (pss_one (ps_ret pe_bl)) pss_nil)
      (pss_cons (ps_if (pt_not (pt_val (pe_call GS hr (by rfl) mS kS bS .nil pass0 (pa_cons (pe_op (op_own (E := E0) T.sf mO GO h4 bO pass0) (pv 3) (pv 4)) (pa_cons (pe_op op_cat (pv 1) (pv 2)) pa_nil))))) (pss_one (ps_ret pe_bl)) pss_nil)
      (pss_cons (ps_if (pt_not (pt_val (pe_call GS hr (by rfl) mS kS bS .nil pass0 (pa_cons (pe_op (op_own (E := E0) T.sf mA GA h4 bA pass0) (pv 3) (pv 4)) (pa_cons (pe_lc (own := [("_law_name", 5)]) (g := gName 5) (tt := tTest (tOp (rIn K false) (tVar 5) (tVar 2))) (te := tVar 5) rfl scOne.nd (pi_list (pv 1)) (blk (by decide +kernel))
        (fun _ _ _ _ _ => pg_name (i := 5) scOne.nd rfl (Or.inl rfl)) (fun _ _ _ _ _ => pts_one (pt_cmpR op_in_seq (pv 5) (pv 2) rfl)) (fun _ _ _ _ _ => pv 5)) pa_nil))))) (pss_one (ps_ret pe_bl)) pss_nil)
      (pss_cons (ps_if (pt_not (pt_val (pe_call GS hr (by rfl) mS kS bS .nil pass0 (pa_cons (pe_op (op_own (E := E0) T.sf mU GU h4 bU pass0) (pv 3) (pv 4)) (pa_cons (pe_lc (own := [("_law_name", 5)]) (g := gName 5) (tt := tTest (tOp (rIn K true) (tVar 5) (tVar 2))) (te := tVar 5) rfl scOne.nd (pi_list (pv 1)) (blk (by decide +kernel))
        (fun _ _ _ _ _ => pg_name (i := 5) scOne.nd rfl (Or.inl rfl)) (fun _ _ _ _ _ => pts_one (pt_cmpR op_notIn_seq (pv 5) (pv 2) rfl)) (fun _ _ _ _ _ => pv 5)) pa_nil))))) (pss_one (ps_ret pe_bl)) pss_nil)
      (pss_cons (ps_if (pt_cmpR op_ne (pe_meth (E := E0) (pv 3) T.cl mH GH h2 bH .nil pass0 (pa_cons (pv 4) pa_nil)) (pe_callB (cr_all rfl) (by rfl) B.all PyProof.Rows.boot_all (pa_cons (pe_lc (own := [("_law_name", 5)]) (g := gName 5) (tt := tYes) (te := tOp (rIn K false) (tVar 5) (tVar 1)) rfl scOne.nd (pi_list (pv 2)) (blk (by decide +kernel))
        (fun _ _ _ _ _ => pg_name (i := 5) scOne.nd rfl (Or.inl rfl)) (fun _ _ _ _ _ => pts_nil) (fun _ _ _ _ _ => pe_cmpR op_in_seq (pv 5) (pv 1) rfl)) pa_nil)) (nomark _)) (pss_one (ps_ret pe_bl)) pss_nil)
      (pss_cons (ps_if (pt_cmpR op_ne (pe_cmpR (op_ownEq (E := E0) mE GE h1 bE pass0) (pv 3) (pv 4) (nomark _)) (pe_cmpR (op_eqX hr.units0) (pe_callTy (cr_setX rfl) (by rfl) B.set PyProof.Rows.boot_set (pa_cons (pv 1) pa_nil)) (pe_callTy (cr_setX rfl) (by rfl) B.set PyProof.Rows.boot_set (pa_cons (pv 2) pa_nil)) (nomark _)) (nomark _)) (pss_one (ps_ret pe_bl)) pss_nil)
      (pss_cons (ps_expr (pe_bm0 PySem.F.plainAttrs_list PySem.F.slot_list_clear PySem.F.type_list_clear mt_clear (pe_prop (E := E0) (pv 3) T.cl PP GP h2 bP .nil pass0 rfl)))
      (pss_cons (ps_if (pt_not (pt_cmpR (op_ownEq (E := E0) mE GE h1 bE pass0) (pe_op (op_own (E := E0) T.sf mU GU h4 bU pass0) (pe_op (op_own (E := E0) T.sf mO GO h4 bO pass0) (pv 3) (pv 4)) (pv 3)) (pe_op (op_own (E := E0) T.sf mU GU h4 bU pass0) (pv 4) (pv 3)) (nomark _))) (pss_one (ps_ret pe_bl)) pss_nil)
      (pss_one (ps_ret (pe_and (pe_call GS hr (by rfl) mS kS bS .nil pass0 (pa_cons (pv 3) (pa_cons (pv 1) pa_nil))) (pe_one (pe_cmpR (op_ownEq (E := E0) mE GE h1 bE pass0) (pe_op (op_own (E := E0) T.sf mO GO h4 bO pass0) (pe_op (op_own (E := E0) T.sf mA GA h4 bA pass0) (pv 3) (pv 4)) (pe_op (op_own (E := E0) T.sf mU GU h4 bU pass0) (pv 3) (pv 4))) (pv 3) (nomark _)))))))))))))))), ?_⟩
    -- the two lists of names
    refine ⟨.ref st, rfl, st, a, ns, b, n, rfl, hS, fun one l1 n1 H1 f1 c1 x1 hS1 nl1 e1 => ⟨.ref st, rfl, st, a, ns, b, n1, rfl, hS1, fun oth l2 n2 H2 f2 c2 x2 hS2 nl2 e2 => ?_⟩⟩
    have d1 : l1 ≠ st := fun z => by
      rw [z, hS.ob] at nl1
      cases nl1
    have e1' := x2 _ _ e1 d1
    refine ⟨by show 2 ≤ sizeLine; rw [sizeLine_eq]; decide, fun p np => ⟨p, [.ref l1, .ref l2], rfl, .inl (.inl upd_same), rfl, .ref l1, [.ref l2], rfl, .ref l2, [], rfl, rfl, ?_⟩⟩
    have s3 := same_new (o := .tup [.ref l1, .ref l2]) np
    have nm1 : ∀ z ∈ one, isNm z = true := fun z hz => five_nm z (f1 z hz)
    have nm2 : ∀ z ∈ oth, isNm z = true := fun z hz => five_nm z (f2 z hz)
    refine ⟨.ref l1, rfl, l1, one, rfl, s3 _ _ e1', c1, nm1, fun H4 left s4 mL => ⟨.ref l2, rfl, l2, oth, rfl, s4 _ _ (s3 _ _ e2), c2, nm2, fun H5 right s5 mR => ⟨_, _, rfl, ?_⟩⟩⟩
    have R5 : Here C H st l1 l2 left right one oth H5 := ⟨(x1.trans x2).trans (SameX.of (s3.trans (s4.trans s5))), s5 _ _ (s4 _ _ (s3 _ _ e1')), s5 _ _ (s4 _ _ (s3 _ _ e2)), mL.same s5, mR⟩
    clear mL mR
    have k1 := len_srt one
    have k2 := len_srt oth
    -- stands(left, one), stands(right, other)
    refine ⟨.ref left, rfl, .ref l1, rfl, left, l1, one, rfl, R5.mL, R5.e1, by omega, nm1, fun H6 s6 => ⟨true, rfl, iteF ?_⟩⟩
    have R6 := R5.same s6
    refine ⟨.ref right, rfl, .ref l2, rfl, right, l2, oth, rfl, R6.mR, R6.e2, by omega, nm2, fun H7 s7 => ⟨true, rfl, iteF ?_⟩⟩
    have R7 := R6.same s7
    -- stands(left | right, one + other)
    obtain ⟨dl, tl, il⟩ := R7.mL.ins
    obtain ⟨dr, tr, ir⟩ := R7.mR.ins
    refine ⟨.ref left, rfl, .ref right, rfl, left, dl, _, right, dr, _, rfl, rfl, il, ir, left, right, _, _, rfl, R7.mL, R7.mR, by omega, fun H8 u s8 mu => ?_⟩
    have R8 := R7.same s8
    rw [m_or] at mu
    refine ⟨.ref l1, rfl, .ref l2, rfl, l1, l2, _, _, rfl, rfl, R8.e1, R8.e2, by rw [List.length_map, List.length_map, sizeLine_eq]; omega, fun p9 np9 => ?_⟩
    have s9 := same_new (o := .lst (one.map V.str ++ oth.map V.str)) np9
    have R9 := R8.same s9
    refine ⟨u, p9, one ++ oth, rfl, mu.same s9, by rw [upd_same, List.map_append], by rw [List.length_append]; omega, fun z hz => (List.mem_append.mp hz).elim (nm1 z) (nm2 z), fun H10 s10 => ⟨true, rfl, iteF ?_⟩⟩
    have R10 := R9.same s10
    -- stands(left & right, [..])
    obtain ⟨dl, tl, il⟩ := R10.mL.ins
    obtain ⟨dr, tr, ir⟩ := R10.mR.ins
    refine ⟨.ref left, rfl, .ref right, rfl, left, dl, _, right, dr, _, rfl, rfl, il, ir, left, right, _, _, rfl, R10.mL, R10.mR, by omega, fun H11 v s11 mv => ?_⟩
    have R11 := R10.same s11
    rw [m_and] at mv
    refine ⟨.ref l1, rfl, l1, rfl, ⟨_, .inl (.inl R11.e1)⟩, fun D nD => lc_it (walk_list (xs := one.map V.str)) (fun i H' => Grow H11 D (((one.take i).filter fun z => decide (z ∈ oth)).map V.str) H') (grow0 nD) (fun i H' _ hP => hP.1.seq (.inl (.inl R11.e1))) (fun i y Hx Hy hi hP hY => ?_) (fun H12 hP => ?_)⟩
    · obtain ⟨rfl, hy⟩ := hY
      obtain ⟨z, hz, rfl⟩ := at_map hy
      refine ⟨rfl, .str z, rfl, .ref l2, rfl, l2, _, rfl, .inl (.inl (.inl (hP.1 _ _ R11.e2))), rfl, Lk.flat_strs oth, _, rfl, ?_⟩
      rw [inV_str]
      refine ite2 (fun e => ?_) (fun e => ?_)
      · refine ⟨.str z, rfl, grow1 nD hP ?_ ?_⟩
        · rw [List.length_map]
          exact Nat.lt_of_le_of_lt (filt_len _ _ _) (small1000 (by omega))
        · rw [filt_yes (p := fun z => decide (z ∈ oth)) hz e, List.map_append]
          rfl
      · show Grow H11 D _ Hy
        rw [filt_no (p := fun z => decide (z ∈ oth)) hz (Bool.eq_false_iff.mpr e)]
        exact hP
    obtain ⟨s12, hD⟩ := hP
    rw [List.length_map, List.take_length] at hD
    have R12 := R11.same s12
    refine ⟨v, D, one.filter fun z => decide (z ∈ oth), rfl, mv.same s12, hD, Nat.lt_of_le_of_lt (List.length_filter_le _ _) (by omega), fun z hz => nm1 z (List.mem_filter.mp hz).1, fun H13 s13 => ⟨true, rfl, iteF ?_⟩⟩
    have R13 := R12.same s13
    clear hD nD D
    -- stands(left - right, [..])
    obtain ⟨dl, tl, il⟩ := R13.mL.ins
    obtain ⟨dr, tr, ir⟩ := R13.mR.ins
    refine ⟨.ref left, rfl, .ref right, rfl, left, dl, _, right, dr, _, rfl, rfl, il, ir, left, right, _, _, rfl, R13.mL, R13.mR, by omega, fun H14 v2 s14 mv2 => ?_⟩
    have R14 := R13.same s14
    rw [m_sub] at mv2
    refine ⟨.ref l1, rfl, l1, rfl, ⟨_, .inl (.inl R14.e1)⟩, fun D nD => lc_it (walk_list (xs := one.map V.str)) (fun i H' => Grow H14 D (((one.take i).filter fun z => !decide (z ∈ oth)).map V.str) H') (grow0 nD) (fun i H' _ hP => hP.1.seq (.inl (.inl R14.e1))) (fun i y Hx Hy hi hP hY => ?_) (fun H15 hP => ?_)⟩
    · obtain ⟨rfl, hy⟩ := hY
      obtain ⟨z, hz, rfl⟩ := at_map hy
      refine ⟨rfl, .str z, rfl, .ref l2, rfl, l2, _, rfl, .inl (.inl (.inl (hP.1 _ _ R14.e2))), rfl, Lk.flat_strs oth, _, rfl, ?_⟩
      rw [inV_str]
      refine ite2 (fun e => ?_) (fun e => ?_)
      · refine ⟨.str z, rfl, grow1 nD hP ?_ ?_⟩
        · rw [List.length_map]
          exact Nat.lt_of_le_of_lt (filt_len _ _ _) (small1000 (by omega))
        · rw [filt_yes (p := fun z => !decide (z ∈ oth)) hz e, List.map_append]
          rfl
      · show Grow H14 D _ Hy
        rw [filt_no (p := fun z => !decide (z ∈ oth)) hz (Bool.eq_false_iff.mpr e)]
        exact hP
    obtain ⟨s15, hD⟩ := hP
    rw [List.length_map, List.take_length] at hD
    have R15 := R14.same s15
    refine ⟨v2, D, one.filter fun z => !decide (z ∈ oth), rfl, mv2.same s15, hD, Nat.lt_of_le_of_lt (List.length_filter_le _ _) (by omega), fun z hz => nm1 z (List.mem_filter.mp hz).1, fun H16 s16 => ⟨true, rfl, iteF ?_⟩⟩
    have R16 := R15.same s16
    clear hD nD D
    -- left.holds(right) != all([..])
    obtain ⟨dl, tl, il⟩ := R16.mL.ins
    refine ⟨.ref left, rfl, left, dl, _, rfl, il, look_holds tl, .ref right, rfl, left, right, _, _, rfl, R16.mL, R16.mR, by omega, fun H17 s17 => ?_⟩
    have R17 := R16.same s17
    refine ⟨.ref l2, rfl, l2, rfl, ⟨_, .inl (.inl R17.e2)⟩, fun D nD => lc_it (walk_list (xs := oth.map V.str)) (fun i H' => Grow H17 D ((oth.map fun z => V.bl (decide (z ∈ one))).take i) H') (grow0 nD) (fun i H' _ hP => hP.1.seq (.inl (.inl R17.e2))) (fun i y Hx Hy hi hP hY => ?_) (fun H18 hP => ?_)⟩
    · obtain ⟨rfl, hy⟩ := hY
      obtain ⟨z, hz, rfl⟩ := at_map hy
      refine ⟨rfl, .str z, rfl, .ref l1, rfl, l1, _, rfl, .inl (.inl (.inl (hP.1 _ _ R17.e1))), rfl, Lk.flat_strs one, grow1 nD hP ?_ ?_⟩
      · rw [List.length_take, List.length_map]
        exact Nat.lt_of_le_of_lt (Nat.min_le_right _ _) (small1000 (by omega))
      · rw [take_next hz, inV_str]
        rfl
    obtain ⟨s18, hD⟩ := hP
    rw [List.length_map, List.take_of_length_le (by rw [List.length_map]; exact Nat.le_refl _)] at hD
    have R18 := R17.same s18
    refine ⟨D, oth.map fun z => decide (z ∈ one), rfl, .inl (.inl (by rw [List.map_map]; exact hD)), rfl, _, rfl, ?_⟩
    have eall : (oth.map fun z => decide (z ∈ one)).all id = oth.all fun z => decide (z ∈ one) := by
      rw [List.all_map]
      rfl
    rw [eall, notAll (m_hold one oth)]
    clear hD nD D
    -- (left == right) != (set(one) == set(other))
    obtain ⟨dl, tl, il⟩ := R18.mL.ins
    obtain ⟨dr, tr, ir⟩ := R18.mR.ins
    have scan : scanBound = 4096 := rfl
    refine ⟨.ref left, rfl, .ref right, rfl, left, dl, _, right, dr, _, rfl, rfl, il, ir, left, right, _, _, rfl, R18.mL, R18.mR, .ref l1, rfl, l1, one, rfl, .inr (.inl (.inl R18.e1)), by omega, fun t1 q1 hq1 nt1 => ?_⟩
    have s19 := same_new (o := SetXO w t1 (fun y => decide (y ∈ one)) q1) nt1
    have R19 := R18.same s19
    refine ⟨.ref l2, rfl, l2, oth, rfl, .inr (.inl (.inl R19.e2)), by omega, fun t2 q2 hq2 nt2 => ?_⟩
    have s20 := same_new (o := SetXO w t2 (fun y => decide (y ∈ oth)) q2) nt2
    have R20 := R19.same s20
    refine ⟨t1, t2, _, _, q1, q2, rfl, rfl, s20 _ _ upd_same, upd_same, fun kk hkk => ⟨rfl, _, rfl, ?_⟩⟩
    rw [notAll (m_eq hkk)]
    -- left.names.clear()
    obtain ⟨dl, tl, il⟩ := R20.mL.ins
    refine ⟨.ref left, rfl, left, dl, _, rfl, il, left, _, rfl, R20.mL, fun v3 nv3 => ⟨.inl ⟨rfl, _, .inl (.inl upd_same)⟩, v3, _, rfl, rfl, upd_same, ?_⟩⟩
    rw [upd_upd]
    have s21 := same_new (o := .lst []) nv3
    have R21 := R20.same s21
    -- (left | right) - left == right - left
    obtain ⟨dl, tl, il⟩ := R21.mL.ins
    obtain ⟨dr, tr, ir⟩ := R21.mR.ins
    refine ⟨.ref left, rfl, .ref right, rfl, left, dl, _, right, dr, _, rfl, rfl, il, ir, left, right, _, _, rfl, R21.mL, R21.mR, by omega, fun H22 w1 s22 mw1 => ?_⟩
    have R22 := R21.same s22
    obtain ⟨dw, tw, iw⟩ := mw1.ins
    have j1 := len_gOr (srt one) (srt oth)
    refine ⟨.ref left, rfl, w1, dw, _, left, dl, _, rfl, rfl, iw, s22 _ _ il, w1, left, _, _, rfl, mw1, R22.mL, by omega, fun H23 w2 s23 mw2 => ?_⟩
    have R23 := R22.same s23
    refine ⟨.ref right, rfl, .ref left, rfl, right, dr, _, left, dl, _, rfl, rfl, s23 _ _ (s22 _ _ ir), s23 _ _ (s22 _ _ il), right, left, _, _, rfl, R23.mR, R23.mL, by omega, fun H24 w3 s24 mw3 => ?_⟩
    have R24 := R23.same s24
    obtain ⟨d2, t2', i2⟩ := (mw2.same s24).ins
    obtain ⟨d3, t3', i3⟩ := mw3.ins
    refine ⟨w2, d2, _, w3, d3, _, rfl, rfl, i2, i3, w2, w3, _, _, rfl, mw2.same s24, mw3, _, rfl, ?_⟩
    rw [m_one (asc_srt one) (asc_srt oth), decide_eq_true rfl]
    -- stands(left, one) and left & right | left - right == left
    refine ⟨.ref left, rfl, .ref l1, rfl, left, l1, one, rfl, R24.mL, R24.e1, by omega, nm1, fun H25 s25 => ⟨true, rfl, iteT ?_⟩⟩
    have R25 := R24.same s25
    obtain ⟨dl, tl, il⟩ := R25.mL.ins
    obtain ⟨dr, tr, ir⟩ := R25.mR.ins
    refine ⟨.ref left, rfl, .ref right, rfl, left, dl, _, right, dr, _, rfl, rfl, il, ir, left, right, _, _, rfl, R25.mL, R25.mR, by omega, fun H26 y1 s26 my1 => ?_⟩
    have R26 := R25.same s26
    refine ⟨.ref left, rfl, .ref right, rfl, left, dl, _, right, dr, _, rfl, rfl, s26 _ _ il, s26 _ _ ir, left, right, _, _, rfl, R26.mL, R26.mR, by omega, fun H27 y2 s27 my2 => ?_⟩
    have R27 := R26.same s27
    obtain ⟨d1, u1, i1⟩ := (my1.same s27).ins
    obtain ⟨d2, u2, i2⟩ := my2.ins
    have j2 := len_gAnd (srt one) (srt oth)
    have j3 := len_gSub (srt one) (srt oth)
    refine ⟨y1, d1, _, y2, d2, _, rfl, rfl, i1, i2, y1, y2, _, _, rfl, my1.same s27, my2, by omega, fun H28 y3 s28 my3 => ?_⟩
    have R28 := R27.same s28
    rw [m_two (asc_srt one)] at my3
    obtain ⟨d3, u3, i3⟩ := my3.ins
    refine ⟨.ref left, rfl, y3, d3, _, left, dl, _, rfl, rfl, i3, s28 _ _ (s27 _ _ (s26 _ _ il)), y3, left, _, _, rfl, my3, R28.mL, ?_⟩
    rw [decide_eq_true rfl]
    exact q _ R28.sx
end
end Lw
set_option Elab.async false
set_option linter.all false
set_option maxRecDepth 100000
set_option maxHeartbeats 4000000
namespace Lw
open PySem PySem.Spec PyProof.Rows L2 TxS LkO Lk
section
variable {P : Program} {w : World} {K : PySem.W.Frag} {mg : Str → Option Value} {base : Heap} {C : Addr}
def spLaw (K : PySem.W.Frag) : Sp := fun vs H Q _ => ∃ (a : Addr) (ns : List Int), vs = [.ref a] ∧ SqL K H a (ns.map V.int) ∧ ns.length ≤ 63 ∧ ∀ H', Q (.bl true) H'
theorem scLaw : FnScope ["_law_script", "_law_by"] ["_law_script"] (defScope sLaw) := ⟨rfl, rfl, rfl, by decide +kernel, rfl, by decide +kernel, by decide +kernel⟩
theorem rg_small : ∀ j : Nat, j < 25 → Builtin.Range.small 0 (j : Int) 2 = true := by decide +kernel
theorem rg_size : ∀ j : Nat, j < 25 → Builtin.Range.rangeSize 0 (j : Int) 2 = ((Builtin.Range.rangeSize 0 (j : Int) 2).toNat : Int) := by decide +kernel
theorem ok_law {f fO : Addr} {fd fdO : FuncData} (F : Fun K "law" "law" sLaw f fd) (B : Blt mg)
    (GO : FnOk P w K mg base CX0 7 fO fdO ["_law_state"] (spOne K)) (bO : Binds K fdO ["_law_state"] []) (mO : mg "_law_one_right" = some (.ref fO)) (kO : PySem.W.keepIn K (.ref fO) = true) :
    FnOk P w K mg base CX0 8 f fd ["_law_script"] (spLaw K) := by
  refine F.ok scLaw (fun vs H Q E h => ?_) (fun cdv A outer s H vs Q E hr h => ?_)
  · obtain ⟨a, ns, rfl, _⟩ := h
    rfl
  · obtain ⟨a, ns, rfl, hS, hl, q⟩ := h
    refine ⟨_, pss_cons (ps_for PassesOwn.never rfl (pi_range3 (by rfl) B.rng (pa_cons pe_int (pa_cons (pe_callB (call_max2 rfl) (by rfl) B.max PyProof.Rows.boot_max (pa_cons pe_int (pa_cons (pe_callB (call_min2 rfl) (by rfl) B.min PyProof.Rows.boot_min (pa_cons pe_int (pa_cons (pe_callB call_len_seq (by rfl) B.len PySem.boot_len (pa_cons (pv 0) pa_nil)) pa_nil))) pa_nil))) (pa_cons pe_int pa_nil)))) (pg_name (i := 1) scLaw.nd rfl (Or.inl rfl))
        (pss_one (ps_if (pt_not (pt_val (pe_call GO hr (by rfl) mO kO bO .nil pass0 (pa_cons (pe_lst (pa_cons (pv 0) (pa_cons (pv 1) (pa_cons pe_int pa_nil)))) pa_nil)))) (pss_one (ps_ret pe_bl)) pss_nil)))
      (pss_one (ps_ret pe_bl)), ?_⟩
    have key : ∃ j : Nat, j < 25 ∧ (if (if ((ns.map V.int).length : Int) < 24 then ((ns.map V.int).length : Int) else 24) > 1 then (if ((ns.map V.int).length : Int) < 24 then ((ns.map V.int).length : Int) else 24) else 1) = (j : Int) := by
      rw [List.length_map]
      by_cases c : (ns.length : Int) < 24
      · rw [if_pos c]
        by_cases d : (ns.length : Int) > 1
        · rw [if_pos d]
          exact ⟨ns.length, by omega, rfl⟩
        · rw [if_neg d]
          exact ⟨1, by omega, rfl⟩
      · rw [if_neg c]
        exact ⟨24, by omega, rfl⟩
    obtain ⟨j, hj, e⟩ := key
    refine ⟨.ref a, rfl, a, _, rfl, .inl hS, 24, _, rfl, 1, _, rfl, 0, (j : Int), 2, (Builtin.Range.rangeSize 0 (j : Int) 2).toNat, ?_, ⟨by decide, by decide, rg_small j hj, rg_size j hj⟩, for_it walk_rangeC (fun i σ H' => SqL K H' a (ns.map V.int) ∧ ∃ y1, σ = [some (.ref a), y1]) ⟨hS, none, rfl⟩ (fun _ _ _ _ _ => trivial) (fun i x σ H2 H3 hi hP hY => ?_) (fun σ H2 hP => ?_)⟩
    · rw [← e]
    · obtain ⟨rfl, rfl⟩ := hY
      obtain ⟨hS2, y1, rfl⟩ := hP
      have eb : (0 : Int) + (i : Nat) * 2 = ((i * 2 : Nat) : Int) := by omega
      refine ⟨.ref a, rfl, _, rfl, by show 3 ≤ sizeLine; rw [sizeLine_eq]; decide, fun p np => ⟨p, a, ns, i * 2, 0, rfl, ⟨?_, (same_new np).seq hS2⟩, fun H4 x4 => ⟨true, rfl, iteF ⟨?_, _, rfl⟩⟩⟩⟩
      · have ev : (fun i : Nat => V.int ((0 : Int) + (i : Nat) * 2)) i = V.int ((i * 2 : Nat) : Int) := congrArg V.int eb
        rw [upd_same, ev]
        rfl
      · have hSt : Sta K (upd H3 p (.lst [.ref a, .int ((i * 2 : Nat) : Int), .int ((0 : Nat) : Int)])) p a ns (i * 2) 0 := ⟨upd_same, (same_new np).seq hS2⟩
        have ev : (fun i : Nat => V.int ((0 : Int) + (i : Nat) * 2)) i = V.int ((i * 2 : Nat) : Int) := congrArg V.int eb
        rw [ev] at x4
        exact hSt.sq x4
    · exact q _
end
end Lw
set_option Elab.async false
set_option linter.all false
set_option maxRecDepth 100000
set_option maxHeartbeats 4000000
namespace Lw
open PySem PySem.Spec PyProof.Rows L2 TxS LkO Lk
theorem all_mk {l : PySem.W.OpenLaw} {w : World} {K : PySem.W.Frag} {h : Heap} {mg : Str → Option Value} {fa : Addr} (X : K.In h) (G : h.Ns mainGlobals mg) (hfa : mg "law" = some (.ref fa))
    {fN fI fC fLc fLd fLm fLx fLn fLk fLs fLo fLa fiM feM foM faM fsM fhM flM fHM fpM C pP : Addr} {odN anN odI anI odC anC odLc anLc odLd anLd odLm anLm odLx anLx odLn anLn odLk anLk odLs anLs odLo anLo odLa anLa odiM aniM odeM aneM odoM anoM odaM anaM odsM ansM odhM anhM odlM anlM odHM anHM odpM anpM : Option Addr} {slN slI slC slLc slLd slLm slLx slLn slLk slLs slLo slLa sliM sleM sloM slaM slsM slhM sllM slHM slpM : Array (Option Value)} {ocN kVN dcN pmN cdN ctN ocI kVI dcI pmI cdI ctI ocC kVC dcC pmC cdC ctC ocLc kVLc dcLc pmLc cdLc ctLc ocLd kVLd dcLd pmLd cdLd ctLd ocLm kVLm dcLm pmLm cdLm ctLm ocLx kVLx dcLx pmLx cdLx ctLx ocLn kVLn dcLn pmLn cdLn ctLn ocLk kVLk dcLk pmLk cdLk ctLk ocLs kVLs dcLs pmLs cdLs ctLs ocLo kVLo dcLo pmLo cdLo ctLo ocLa kVLa dcLa pmLa cdLa ctLa ociM kViM dciM pmiM cdiM ctiM oceM kVeM dceM pmeM cdeM cteM ocoM kVoM dcoM pmoM cdoM ctoM ocaM kVaM dcaM pmaM cdaM ctaM ocsM kVsM dcsM pmsM cdsM ctsM ochM kVhM dchM pmhM cdhM cthM oclM kVlM dclM pmlM cdlM ctlM ocHM kVHM dcHM pmHM cdHM ctHM ocpM kVpM dcpM pmpM cdpM ctpM : Value} {tA tL : Tok} {rest : List Value}
    (aN : PySem.W.nsIn K mainGlobals "is_name" = some (some (.ref fN)))
    (lN : K.lookup fN = some ⟨ocN, odN, .func (PySem.W.fnOf "is_name" "is_name" (defArgs sIsName) (defBody sIsName) (defScope sIsName) .none kVN dcN pmN anN cdN ctN), slN⟩)
    (cN : PySem.W.codeIn K cdN "is_name" = true)
    (kN : PySem.W.keepIn K (.ref fN) = true)
    (aI : PySem.W.nsIn K mainGlobals "all_in" = some (some (.ref fI)))
    (lI : K.lookup fI = some ⟨ocI, odI, .func (PySem.W.fnOf "all_in" "all_in" (defArgs sAllIn) (defBody sAllIn) (defScope sAllIn) .none kVI dcI pmI anI cdI ctI), slI⟩)
    (cI : PySem.W.codeIn K cdI "all_in" = true)
    (kI : PySem.W.keepIn K (.ref fI) = true)
    (aC : PySem.W.nsIn K mainGlobals "check_other" = some (some (.ref fC)))
    (lC : K.lookup fC = some ⟨ocC, odC, .func (PySem.W.fnOf "check_other" "check_other" (defArgs sCheck) (defBody sCheck) (defScope sCheck) .none kVC dcC pmC anC cdC ctC), slC⟩)
    (cC : PySem.W.codeIn K cdC "check_other" = true)
    (kC : PySem.W.keepIn K (.ref fC) = true)
    (aLc : PySem.W.nsIn K mainGlobals "_law_cell_at" = some (some (.ref fLc)))
    (lLc : K.lookup fLc = some ⟨ocLc, odLc, .func (PySem.W.fnOf "_law_cell_at" "_law_cell_at" (defArgs sCell) (defBody sCell) (defScope sCell) .none kVLc dcLc pmLc anLc cdLc ctLc), slLc⟩)
    (cLc : PySem.W.codeIn K cdLc "_law_cell_at" = true)
    (kLc : PySem.W.keepIn K (.ref fLc) = true)
    (aLd : PySem.W.nsIn K mainGlobals "_law_draw" = some (some (.ref fLd)))
    (lLd : K.lookup fLd = some ⟨ocLd, odLd, .func (PySem.W.fnOf "_law_draw" "_law_draw" (defArgs sDraw) (defBody sDraw) (defScope sDraw) .none kVLd dcLd pmLd anLd cdLd ctLd), slLd⟩)
    (cLd : PySem.W.codeIn K cdLd "_law_draw" = true)
    (kLd : PySem.W.keepIn K (.ref fLd) = true)
    (aLm : PySem.W.nsIn K mainGlobals "_law_number" = some (some (.ref fLm)))
    (lLm : K.lookup fLm = some ⟨ocLm, odLm, .func (PySem.W.fnOf "_law_number" "_law_number" (defArgs sNumber) (defBody sNumber) (defScope sNumber) .none kVLm dcLm pmLm anLm cdLm ctLm), slLm⟩)
    (cLm : PySem.W.codeIn K cdLm "_law_number" = true)
    (kLm : PySem.W.keepIn K (.ref fLm) = true)
    (aLx : PySem.W.nsIn K mainGlobals "_law_next" = some (some (.ref fLx)))
    (lLx : K.lookup fLx = some ⟨ocLx, odLx, .func (PySem.W.fnOf "_law_next" "_law_next" (defArgs sNext) (defBody sNext) (defScope sNext) .none kVLx dcLx pmLx anLx cdLx ctLx), slLx⟩)
    (cLx : PySem.W.codeIn K cdLx "_law_next" = true)
    (kLx : PySem.W.keepIn K (.ref fLx) = true)
    (aLn : PySem.W.nsIn K mainGlobals "_law_names" = some (some (.ref fLn)))
    (lLn : K.lookup fLn = some ⟨ocLn, odLn, .func (PySem.W.fnOf "_law_names" "_law_names" (defArgs sLNames) (defBody sLNames) (defScope sLNames) .none kVLn dcLn pmLn anLn cdLn ctLn), slLn⟩)
    (cLn : PySem.W.codeIn K cdLn "_law_names" = true)
    (kLn : PySem.W.keepIn K (.ref fLn) = true)
    (aLk : PySem.W.nsIn K mainGlobals "_law_made" = some (some (.ref fLk)))
    (lLk : K.lookup fLk = some ⟨ocLk, odLk, .func (PySem.W.fnOf "_law_made" "_law_made" (defArgs sMade) (defBody sMade) (defScope sMade) .none kVLk dcLk pmLk anLk cdLk ctLk), slLk⟩)
    (cLk : PySem.W.codeIn K cdLk "_law_made" = true)
    (kLk : PySem.W.keepIn K (.ref fLk) = true)
    (aLs : PySem.W.nsIn K mainGlobals "_law_stands" = some (some (.ref fLs)))
    (lLs : K.lookup fLs = some ⟨ocLs, odLs, .func (PySem.W.fnOf "_law_stands" "_law_stands" (defArgs sStands) (defBody sStands) (defScope sStands) .none kVLs dcLs pmLs anLs cdLs ctLs), slLs⟩)
    (cLs : PySem.W.codeIn K cdLs "_law_stands" = true)
    (kLs : PySem.W.keepIn K (.ref fLs) = true)
    (aLo : PySem.W.nsIn K mainGlobals "_law_one_right" = some (some (.ref fLo)))
    (lLo : K.lookup fLo = some ⟨ocLo, odLo, .func (PySem.W.fnOf "_law_one_right" "_law_one_right" (defArgs sOne) (defBody sOne) (defScope sOne) .none kVLo dcLo pmLo anLo cdLo ctLo), slLo⟩)
    (cLo : PySem.W.codeIn K cdLo "_law_one_right" = true)
    (kLo : PySem.W.keepIn K (.ref fLo) = true)
    (aLa : PySem.W.nsIn K mainGlobals "law" = some (some (.ref fLa)))
    (lLa : K.lookup fLa = some ⟨ocLa, odLa, .func (PySem.W.fnOf "law" "law" (defArgs sLaw) (defBody sLaw) (defScope sLaw) .none kVLa dcLa pmLa anLa cdLa ctLa), slLa⟩)
    (cLa : PySem.W.codeIn K cdLa "law" = true)
    (kLa : PySem.W.keepIn K (.ref fLa) = true)
    (aC0 : PySem.W.nsIn K mainGlobals "Locks" = some (some (.ref C)))
    (aiM : PySem.W.findIn K (.ref C) "__init__" = some (some (.ref fiM)))
    (iiM : PySem.W.isFn K (.ref fiM) = true)
    (liM : K.lookup fiM = some ⟨ociM, odiM, .func (PySem.W.fnOf "__init__" "Locks.__init__" (defArgs sInit) (defBody sInit) (defScope sInit) .none kViM dciM pmiM aniM cdiM ctiM), sliM⟩)
    (ciM : PySem.W.codeIn K cdiM "Locks.__init__" = true)
    (kiM : PySem.W.keepIn K (.ref fiM) = true)
    (aeM : PySem.W.findIn K (.ref C) "__eq__" = some (some (.ref feM)))
    (ieM : PySem.W.isFn K (.ref feM) = true)
    (leM : K.lookup feM = some ⟨oceM, odeM, .func (PySem.W.fnOf "__eq__" "Locks.__eq__" (defArgs sEq) (defBody sEq) (defScope sEq) .none kVeM dceM pmeM aneM cdeM cteM), sleM⟩)
    (ceM : PySem.W.codeIn K cdeM "Locks.__eq__" = true)
    (keM : PySem.W.keepIn K (.ref feM) = true)
    (aoM : PySem.W.findIn K (.ref C) "__or__" = some (some (.ref foM)))
    (ioM : PySem.W.isFn K (.ref foM) = true)
    (loM : K.lookup foM = some ⟨ocoM, odoM, .func (PySem.W.fnOf "__or__" "Locks.__or__" (defArgs sOr) (defBody sOr) (defScope sOr) .none kVoM dcoM pmoM anoM cdoM ctoM), sloM⟩)
    (coM : PySem.W.codeIn K cdoM "Locks.__or__" = true)
    (koM : PySem.W.keepIn K (.ref foM) = true)
    (aaM : PySem.W.findIn K (.ref C) "__and__" = some (some (.ref faM)))
    (iaM : PySem.W.isFn K (.ref faM) = true)
    (laM : K.lookup faM = some ⟨ocaM, odaM, .func (PySem.W.fnOf "__and__" "Locks.__and__" (defArgs sAnd) (defBody sAnd) (defScope sAnd) .none kVaM dcaM pmaM anaM cdaM ctaM), slaM⟩)
    (caM : PySem.W.codeIn K cdaM "Locks.__and__" = true)
    (kaM : PySem.W.keepIn K (.ref faM) = true)
    (asM : PySem.W.findIn K (.ref C) "__sub__" = some (some (.ref fsM)))
    (isM : PySem.W.isFn K (.ref fsM) = true)
    (lsM : K.lookup fsM = some ⟨ocsM, odsM, .func (PySem.W.fnOf "__sub__" "Locks.__sub__" (defArgs sSub) (defBody sSub) (defScope sSub) .none kVsM dcsM pmsM ansM cdsM ctsM), slsM⟩)
    (csM : PySem.W.codeIn K cdsM "Locks.__sub__" = true)
    (ksM : PySem.W.keepIn K (.ref fsM) = true)
    (ahM : PySem.W.findIn K (.ref C) "__contains__" = some (some (.ref fhM)))
    (ihM : PySem.W.isFn K (.ref fhM) = true)
    (lhM : K.lookup fhM = some ⟨ochM, odhM, .func (PySem.W.fnOf "__contains__" "Locks.__contains__" (defArgs sHas) (defBody sHas) (defScope sHas) .none kVhM dchM pmhM anhM cdhM cthM), slhM⟩)
    (chM : PySem.W.codeIn K cdhM "Locks.__contains__" = true)
    (khM : PySem.W.keepIn K (.ref fhM) = true)
    (alM : PySem.W.findIn K (.ref C) "__len__" = some (some (.ref flM)))
    (ilM : PySem.W.isFn K (.ref flM) = true)
    (llM : K.lookup flM = some ⟨oclM, odlM, .func (PySem.W.fnOf "__len__" "Locks.__len__" (defArgs sLen) (defBody sLen) (defScope sLen) .none kVlM dclM pmlM anlM cdlM ctlM), sllM⟩)
    (clM : PySem.W.codeIn K cdlM "Locks.__len__" = true)
    (klM : PySem.W.keepIn K (.ref flM) = true)
    (aHM : PySem.W.findIn K (.ref C) "holds" = some (some (.ref fHM)))
    (iHM : PySem.W.isFn K (.ref fHM) = true)
    (lHM : K.lookup fHM = some ⟨ocHM, odHM, .func (PySem.W.fnOf "holds" "Locks.holds" (defArgs sHolds) (defBody sHolds) (defScope sHolds) .none kVHM dcHM pmHM anHM cdHM ctHM), slHM⟩)
    (cHM : PySem.W.codeIn K cdHM "Locks.holds" = true)
    (kHM : PySem.W.keepIn K (.ref fHM) = true)
    (apM : PySem.W.findIn K (.ref C) "names" = some (some (.ref pP)))
    (gpM : PySem.W.specialIn K (.ref pP) "__get__" = some (some (.builtin "property.__get__")))
    (tpM : PySem.W.takesIn K (.ref pP) = some true)
    (rpM : PySem.W.recIn K pP "property" = some (.ref fpM :: rest))
    (lpM : K.lookup fpM = some ⟨ocpM, odpM, .func (PySem.W.fnOf "names" "Locks.names" (defArgs sNames) (defBody sNames) (defScope sNames) .none kVpM dcpM pmpM anpM cdpM ctpM), slpM⟩)
    (cpM : PySem.W.codeIn K cdpM "Locks.names" = true)
    (kpM : PySem.W.keepIn K (.ref fpM) = true)
    (pg : PySem.W.plainGet K C Str.empty = true)
    (hd : PySem.W.hasDictIn K C = true)
    (po : PySem.W.plainOver K C = true)
    (sa : PySem.W.findIn K (.ref C) "__setattr__" = some (some (.builtin "object.__setattr__")))
    (mk : PySem.W.makesIn K C = true)
    (kc : PySem.W.keepIn K (.ref C) = true)
    (nK : PySem.W.findIn K (.ref C) "kept_names" = some none)
    (tyc : PySem.W.findIn K (.ref C) "__class__" = some (some (.builtin "object.__class__")))
    (tyg : PySem.W.specialIn K (.builtin "object.__class__") "__get__" = some (some (.builtin "getset_descriptor.__get__")))
    (tyt : PySem.W.takesIn K (.builtin "object.__class__") = some true)
    (tym : PySem.W.mroIn K C (.type "object") = some true)
    (sf : PySem.W.selfFirst K C = true)
    (nb : PySem.W.findIn K (.ref C) "__bool__" = some none)
    (gA : PySem.W.nsIn K mainGlobals "LETTERS" = some (some (.str abc tA)))
    (gL : PySem.W.nsIn K mainGlobals "LONGEST" = some (some (.int 8 tL)))
    (z0 : PySem.W.nsIn K mainGlobals "len" = some none)
    (z1 : PySem.W.nsIn K mainGlobals "isinstance" = some none)
    (z2 : PySem.W.nsIn K mainGlobals "str" = some none)
    (z3 : PySem.W.nsIn K mainGlobals "all" = some none)
    (z4 : PySem.W.nsIn K mainGlobals "set" = some none)
    (z5 : PySem.W.nsIn K mainGlobals "sorted" = some none)
    (z6 : PySem.W.nsIn K mainGlobals "tuple" = some none)
    (z7 : PySem.W.nsIn K mainGlobals "list" = some none)
    (z8 : PySem.W.nsIn K mainGlobals "bool" = some none)
    (z9 : PySem.W.nsIn K mainGlobals "range" = some none)
    (z10 : PySem.W.nsIn K mainGlobals "max" = some none)
    (z11 : PySem.W.nsIn K mainGlobals "min" = some none)
    : ∃ fd : FuncData, (∀ (s : Shared) (v : Value), BindsTo s fd ⟨[v], []⟩ [("_law_script", v)]) ∧ ∀ base : Heap, K.In base → base.Ns mainGlobals mg → FnOk l.prog w K mg base CX0 8 fa fd ["_law_script"] (spLaw K) := by
  have e := hfa.symm.trans (PySem.W.mg_of X G aLa)
  cases e
  have B : Blt mg := ⟨PySem.W.mg_none_of X G z0, PySem.W.mg_none_of X G z1, PySem.W.mg_none_of X G z2, PySem.W.mg_none_of X G z3, PySem.W.mg_none_of X G z4, PySem.W.mg_none_of X G z5, PySem.W.mg_none_of X G z6, PySem.W.mg_none_of X G z7, PySem.W.mg_none_of X G z8, PySem.W.mg_none_of X G z9, PySem.W.mg_none_of X G z10, PySem.W.mg_none_of X G z11⟩
  have S : Cst mg := ⟨⟨tA, PySem.W.mg_of X G gA⟩, ⟨tL, PySem.W.mg_of X G gL⟩⟩
  have T : LkC K mg C := ⟨⟨pg, hd, po, sa⟩, PySem.W.mg_of X G aC0, nK, tyc, tyg, tyt, tym, if_pos (beq_self_eq_true _), sf, nb⟩
  have FN := fun_mk (st := sIsName) lN cN kN
  have FI := fun_mk (st := sAllIn) lI cI kI
  have FC := fun_mk (st := sCheck) lC cC kC
  have FLc := fun_mk (st := sCell) lLc cLc kLc
  have FLd := fun_mk (st := sDraw) lLd cLd kLd
  have FLm := fun_mk (st := sNumber) lLm cLm kLm
  have FLx := fun_mk (st := sNext) lLx cLx kLx
  have FLn := fun_mk (st := sLNames) lLn cLn kLn
  have FLk := fun_mk (st := sMade) lLk cLk kLk
  have FLs := fun_mk (st := sStands) lLs cLs kLs
  have FLo := fun_mk (st := sOne) lLo cLo kLo
  have FLa := fun_mk (st := sLaw) lLa cLa kLa
  have FiM := fun_mk (st := sInit) liM ciM kiM
  have FeM := fun_mk (st := sEq) leM ceM keM
  have FoM := fun_mk (st := sOr) loM coM koM
  have FaM := fun_mk (st := sAnd) laM caM kaM
  have FsM := fun_mk (st := sSub) lsM csM ksM
  have FhM := fun_mk (st := sHas) lhM chM khM
  have FlM := fun_mk (st := sLen) llM clM klM
  have FHM := fun_mk (st := sHolds) lHM cHM kHM
  have FpM := fun_mk (st := sNames) lpM cpM kpM
  have bN := FN.binds (ps := ["value"]) fun _ _ _ _ _ _ us hl => match us, hl with | [_], _ => rfl
  have bI := FI.binds (ps := ["names", "known"]) fun _ _ _ _ _ _ us hl => match us, hl with | [_, _], _ => rfl
  have bC := FC.binds (ps := ["other"]) fun _ _ _ _ _ _ us hl => match us, hl with | [_], _ => rfl
  have bLc := FLc.binds (ps := ["_law_script", "_law_k"]) fun _ _ _ _ _ _ us hl => match us, hl with | [_, _], _ => rfl
  have bLd := FLd.binds (ps := ["_law_cell", "_law_k", "_law_below"]) fun _ _ _ _ _ _ us hl => match us, hl with | [_, _, _], _ => rfl
  have bLm := FLm.binds (ps := ["_law_cell", "_law_k", "_law_below"]) fun _ _ _ _ _ _ us hl => match us, hl with | [_, _, _], _ => rfl
  have bLx := FLx.binds (ps := ["_law_state", "_law_below"]) fun _ _ _ _ _ _ us hl => match us, hl with | [_, _], _ => rfl
  have bLn := FLn.binds (ps := ["_law_state"]) fun _ _ _ _ _ _ us hl => match us, hl with | [_], _ => rfl
  have bLk := FLk.binds (ps := ["_law_names_here"]) fun _ _ _ _ _ _ us hl => match us, hl with | [_], _ => rfl
  have bLs := FLs.binds (ps := ["_law_whole", "_law_names_here"]) fun _ _ _ _ _ _ us hl => match us, hl with | [_, _], _ => rfl
  have bLo := FLo.binds (ps := ["_law_state"]) fun _ _ _ _ _ _ us hl => match us, hl with | [_], _ => rfl
  have bLa := FLa.binds (ps := ["_law_script"]) fun _ _ _ _ _ _ us hl => match us, hl with | [_], _ => rfl
  have beM := FeM.binds (ps := ["self", "other"]) fun _ _ _ _ _ _ us hl => match us, hl with | [_, _], _ => rfl
  have boM := FoM.binds (ps := ["self", "other"]) fun _ _ _ _ _ _ us hl => match us, hl with | [_, _], _ => rfl
  have baM := FaM.binds (ps := ["self", "other"]) fun _ _ _ _ _ _ us hl => match us, hl with | [_, _], _ => rfl
  have bsM := FsM.binds (ps := ["self", "other"]) fun _ _ _ _ _ _ us hl => match us, hl with | [_, _], _ => rfl
  have bhM := FhM.binds (ps := ["self", "name"]) fun _ _ _ _ _ _ us hl => match us, hl with | [_, _], _ => rfl
  have blM := FlM.binds (ps := ["self"]) fun _ _ _ _ _ _ us hl => match us, hl with | [_], _ => rfl
  have bHM := FHM.binds (ps := ["self", "other"]) fun _ _ _ _ _ _ us hl => match us, hl with | [_, _], _ => rfl
  have bpM := FpM.binds (ps := ["self"]) fun _ _ _ _ _ _ us hl => match us, hl with | [_], _ => rfl
  refine ⟨PySem.W.fnOf "law" "law" (defArgs sLaw) (defBody sLaw) (defScope sLaw) .none kVLa dcLa pmLa anLa cdLa ctLa, fun s v => .of_eq rfl, fun base _ _ => ?_⟩
  have GN : FnOk l.prog w K mg base CX0 1 fN _ ["value"] spName := ok_name FN B S
  have GI : FnOk l.prog w K mg base CX0 1 fI _ ["names", "known"] (spAllIn K) := ok_allIn FI B
  have GC : FnOk l.prog w K mg base CX0 1 fC _ ["other"] (spCheck C) := ok_check FC B T
  have M : Mk K C fiM := ⟨mk, aiM, iiM, kc⟩
  have GM : FnR l.prog w K mg base CX0 2 fiM (spNew C) := ok_init FiM B T GN bN (PySem.W.mg_of X G aN) kN
  have GO : FnOk l.prog w K mg base CX0 4 foM _ ["self", "other"] (spBin C gOr) := ok_or FoM T GC bC (PySem.W.mg_of X G aC) kC M GM
  have GA : FnOk l.prog w K mg base CX0 4 faM _ ["self", "other"] (spBin C gAnd) := ok_and FaM T GC bC (PySem.W.mg_of X G aC) kC M GM
  have GS : FnOk l.prog w K mg base CX0 4 fsM _ ["self", "other"] (spBin C Lk.gSub) := ok_sub FsM T GC bC (PySem.W.mg_of X G aC) kC M GM
  have O : Ops l.prog w K mg base C := ⟨⟨foM, _, ⟨aoM, ioM⟩, GO, boM⟩, ⟨faM, _, ⟨aaM, iaM⟩, GA, baM⟩, ⟨fsM, _, ⟨asM, isM⟩, GS, bsM⟩, ⟨feM, _, ⟨aeM, ieM⟩, ok_eq FeM B T, beM⟩, ⟨fhM, _, ⟨ahM, ihM⟩, ok_has FhM T, bhM⟩,
    ⟨flM, _, ⟨alM, ilM⟩, ok_len FlM B T, blM⟩, ⟨pP, fpM, _, ⟨apM, gpM, tpM, rest, rpM⟩, ok_names FpM B T, bpM⟩, ⟨fHM, _, ⟨aHM, iHM, kHM⟩, ok_holds FHM T GC bC (PySem.W.mg_of X G aC) kC GI bI (PySem.W.mg_of X G aI) kI, bHM⟩⟩
  have Gc : FnOk l.prog w K mg base CX0 1 fLc _ ["_law_script", "_law_k"] (spCell K) := ok_cell FLc B.len
  have Gd : FnOk l.prog w K mg base CX0 1 fLd _ ["_law_cell", "_law_k", "_law_below"] spDraw := ok_draw FLd
  have Gm : FnOk l.prog w K mg base CX0 2 fLm _ ["_law_cell", "_law_k", "_law_below"] spNumber := ok_number FLm B.rng Gd bLd (PySem.W.mg_of X G aLd) kLd
  have Gx : FnOk l.prog w K mg base CX0 3 fLx _ ["_law_state", "_law_below"] (spNext K) := ok_next FLx Gc bLc (PySem.W.mg_of X G aLc) kLc Gm bLm (PySem.W.mg_of X G aLm) kLm
  have Gn : FnOk l.prog w K mg base CX0 4 fLn _ ["_law_state"] (spLN K) := ok_ln FLn B.rng Gx bLx (PySem.W.mg_of X G aLx) kLx
  have Gk : FnOk l.prog w K mg base CX0 5 fLk _ ["_law_names_here"] (spMade C 5) := ok_made1 FLk B T M GM bLk (PySem.W.mg_of X G aLk) ⟨aoM, ioM⟩ GO boM
  have Gs : FnOk l.prog w K mg base CX0 6 fLs _ ["_law_whole", "_law_names_here"] (spStands C) := ok_stands FLs B T O
  have Go : FnOk l.prog w K mg base CX0 7 fLo _ ["_law_state"] (spOne K) := ok_one FLo B T O Gn bLn (PySem.W.mg_of X G aLn) kLn Gk bLk (PySem.W.mg_of X G aLk) kLk Gs bLs (PySem.W.mg_of X G aLs) kLs
  exact ok_law FLa B Go bLo (PySem.W.mg_of X G aLo) kLo
end Lw
set_option Elab.async false
set_option linter.all false
open PySem PySem.W PyProof.Rows
set_option maxRecDepth 100000 in
set_option maxHeartbeats 0 in
theorem PySem.Challenge.cw_lockdoors_k31_whole_locks_holds : PySem.Challenge.rw_lockdoors_k31_whole_locks.Holds := by
  w_on; o_law; k_head; (case hw => w_witness2)
  k_fill
  refine L2.walk_of (l := PySem.Challenge.rw_lockdoors_k31_whole_locks) (n := 63) (k := 8) (x := "_law_script") (CX := fun _ => L2.CX0) (sp := fun w => Lw.spLaw _) rfl (by decide) rfl ⟨rfl, by decide, by decide⟩ (fun w h Y => PySem.W.kIn_of Y) ?F (fun _ _ a ns hl _ hS => ⟨a, ns, rfl, hS, hl, fun _ => rfl⟩) (fun _ _ _ _ _ h => h)
  case F =>
    intro w mg fa h KX G hmg
    refine' Lw.all_mk KX G hmg ?aN ?lN ?cN ?kN ?aI ?lI ?cI ?kI ?aC ?lC ?cC ?kC ?aLc ?lLc ?cLc ?kLc ?aLd ?lLd ?cLd ?kLd ?aLm ?lLm ?cLm ?kLm ?aLx ?lLx ?cLx ?kLx ?aLn ?lLn ?cLn ?kLn ?aLk ?lLk ?cLk ?kLk ?aLs ?lLs ?cLs ?kLs ?aLo ?lLo ?cLo ?kLo ?aLa ?lLa ?cLa ?kLa ?aC0 ?aiM ?iiM ?liM ?ciM ?kiM ?aeM ?ieM ?leM ?ceM ?keM ?aoM ?ioM ?loM ?coM ?koM ?aaM ?iaM ?laM ?caM ?kaM ?asM ?isM ?lsM ?csM ?ksM ?ahM ?ihM ?lhM ?chM ?khM ?alM ?ilM ?llM ?clM ?klM ?aHM ?iHM ?lHM ?cHM ?kHM ?apM ?gpM ?tpM ?rpM ?lpM ?cpM ?kpM ?pg ?hd ?po ?sa ?mk ?kc ?nK ?tyc ?tyg ?tyt ?tym ?sf ?nb ?gA ?gL ?z0 ?z1 ?z2 ?z3 ?z4 ?z5 ?z6 ?z7 ?z8 ?z9 ?z10 ?z11
    (case aN => k_is)
    (case lN => k_is)
    (case cN => k_is)
    (case kN => k_is)
    (case aI => k_is)
    (case lI => k_is)
    (case cI => k_is)
    (case kI => k_is)
    (case aC => k_is)
    (case lC => k_is)
    (case cC => k_is)
    (case kC => k_is)
    (case aLc => k_is)
    (case lLc => k_is)
    (case cLc => k_is)
    (case kLc => k_is)
    (case aLd => k_is)
    (case lLd => k_is)
    (case cLd => k_is)
    (case kLd => k_is)
    (case aLm => k_is)
    (case lLm => k_is)
    (case cLm => k_is)
    (case kLm => k_is)
    (case aLx => k_is)
    (case lLx => k_is)
    (case cLx => k_is)
    (case kLx => k_is)
    (case aLn => k_is)
    (case lLn => k_is)
    (case cLn => k_is)
    (case kLn => k_is)
    (case aLk => k_is)
    (case lLk => k_is)
    (case cLk => k_is)
    (case kLk => k_is)
    (case aLs => k_is)
    (case lLs => k_is)
    (case cLs => k_is)
    (case kLs => k_is)
    (case aLo => k_is)
    (case lLo => k_is)
    (case cLo => k_is)
    (case kLo => k_is)
    (case aLa => k_is)
    (case lLa => k_is)
    (case cLa => k_is)
    (case kLa => k_is)
    (case aC0 => k_is)
    (case aiM => k_is)
    (case iiM => k_is)
    (case liM => k_is)
    (case ciM => k_is)
    (case kiM => k_is)
    (case aeM => k_is)
    (case ieM => k_is)
    (case leM => k_is)
    (case ceM => k_is)
    (case keM => k_is)
    (case aoM => k_is)
    (case ioM => k_is)
    (case loM => k_is)
    (case coM => k_is)
    (case koM => k_is)
    (case aaM => k_is)
    (case iaM => k_is)
    (case laM => k_is)
    (case caM => k_is)
    (case kaM => k_is)
    (case asM => k_is)
    (case isM => k_is)
    (case lsM => k_is)
    (case csM => k_is)
    (case ksM => k_is)
    (case ahM => k_is)
    (case ihM => k_is)
    (case lhM => k_is)
    (case chM => k_is)
    (case khM => k_is)
    (case alM => k_is)
    (case ilM => k_is)
    (case llM => k_is)
    (case clM => k_is)
    (case klM => k_is)
    (case aHM => k_is)
    (case iHM => k_is)
    (case lHM => k_is)
    (case cHM => k_is)
    (case kHM => k_is)
    (case apM => k_is)
    (case gpM => k_is)
    (case tpM => k_is)
    (case rpM => k_is)
    (case lpM => k_is)
    (case cpM => k_is)
    (case kpM => k_is)
    (case pg => k_is)
    (case hd => k_is)
    (case po => k_is)
    (case sa => k_is)
    (case mk => k_is)
    (case kc => k_is)
    (case nK => k_is)
    (case tyc => k_is)
    (case tyg => k_is)
    (case tyt => k_is)
    (case tym => k_is)
    (case sf => k_is)
    (case nb => k_is)
    (case gA => k_is)
    (case gL => k_is)
    (case z0 => k_is)
    (case z1 => k_is)
    (case z2 => k_is)
    (case z3 => k_is)
    (case z4 => k_is)
    (case z5 => k_is)
    (case z6 => k_is)
    (case z7 => k_is)
    (case z8 => k_is)
    (case z9 => k_is)
    (case z10 => k_is)
    (case z11 => k_is)
