import PyProof.Rows.All
import Wide.All
import OpenK.AllK
import Wide.FinOn
import HandS.ForMost
import HandS.Set
import HandS.Strs
import HandS.SetFor
import HandS.Star
import HandS.Property
import HandS.Small
import HandS.IsInst
import HandS.Walk
import HandS.Flow
import HandS.Wide
import HandS.EndBits
import HandS.TupAny
import HandS.GenList
import HandS.MakeKwOnly
import HandS.Iter
import HandS.More
import HandS.DictComp
import HandS.Dict
import HandS.WordsDict
import HandS.OwnEq
import HandS.NoneIn
import HandS.Steps
import KE.KDictSum
import KE.GoesMore
import HandS.Style
import PySem.Challenge.RW_lockdoors_k03_whole_doubts
set_option Elab.async false
set_option linter.all false
set_option maxRecDepth 100000
set_option maxHeartbeats 2000000
/-! Sets of texts: set(sequence of texts), sorted(set), len(set), set == set. -/
namespace TxS
open PySem PySem.Spec PyProof.Rows L2

def txt (e : Int × Value) : Str := match e.2 with
  | .str z _ => z
  | _ => Str.empty
def TxE (w : World) (e : Int × Value) : Prop := ∃ z q, e.2 = Value.str z q ∧ e.1 = hashStr w z

structure Tbl (w : World) (es : Array (Int × Value)) (t : SetTable) (S : Str → Bool) : Prop where
  row : ∀ e ∈ es.toList, TxE w e
  nd : (es.toList.map txt).Nodup
  mem : ∀ z, S z = true ↔ z ∈ es.toList.map txt
  few : es.size < scanBound
  fit : t.fits es.size = true
  ris : Ris t.place.toList
  led : w.params.followText "set-order" = true ∨ t.led = true
/-- the set of texts at a: S its members, n how many -/
def SetX (w : World) (h : Heap) (a : Addr) (S : Str → Bool) (n : Nat) : Prop :=
  ∃ ob es ep t, h.get? a = some ob ∧ ob.ExactSet ∧ ob.data = .set es ep t ∧ Tbl w es t S ∧ es.size = n

section
variable {P : Program} {w : World} {h h' : Heap} {a : Addr} {S : Str → Bool} {n : Nat}
theorem SetX.move (R : SetX w h a S n) (keep : ∀ ob, h.get? a = some ob → h'.get? a = some ob) : SetX w h' a S n := by
  obtain ⟨ob, es, ep, t, hob, rest⟩ := R
  exact ⟨ob, es, ep, t, keep ob hob, rest⟩
theorem SetX.like {S' : Str → Bool} (R : SetX w h a S n) (e : ∀ z, S' z = S z) : SetX w h a S' n := (funext e : S' = S) ▸ R
theorem row_is {e : Int × Value} (r : TxE w e) (z : Str) : (PySem.strKind P w).is z e.2 = true ↔ txt e = z := by
  obtain ⟨y, q, e2, _⟩ := r
  unfold txt
  rw [e2]
  constructor
  · intro u
    obtain ⟨q', e'⟩ := Value.isStrOf_shape (x := z) (v := Value.str y q) u
    injection e'
  · intro u
    subst u
    show Value.isStrOf y (Value.str y q) = true
    simp [Value.isStrOf]
theorem rows_el {l : List (Int × Value)} (r : ∀ e ∈ l, TxE w e) : ElemsOf (PySem.strKind P w) l := fun e he => by
  obtain ⟨y, q, e2, e1⟩ := r e he
  refine ⟨⟨y, ?_, e1⟩, by rw [e2] <;> rfl⟩
  rw [e2]
  show Value.isStrOf y (Value.str y q) = true
  simp [Value.isStrOf]
theorem rows_mem {l : List (Int × Value)} (r : ∀ e ∈ l, TxE w e) (z : Str) : z ∈ l.map txt ↔ ∃ e ∈ l, (PySem.strKind P w).is z e.2 = true := by
  rw [List.mem_map]
  exact ⟨fun ⟨e, he, q⟩ => ⟨e, he, (row_is (r e he) z).2 q⟩, fun ⟨e, he, q⟩ => ⟨e, he, (row_is (r e he) z).1 q⟩⟩
theorem SetX.of (R : SetX w h a S n) : h.SetOf (PySem.strKind P w) a S n := by
  obtain ⟨ob, es, ep, t, hob, ex, hd, T, hn⟩ := R
  exact ⟨ob, es, ep, t, hob, ex, hd, rows_el T.row, fun z => (T.mem z).trans (rows_mem T.row z), T.few, T.fit, hn⟩
theorem Tbl.relay {es es2 : Array (Int × Value)} {t t2 : SetTable} (T : Tbl w es t S) (p : es2.toList.Perm es.toList) (f : t2.fits es2.size = true) (r : Ris t2.place.toList) (l : t2.led = t.led) : Tbl w es2 t2 S := by
  have sz : es2.size = es.size := by rw [← Array.length_toList, ← Array.length_toList]; exact p.length_eq
  exact ⟨fun e he => T.row e (p.mem_iff.mp he), (p.map txt).nodup_iff.mpr T.nd, fun z => (T.mem z).trans (p.map txt).mem_iff.symm, sz ▸ T.few, f, r, T.led.imp id fun q => l.trans q⟩
theorem Tbl.more {es es2 : Array (Int × Value)} {t t2 : SetTable} {z : Str} {q : Tok} (T : Tbl w es t S) (fresh : z ∉ es.toList.map txt) (p : es2.toList.Perm ((hashStr w z, Value.str z q) :: es.toList)) (b : es2.size < scanBound)
    (f : t2.fits es2.size = true) (r : Ris t2.place.toList) (l : t2.led = t.led) : Tbl w es2 t2 (fun y => S y || decide (y = z)) := by
  have pk : (es2.toList.map txt).Perm (z :: es.toList.map txt) := p.map txt
  refine ⟨fun e he => ?_, pk.nodup_iff.mpr (List.nodup_cons.mpr ⟨fresh, T.nd⟩), fun y => ?_, b, f, r, T.led.imp id fun u => l.trans u⟩
  · rcases List.mem_cons.mp (p.mem_iff.mp he) with u | u
    · exact ⟨z, q, by rw [u], by rw [u]⟩
    · exact T.row e u
  · rw [Bool.or_eq_true, decide_eq_true_eq, T.mem y, pk.mem_iff, List.mem_cons]
    exact Or.comm
end

section
variable {P : Program} {w : World} {A : Around} {E : Value → Shared → Prop} {s : Shared} {a : Addr} {S S' : Str → Bool} {n : Nat}
/-- the table is laid, and laid anew where it is too full -/
theorem lay_end {g : Bool → Sem Unit} (hg : ∀ (b : Bool) (s1 : Shared) (Q' : Unit → Shared → Prop), Q' () s1 → wpAny (model P w) A (g b) Q' E s1)
    {ob : Obj} {es es1 : Array (Int × Value)} {ep : Nat} {t t2 : SetTable} (hob : s.heap.get? a = some ob) (ex : ob.ExactSet) (hd : ob.data = .set es ep t) (T : Tbl w es1 t2 S') {dm : Bool} {R : Option Bool → Shared → Prop}
    (hR : ∀ h', Heap.SameBut a s.heap h' → SetX w h' a S' es1.size → R (some true) { s with heap := h' }) :
    wpAny (model P w) A (do
        storeSet a es1 t2
        if (!dm && t2.tooFull) = true then do
            g (relayAll t2 es1 (SetTable.grown es1.size)).2.2
            storeSet a (relayAll t2 es1 (SetTable.grown es1.size)).1 (relayAll t2 es1 (SetTable.grown es1.size)).2.1
            pure (some true)
          else pure (some true)) R E s := by
  refine wpAny_bind (wpAny_storeSet_of hob hd ?_ (fits_of_scanBound T.few))
  have st1 := store_at (es' := es1) (t' := t2) hob hd
  have same1 := Heap.SameBut.update s.heap a (Obj.putSet es1 t2)
  split
  · have T2 := T.relay (relayAll_perm t2 es1 (SetTable.grown es1.size)) (relayAll_fits t2 es1 (SetTable.grown es1.size)) (relayAll_ris t2 es1 (SetTable.grown es1.size)) (relayAll_led t2 es1 (SetTable.grown es1.size))
    have sz2 : (relayAll t2 es1 (SetTable.grown es1.size)).1.size = es1.size := by
      rw [← Array.length_toList, ← Array.length_toList]
      exact (relayAll_perm t2 es1 (SetTable.grown es1.size)).length_eq
    refine wpAny_bind (hg _ _ _ ?_)
    refine wpAny_bind (wpAny_storeSet_of st1 rfl ?_ (fits_of_scanBound T2.few))
    exact wpAny_pure (hR _ (same1.trans (Heap.SameBut.update _ a _)) ⟨_, _, _, _, store_at st1 rfl, ex, rfl, T2, sz2⟩)
  · exact wpAny_pure (hR _ same1 ⟨_, es1, _, t2, st1, ex, rfl, T, rfl⟩)

theorem add_txt {z : Str} {q : Tok} {Q : Bool → Shared → Prop} (R : SetX w s.heap a S n) (room : n + 1 < scanBound)
    (hQ : ∀ h', Heap.SameBut a s.heap h' → SetX w h' a (fun y => S y || decide (y = z)) (if S z = true then n else n + 1) → Q (!S z) { s with heap := h' }) :
    wpAny (model P w) A (setAddHashed a (.str z q) (hashStr w z)) Q E s := by
  obtain ⟨ob, es, ep, t, hob, ex, hd, T, hn⟩ := R
  have key : (PySem.strKind P w).is z (.str z q) = true := by
    show Value.isStrOf z (Value.str z q) = true
    simp [Value.isStrOf]
  have scn : (Value.str z q).scannable = true := rfl
  have els : ElemsOf (PySem.strKind P w) es.toList := rows_el T.row
  unfold setAddHashed setAddHashedIn
  refine wpAny_holding (wpAny_bind (wpAny_setState_of hob hd T.fit ?_))
  dsimp only
  rw [byScan_of scn T.few els]
  simp only [↓reduceIte]
  unfold setAddByScan
  refine wpAny_bind (wpAny_bind (wpAny_rule ?_))
  refine wpAny_bind (wpAny_setScan_of (knd := PySem.strKind P w) key hob hd T.fit els ?_)
  cases fi : List.findIdx? (fun e => (PySem.strKind P w).is z e.2) es.toList with
  | some j =>
    dsimp only
    obtain ⟨lj, pj, _⟩ := List.findIdx?_eq_some_iff_getElem.mp fi
    have yes : S z = true := (T.mem z).2 ((rows_mem (P := P) T.row z).2 ⟨es.toList[j], List.getElem_mem lj, pj⟩)
    have same : (fun y => S y || decide (y = z)) = S := funext fun y => by
      by_cases u : y = z
      · subst u
        rw [yes] <;> rfl
      · rw [decide_eq_false u, Bool.or_false]
    have done := hQ s.heap (Heap.SameBut.refl a s.heap) (by rw [same, if_pos yes]; exact ⟨ob, es, ep, t, hob, ex, hd, T, hn⟩)
    rw [yes] at done
    exact wpAny_pure (wpAny_pure done)
  | none =>
    dsimp only
    have fresh : z ∉ es.toList.map txt := fun u => by
      obtain ⟨e, he, k1⟩ := (rows_mem (P := P) T.row z).1 u
      have k2 := List.findIdx?_eq_none_iff.mp fi e he
      rw [k1] at k2
      cases k2
    have no : S z = false := Bool.eq_false_iff.mpr fun u => fresh ((T.mem z).1 u)
    have way : ∀ (b : Bool) {s1 : Shared} {Q' : Unit → Shared → Prop}, Q' () s1 → wpAny (model P w) A (match b with | true => rule "set.scan.the-table-gave-way" | false => pure ()) Q' E s1 := by
      intro b s1 Q' u
      cases b
      · exact wpAny_pure u
      · exact wpAny_rule u
    have p0 := layNew_perm t es ((PySem.strKind P w).hash z) (.str z q)
    have f0 := layNew_fits t es ((PySem.strKind P w).hash z) (.str z q)
    have r0 := layNew_ris t es ((PySem.strKind P w).hash z) (.str z q) T.ris
    have l0 := layNew_led t es ((PySem.strKind P w).hash z) (.str z q)
    show wpAny _ _ _ _ _ _
    have hh : (PySem.strKind P w).hash z = hashStr w z := rfl
    rw [hh] at p0 f0 r0 l0
    generalize layNew t es (hashStr w z) (.str z q) = Z at p0 f0 r0 l0 ⊢
    obtain ⟨es1, t1, dm, gv⟩ := Z
    dsimp only at p0 f0 r0 l0 ⊢
    rw [Array.toList_push] at p0
    have p1 : es1.toList.Perm ((hashStr w z, Value.str z q) :: es.toList) := p0.trans (List.perm_append_singleton _ _)
    have sz : es1.size = n + 1 := by
      rw [← Array.length_toList, p1.length_eq, List.length_cons, Array.length_toList, hn]
    have bd : es1.size < scanBound := by rw [sz]; exact room
    have T1 : ∀ t' : SetTable, t'.fits es1.size = true → Ris t'.place.toList → t'.led = t1.led → Tbl w es1 t' (fun y => S y || decide (y = z)) := fun t' a b c => T.more fresh p1 bd a b (c.trans l0)
    have fin : ∀ h', Heap.SameBut a s.heap h' → SetX w h' a (fun y => S y || decide (y = z)) es1.size → Q true { s with heap := h' } := fun h' sb r => by
      have u := hQ h' sb
      rw [no] at u
      rw [sz] at r
      exact u r
    refine wpAny_bind (way _ ?_)
    split
    · refine wpAny_bind ?_
      rw [hashByValue_scannable 8 scn]
      refine wpAny_pure ?_
      refine lay_end (fun b s1 Q' u => ?_) hob ex hd (T1 _ ?_ ?_ ?_) ?_
      · cases b <;> first | exact wpAny_pure u | exact wpAny_rule u
      · first | exact f0 | (split <;> first | exact f0 | exact SetTable.fits_plain_off f0)
      · first | exact r0 | (split <;> exact r0)
      · first | rfl | (split <;> rfl)
      · intro h' sb r
        exact wpAny_pure (fin h' sb r)
    · refine wpAny_bind (wpAny_pure ?_)
      simp only [↓reduceIte]
      refine lay_end (fun b s1 Q' u => ?_) hob ex hd (T1 _ f0 r0 rfl) ?_
      · cases b <;> first | exact wpAny_pure u | exact wpAny_rule u
      · intro h' sb r
        exact wpAny_pure (fin h' sb r)
end

/-! ### set(sequence of texts) -/
abbrev freshSet (w : World) : Obj := { cls := .type "set", dict := none, data := .set #[] 0 (.fresh 0 0 (!w.params.followText "set-order")) }
theorem fresh_at {w : World} {h : Heap} {a : Addr} (hob : h.get? a = some (freshSet w)) : SetX w h a (fun _ => false) 0 := by
  refine ⟨_, #[], 0, _, hob, ⟨rfl, rfl, rfl⟩, rfl, ⟨fun e he => (by cases he), List.Pairwise.nil, fun z => ⟨fun u => (by cases u), fun u => (by cases u)⟩, by decide, by rfl, List.Pairwise.nil, ?_⟩, rfl⟩
  show _ ∨ (!w.params.followText "set-order") = true
  cases w.params.followText "set-order" <;> simp

section
variable {P : Program} {w : World} {A : Around} {E : Value → Shared → Prop} {s : Shared}
theorem upd_loop {I : Addr} {fp wr : List Addr} {G : Array GenState → Array GenState → Prop} {n : Nat} {Pv : Nat → Value → Prop} {St : Nat → Shared → Prop} {R : Result → Shared → Prop}
    (W : WalksS P w A.in1 I fp wr G n Pv St) (D : Addr) (off : D ∉ fp) (zs : List Str) (len : n = zs.length) (few : zs.length + 1 < scanBound) (val : ∀ i v, Pv i v → ∃ z q, zs[i]? = some z ∧ v = .str z q) :
    ∀ (k i : Nat) (s : Shared), n - i = k → i ≤ n → St i s → (∃ c, c ≤ i ∧ SetX w s.heap D (fun y => decide (y ∈ zs.take i)) c) →
      (∀ s' c, Moved (D :: wr) G s s' → c ≤ n → SetX w s'.heap D (fun y => decide (y ∈ zs)) c → R (.ok (.ret .none)) s') →
      codeAny (model P w) A (.builtin "set.update.loop" ⟨[.ref D, .ref I], []⟩) R s := by
  have offW : D ∉ wr := fun u => off (W.sub _ u)
  have wide : ∀ b ∈ wr, b ∈ D :: wr := fun b u => List.mem_cons_of_mem _ u
  intro k
  induction k with
  | zero =>
    rintro i s ek hi st ⟨c, hc, X⟩ hR
    obtain rfl : i = n := by omega
    rw [List.take_of_length_le (by omega)] at X
    refine codeAny_builtin F.entry_set_update_loop ?_
    rw [Around.under_plainId F.plain_set_update_loop _]
    refine wpAny_bind (m := pyNext (.ref I)) (W.done s _ _ st fun s' mv => ?_)
    exact wpAny_pure (hR s' c (mv.mono wide) hc (X.move fun o e => mv.heap D o offW e))
  | succ k ih =>
    rintro i s ek hi st ⟨c, hc, X⟩ hR
    have lt : i < n := by omega
    refine codeAny_builtin F.entry_set_update_loop ?_
    rw [Around.under_plainId F.plain_set_update_loop _]
    refine wpAny_bind (m := pyNext (.ref I)) (W.item i s _ _ lt st fun v s' pv st' mv => ?_)
    obtain ⟨z, q, hz, rfl⟩ := val i v pv
    have X1 : SetX w s'.heap D (fun y => decide (y ∈ zs.take i)) c := X.move fun o e => mv.heap D o offW e
    refine wpAny_bind (m := holding [Value.str z q] (setAdd D (.str z q))) (wpAny_holding ?_)
    unfold setAdd
    refine wpAny_holding (wpAny_bind (wpAny_pyHash_str ?_))
    refine add_txt (s := { s' with toks := s'.toks + 1 }) X1 (by omega) fun h' same X2 => ?_
    have X3 : SetX w h' D (fun y => decide (y ∈ zs.take (i + 1))) (if decide (z ∈ zs.take i) = true then c else c + 1) := X2.like fun y => by
      rw [List.take_add_one, hz]
      simp [List.mem_append]
    have hc3 : (if decide (z ∈ zs.take i) = true then c else c + 1) ≤ i + 1 := by
      by_cases u : decide (z ∈ zs.take i) = true
      · rw [if_pos u]
        omega
      · rw [if_neg u]
        omega
    refine wpAny_pure ⟨plainId_quiet F.plain_set_update_loop _, ih (i + 1) _ (by omega) lt (W.frame _ s' _ _ st' (Nat.le_succ _) fun b hb o e => ?_) ⟨_, hc3, X3⟩ fun s2 c2 mv2 hc2 X4 => ?_⟩
    · exact (same.2 b fun u : b = D => off (u ▸ hb)).trans e
    · refine hR s2 c2 (Moved.trans W.gtrans ((mv.mono wide).then_heap (Nat.le_succ _) fun b o hb e => ?_) mv2) hc2 X4
      exact (same.2 b fun u : b = D => hb (u ▸ List.mem_cons_self)).trans e

theorem at_txt {us : List Value} {zs : List Str} (r : StrsAre us zs) (i : Nat) (v : Value) (e : us[i]? = some v) : ∃ z q, zs[i]? = some z ∧ v = .str z q := by
  obtain ⟨q, e2⟩ := SS.strs_at r i v e
  have h1 : i < us.length := (List.getElem?_eq_some_iff.mp e).1
  have h2 : i < zs.length := by rw [← StrsAre.len_eq r]; exact h1
  refine ⟨zs[i], q, List.getElem?_eq_getElem h2, ?_⟩
  rw [e2, List.getD_eq_getElem?_getD, List.getElem?_eq_getElem h2] <;> rfl

set_option maxHeartbeats 6400000 in
theorem call_setT {l : Addr} {its : Array Value} (zs : List Str) {Q : Value → Shared → Prop} (calm : A.handled = none) (hl : s.heap.IsTuple l its) (hz : StrsAre its.toList zs) (few : zs.length + 1 < scanBound)
    (done : ∀ (h' : Heap) (tk c : Nat), SetX w h' s.heap.objs.size (fun y => decide (y ∈ zs)) c → c ≤ zs.length → (∀ b o, s.heap.get? b = some o → h'.get? b = some o) → Q (.ref s.heap.objs.size) { s with heap := h', toks := tk }) :
    wpAny (model P w) A (call (.type "set") [.ref l]) Q E s := by
  have sz : its.size = zs.length := by
    rw [← StrsAre.len_eq hz, Array.length_toList]
  obtain ⟨k0, k1, m1⟩ := F.called_set.mro
  have m2 := F.called_set.made
  have m3 := F.called_set.sub
  refine wpAny_call (codeAny_of_tree ?_)
  show wpAny _ _ (callAny (.type "set") _) _ _ _
  refine wpAny_pure ⟨Code.quiet_builtin _ (by decide +kernel), codeAny_builtin F.entry_type_call ?_⟩
  rw [Around.under_plain (weight_type_call_type "set" [.ref l] []) rfl]
  have m4 := F.called_set.notType
  have m5 := F.called_set.canCreate
  have m6 := F.typeCall_set_1 (.ref l)
  repeat (any_goals (first | assumption | wp_step))
  refine codeAny_mono (code_set_led1 (.ref l) (E := E) (Q₁ := fun v s1 => v = .ref s.heap.objs.size ∧ s1 = { s with heap := s.heap.push (freshSet w) }) ⟨rfl, rfl⟩) fun r s1 hr => ?_
  cases r with
  | error e => exact hr
  | ok fl =>
    cases fl with
    | ret v =>
      obtain ⟨rfl, rfl⟩ := hr
      have g0 : (s.heap.push (freshSet w)).get? s.heap.objs.size = some (freshSet w) := Heap.get?_push_size _ rfl
      have ty0 : Shared.TypeIs { s with heap := s.heap.push (freshSet w) } (.ref s.heap.objs.size) "set" := ⟨_, g0, rfl⟩
      have m7 := F.called_set.init.lookup
      have m8 := F.called_set.init.bind (.ref s.heap.objs.size)
      repeat (any_goals (first | assumption | wp_step))
      refine codeAny_mono (codeAny_call_builtin (R := wants (fun r s2 => r = .none ∧ ∃ h' tk c, s2 = { s with heap := h', toks := tk } ∧ SetX w h' s.heap.objs.size (fun y => decide (y ∈ zs)) c ∧ c ≤ zs.length ∧
          (∀ b o, s.heap.get? b = some o → h'.get? b = some o)) E) F.called_set.init.plain F.entry_set_init (check_set_init_1 ty0 ?_)) fun r2 s2 hr2 => ?_
      · obtain ⟨⟨oc, od, odt, osl⟩, ho, hcl, nl, hdl⟩ := hl
        simp only at hcl hdl
        subst hcl hdl
        have ho1 : (s.heap.push (freshSet w)).get? l = some { cls := .type "tuple", dict := od, data := .seq its nl, slots := osl } := Heap.get?_push_of_some _ ho
        have n1 := F.sub_tuple_set
        have n2 := F.sub_tuple_frozenset
        have n3 : (Value.type "tuple" == Value.type "dict") = false := by decide
        have isT : (s.heap.push (freshSet w)).IsTuple l its := ⟨_, ho1, rfl, nl, rfl⟩
        unfold Builtin.«set.__init__» noKeywords Builtin.Frozenset.updateFrom
        generalize ePI : pyIter = PI
        wp_walk
        subst ePI
        refine wpAny_pyIter_tuple isT ?_
        refine wpAny_bind (wpAny_runValue ?_)
        have ll : l < s.heap.objs.size := Heap.lt_size ho
        have cm : A.in1.in1.in1.handled = none := by simp [calm]
        have zz : (s.heap.push (freshSet w)).objs.size = s.heap.objs.size + 1 := Heap.size_push ..
        have nI : l ≠ (s.heap.push (freshSet w)).objs.size := by rw [zz]; exact Nat.ne_of_lt (Nat.lt_succ_of_lt ll)
        have nF : s.heap.objs.size ∉ [(s.heap.push (freshSet w)).objs.size, l] := by
          simp only [List.mem_cons, List.not_mem_nil, or_false, not_or]
          exact ⟨by rw [zz]; exact Nat.ne_of_lt (Nat.lt_succ_self _), Nat.ne_of_gt ll⟩
        refine upd_loop ((Walks.tuple cm _ l nI its).toS) s.heap.objs.size nF zs sz few (fun i v hv => at_txt hz i v (by rw [Array.getElem?_toList]; exact hv)) (its.size - 0) 0 _ (by omega) (Nat.zero_le _)
          ⟨⟨_, Heap.get?_push_size _ rfl, rfl, rfl⟩, (isT.push _)⟩ ⟨0, Nat.le_refl 0, ?_⟩ fun s' c' mv hc' X' => ?_
        · exact (fresh_at (Heap.get?_push_of_some _ g0)).like fun y => by simp
        · obtain ⟨h', g2, d2, tk2, os2⟩ := s'
          obtain rfl : g2 = s.gens := mv.gens
          obtain rfl : d2 = s.drawn := mv.drawn
          obtain rfl : os2 = s.os := mv.os
          show wpAny _ _ _ _ _ _
          refine wpAny_pure (wpAny_pure ⟨rfl, h', tk2, c', rfl, X', by omega, fun b o e => ?_⟩)
          have bl : b < s.heap.objs.size := Heap.lt_size e
          refine mv.heap b o ?_ (Heap.get?_push_of_some _ (Heap.get?_push_of_some _ e))
          simp only [List.mem_cons, List.not_mem_nil, or_false, not_or]
          exact ⟨Nat.ne_of_lt bl, by rw [zz]; exact Nat.ne_of_lt (Nat.lt_succ_of_lt bl)⟩
      · cases r2 with
        | error e => exact hr2
        | ok fl2 =>
          cases fl2 with
          | ret r =>
            obtain ⟨rfl, h', tk, c', rfl, X', hc', kp⟩ := hr2
            repeat (any_goals (first | assumption | wp_step))
            exact done _ _ _ X' hc' kp
          | _ => exact hr2.elim
    | _ => exact hr.elim

set_option maxHeartbeats 6400000 in
theorem call_setL {l : Addr} {its : Array Value} (zs : List Str) {Q : Value → Shared → Prop} (calm : A.handled = none) (hl : s.heap.IsList l its) (hz : StrsAre its.toList zs) (few : zs.length + 1 < scanBound)
    (done : ∀ (h' : Heap) (tk c : Nat), SetX w h' s.heap.objs.size (fun y => decide (y ∈ zs)) c → c ≤ zs.length → (∀ b o, s.heap.get? b = some o → h'.get? b = some o) → Q (.ref s.heap.objs.size) { s with heap := h', toks := tk }) :
    wpAny (model P w) A (call (.type "set") [.ref l]) Q E s := by
  have sz : its.size = zs.length := by
    rw [← StrsAre.len_eq hz, Array.length_toList]
  obtain ⟨k0, k1, m1⟩ := F.called_set.mro
  have m2 := F.called_set.made
  have m3 := F.called_set.sub
  refine wpAny_call (codeAny_of_tree ?_)
  show wpAny _ _ (callAny (.type "set") _) _ _ _
  refine wpAny_pure ⟨Code.quiet_builtin _ (by decide +kernel), codeAny_builtin F.entry_type_call ?_⟩
  rw [Around.under_plain (weight_type_call_type "set" [.ref l] []) rfl]
  have m4 := F.called_set.notType
  have m5 := F.called_set.canCreate
  have m6 := F.typeCall_set_1 (.ref l)
  repeat (any_goals (first | assumption | wp_step))
  refine codeAny_mono (code_set_led1 (.ref l) (E := E) (Q₁ := fun v s1 => v = .ref s.heap.objs.size ∧ s1 = { s with heap := s.heap.push (freshSet w) }) ⟨rfl, rfl⟩) fun r s1 hr => ?_
  cases r with
  | error e => exact hr
  | ok fl =>
    cases fl with
    | ret v =>
      obtain ⟨rfl, rfl⟩ := hr
      have g0 : (s.heap.push (freshSet w)).get? s.heap.objs.size = some (freshSet w) := Heap.get?_push_size _ rfl
      have ty0 : Shared.TypeIs { s with heap := s.heap.push (freshSet w) } (.ref s.heap.objs.size) "set" := ⟨_, g0, rfl⟩
      have m7 := F.called_set.init.lookup
      have m8 := F.called_set.init.bind (.ref s.heap.objs.size)
      repeat (any_goals (first | assumption | wp_step))
      refine codeAny_mono (codeAny_call_builtin (R := wants (fun r s2 => r = .none ∧ ∃ h' tk c, s2 = { s with heap := h', toks := tk } ∧ SetX w h' s.heap.objs.size (fun y => decide (y ∈ zs)) c ∧ c ≤ zs.length ∧
          (∀ b o, s.heap.get? b = some o → h'.get? b = some o)) E) F.called_set.init.plain F.entry_set_init (check_set_init_1 ty0 ?_)) fun r2 s2 hr2 => ?_
      · obtain ⟨⟨oc, od, odt, osl⟩, ho, hcl, nl, hdl⟩ := hl
        simp only at hcl hdl
        subst hcl hdl
        have ho1 : (s.heap.push (freshSet w)).get? l = some { cls := .type "list", dict := od, data := .seq its nl, slots := osl } := Heap.get?_push_of_some _ ho
        have n1 := F.sub_list_set
        have n2 := F.sub_list_frozenset
        have n3 : (Value.type "list" == Value.type "dict") = false := by decide
        have isT : (s.heap.push (freshSet w)).IsList l its := ⟨_, ho1, rfl, nl, rfl⟩
        unfold Builtin.«set.__init__» noKeywords Builtin.Frozenset.updateFrom
        generalize ePI : pyIter = PI
        wp_walk
        subst ePI
        refine wpAny_pyIter_list isT ?_
        refine wpAny_bind (wpAny_runValue ?_)
        have ll : l < s.heap.objs.size := Heap.lt_size ho
        have cm : A.in1.in1.in1.handled = none := by simp [calm]
        have zz : (s.heap.push (freshSet w)).objs.size = s.heap.objs.size + 1 := Heap.size_push ..
        have nI : l ≠ (s.heap.push (freshSet w)).objs.size := by rw [zz]; exact Nat.ne_of_lt (Nat.lt_succ_of_lt ll)
        have nF : s.heap.objs.size ∉ [(s.heap.push (freshSet w)).objs.size, l] := by
          simp only [List.mem_cons, List.not_mem_nil, or_false, not_or]
          exact ⟨by rw [zz]; exact Nat.ne_of_lt (Nat.lt_succ_self _), Nat.ne_of_gt ll⟩
        refine upd_loop ((Walks.list cm _ l nI its).toS) s.heap.objs.size nF zs sz few (fun i v hv => at_txt hz i v (by rw [Array.getElem?_toList]; exact hv)) (its.size - 0) 0 _ (by omega) (Nat.zero_le _)
          ⟨⟨_, Heap.get?_push_size _ rfl, rfl, rfl⟩, (isT.push _)⟩ ⟨0, Nat.le_refl 0, ?_⟩ fun s' c' mv hc' X' => ?_
        · exact (fresh_at (Heap.get?_push_of_some _ g0)).like fun y => by simp
        · obtain ⟨h', g2, d2, tk2, os2⟩ := s'
          obtain rfl : g2 = s.gens := mv.gens
          obtain rfl : d2 = s.drawn := mv.drawn
          obtain rfl : os2 = s.os := mv.os
          show wpAny _ _ _ _ _ _
          refine wpAny_pure (wpAny_pure ⟨rfl, h', tk2, c', rfl, X', by omega, fun b o e => ?_⟩)
          have bl : b < s.heap.objs.size := Heap.lt_size e
          refine mv.heap b o ?_ (Heap.get?_push_of_some _ (Heap.get?_push_of_some _ e))
          simp only [List.mem_cons, List.not_mem_nil, or_false, not_or]
          exact ⟨Nat.ne_of_lt bl, by rw [zz]; exact Nat.ne_of_lt (Nat.lt_succ_of_lt bl)⟩
      · cases r2 with
        | error e => exact hr2
        | ok fl2 =>
          cases fl2 with
          | ret r =>
            obtain ⟨rfl, h', tk, c', rfl, X', hc', kp⟩ := hr2
            repeat (any_goals (first | assumption | wp_step))
            exact done _ _ _ X' hc' kp
          | _ => exact hr2.elim
    | _ => exact hr.elim
end
end TxS
set_option Elab.async false
set_option linter.all false
set_option maxRecDepth 100000
set_option maxHeartbeats 2000000
namespace TxS
open PySem PySem.Spec PyProof.Rows L2

/-! ### ascending lists of texts -/
def Sl (a b : Str) : Prop := a.cps.toList < b.cps.toList
instance (a b : Str) : Decidable (Sl a b) := inferInstanceAs (Decidable (a.cps.toList < b.cps.toList))
theorem sl_irr (a : Str) : ¬ Sl a a := List.lt_irrefl _
theorem sl_trans {a b c : Str} (h : Sl a b) (k : Sl b c) : Sl a c := List.lt_trans h k
theorem str_ext {a b : Str} (h : a.cps.toList = b.cps.toList) : a = b := by
  cases a
  cases b
  simp only [Str.mk.injEq]
  exact Array.toList_inj.mp h
theorem sl_total (a b : Str) : Sl a b ∨ a = b ∨ Sl b a := by
  by_cases h : Sl a b
  · exact .inl h
  · by_cases k : Sl b a
    · exact .inr (.inr k)
    · exact .inr (.inl (str_ext (List.le_antisymm (List.not_lt.mp k) (List.not_lt.mp h))))
abbrev Asc (l : List Str) : Prop := l.Pairwise Sl
theorem asc_same : ∀ {l m : List Str}, Asc l → Asc m → (∀ z, z ∈ l ↔ z ∈ m) → l = m
  | [], [], _, _, _ => rfl
  | [], y :: m, _, _, h => absurd ((h y).2 List.mem_cons_self) (by simp)
  | x :: l, [], _, _, h => absurd ((h x).1 List.mem_cons_self) (by simp)
  | x :: l, y :: m, hl, hm, h => by
    obtain ⟨l1, l2⟩ := List.pairwise_cons.mp hl
    obtain ⟨m1, m2⟩ := List.pairwise_cons.mp hm
    have exy : x = y := by
      rcases List.mem_cons.mp ((h x).1 List.mem_cons_self) with e | e
      · exact e
      · rcases List.mem_cons.mp ((h y).2 List.mem_cons_self) with e2 | e2
        · exact e2.symm
        · exact absurd (sl_trans (m1 x e) (l1 y e2)) (sl_irr y)
    subst exy
    refine congrArg (x :: ·) (asc_same l2 m2 fun z => ⟨fun u => ?_, fun u => ?_⟩)
    · rcases List.mem_cons.mp ((h z).1 (List.mem_cons_of_mem _ u)) with e | e
      · subst e
        exact absurd (l1 z u) (sl_irr z)
      · exact e
    · rcases List.mem_cons.mp ((h z).2 (List.mem_cons_of_mem _ u)) with e | e
      · subst e
        exact absurd (m1 z u) (sl_irr z)
      · exact e
def ins (z : Str) : List Str → List Str
  | [] => [z]
  | x :: r => if Sl z x then z :: x :: r else if z = x then x :: r else x :: ins z r
def srt (l : List Str) : List Str := l.foldr ins []
theorem mem_ins (z : Str) : ∀ (l : List Str) (y : Str), y ∈ ins z l ↔ y = z ∨ y ∈ l
  | [], y => by simp [ins]
  | x :: r, y => by
    unfold ins
    by_cases h : Sl z x
    · rw [if_pos h]
      simp
    · rw [if_neg h]
      by_cases k : z = x
      · rw [if_pos k]
        subst k
        simp
      · rw [if_neg k, List.mem_cons, mem_ins z r y, List.mem_cons]
        constructor
        · rintro (a | a | a)
          · exact .inr (.inl a)
          · exact .inl a
          · exact .inr (.inr a)
        · rintro (a | a | a)
          · exact .inr (.inl a)
          · exact .inl a
          · exact .inr (.inr a)
theorem asc_ins (z : Str) : ∀ l : List Str, Asc l → Asc (ins z l)
  | [], _ => List.pairwise_singleton _ _
  | x :: r, h => by
    obtain ⟨h1, h2⟩ := List.pairwise_cons.mp h
    unfold ins
    by_cases a : Sl z x
    · rw [if_pos a]
      refine List.pairwise_cons.mpr ⟨fun y hy => ?_, h⟩
      rcases List.mem_cons.mp hy with e | e
      · exact e ▸ a
      · exact sl_trans a (h1 y e)
    · rw [if_neg a]
      by_cases k : z = x
      · rw [if_pos k]
        exact h
      · rw [if_neg k]
        refine List.pairwise_cons.mpr ⟨fun y hy => ?_, asc_ins z r h2⟩
        rcases (mem_ins z r y).1 hy with e | e
        · subst e
          rcases sl_total x y with q | q | q
          · exact q
          · exact absurd q.symm k
          · exact absurd q a
        · exact h1 y e
theorem asc_srt : ∀ l : List Str, Asc (srt l)
  | [] => List.Pairwise.nil
  | z :: r => asc_ins z (srt r) (asc_srt r)
theorem mem_srt : ∀ (l : List Str) (y : Str), y ∈ srt l ↔ y ∈ l
  | [], y => Iff.rfl
  | z :: r, y => by
    show y ∈ ins z (srt r) ↔ _
    rw [mem_ins, mem_srt r y, List.mem_cons]
theorem srt_eq {l m : List Str} (h : ∀ z, z ∈ l ↔ z ∈ m) : srt l = srt m := asc_same (asc_srt l) (asc_srt m) fun z => by rw [mem_srt, mem_srt, h z]
theorem srt_of {l m : List Str} (a : Asc m) (h : ∀ z, z ∈ m ↔ z ∈ l) : m = srt l := asc_same a (asc_srt l) fun z => by rw [mem_srt, h z]
theorem srt_asc {l : List Str} (a : Asc l) : srt l = l := (srt_of a fun _ => Iff.rfl).symm
theorem srt_iff {l m : List Str} : srt l = srt m ↔ ∀ z, z ∈ l ↔ z ∈ m := ⟨fun e z => by rw [← mem_srt l z, e, mem_srt], srt_eq⟩
theorem len_ins (z : Str) : ∀ l : List Str, (ins z l).length ≤ l.length + 1
  | [] => Nat.le_refl _
  | x :: r => by
    unfold ins
    have ih := len_ins z r
    split
    · exact Nat.le_refl _
    · split
      · exact Nat.le_succ _
      · simp only [List.length_cons]
        omega
theorem len_srt : ∀ l : List Str, (srt l).length ≤ l.length
  | [] => Nat.le_refl _
  | z :: r => by
    have := len_srt r
    have := len_ins z (srt r)
    show (ins z (srt r)).length ≤ r.length + 1
    omega
theorem asc_of : ∀ {l : List Str}, sortedS l = true → l.Nodup → Asc l
  | [], _, _ => List.Pairwise.nil
  | x :: r, h, nd => by
    have go : ∀ (r : List Str) (p : Str), risingS p r = true → (p :: r).Nodup → Asc (p :: r) := by
      intro r
      induction r with
      | nil => intro p _ _; exact List.pairwise_singleton _ _
      | cons y r ih =>
        intro p h nd
        have h0 : (!ltCps y.cps.toList p.cps.toList && risingS y r) = true := h
        obtain ⟨h1, h2⟩ := Bool.and_eq_true_iff.mp h0
        obtain ⟨n1, n2⟩ := List.nodup_cons.mp nd
        have t := ih y h2 n2
        have py : Sl p y := by
          rcases sl_total p y with q | q | q
          · exact q
          · exact absurd (q ▸ List.mem_cons_self) n1
          · exfalso
            have : ltCps y.cps.toList p.cps.toList = true := (ltCps_eq _ _).trans (decide_eq_true q)
            rw [this] at h1
            cases h1
        refine List.pairwise_cons.mpr ⟨fun z hz => ?_, t⟩
        rcases List.mem_cons.mp hz with e | e
        · exact e ▸ py
        · exact sl_trans py ((List.pairwise_cons.mp t).1 z e)
    exact go r x h nd

/-! ### sorted(set) -/
section
variable {P : Program} {w : World} {A : Around} {E : Value → Shared → Prop} {s : Shared} {a : Addr} {S : Str → Bool} {n : Nat}
theorem strs_of : ∀ (l : List Value), (∀ v ∈ l, ∃ z q, v = Value.str z q) → ∃ zs : List Str, StrsAre l zs ∧ zs = l.map fun v => txt (0, v)
  | [], _ => ⟨[], .nil, rfl⟩
  | v :: l, h => by
    obtain ⟨z, q, rfl⟩ := h v List.mem_cons_self
    obtain ⟨zs, r, e⟩ := strs_of l fun u hu => h u (List.mem_cons_of_mem _ hu)
    exact ⟨z :: zs, .cons z q r, by rw [e]; rfl⟩
theorem sort_set {Q : Value → Shared → Prop} (R : SetX w s.heap a S n) (calm : A.handled = none) (few : n < 64)
    (done : ∀ s' p (out : Array Value) (c : Nat) (ys : List Str), (∀ b o, s.heap.get? b = some o → s'.heap.get? b = some o) → s'.gens = s.gens → s'.os = s.os → s.heap.objs.size ≤ p →
      s'.heap.get? p = some (seqObj "list" out c) → StrsAre out.toList ys → Asc ys → (∀ z, z ∈ ys ↔ S z = true) → ys.length = n → Q (.ref p) s') :
    wpAny (model P w) A (call (.builtin "sorted") [.ref a]) Q E s := by
  obtain ⟨ob, es, ep, t, hob, ex, hd, T, hn⟩ := R
  refine Calls.call_function_entry kind_sorted plain_sorted entry_sorted (args_sorted1 _) ?_
  unfold Builtin.«sorted»
  refine wpAny_bind (m := checkCount "sorted" 1 1 _) (wpAny_pure (wpAny_bind (collect_set (A := A.in1) calm ⟨ob, hob, ex.1, hd⟩ T.fit T.few T.ris T.led fun s1 vs kp sz g1 o1 pm => ?_)))
  have lv : vs.length = n := by rw [pm.length_eq, List.length_map, Array.length_toList]; exact hn
  obtain ⟨zs, hz, ez⟩ := strs_of vs fun v hv => by
    obtain ⟨e, he, q⟩ := List.mem_map.mp (pm.mem_iff.mp hv)
    obtain ⟨y, tk, h1, _⟩ := T.row e he
    exact ⟨y, tk, by rw [← q]; exact h1⟩
  have pk : zs.Perm (es.toList.map txt) := by
    rw [ez]
    have q := pm.map fun v => txt (0, v)
    rw [List.map_map] at q
    exact q
  refine wpAny_bind (wpAny_newList ?_ (by rw [lv, sizeLine_eq]; omega))
  have at1 : (s1.heap.push (seqObj "list" vs.toArray 0)).get? s1.heap.objs.size = some (seqObj "list" vs.toArray 0) := Heap.get?_push_size _ rfl
  refine wpAny_bind (wpAny_holding (wpAny_call_entry slot_list_sort ⟨_, at1, rfl⟩ entry_list_sort (list_sort_treeK strKind_oneLt at1 hz.keysOf (fun v1 v2 rest e => keyKind_strs (by rw [← e]; exact hz)) (by rw [lv]; exact few) fun st' a1 a2 => ⟨_, rfl, ?_⟩) (args_list_sort _)))
  obtain ⟨ys, y1, y2, y3⟩ := sorted_out_str hz a1 a2
  obtain ⟨c, hc⟩ := sortedHeap_at (vs := vs) (out := (arrOf st').map (·.2)) at1
  have py : ys.Perm (es.toList.map txt) := y2.trans pk
  refine wpAny_pure ⟨_, rfl, done _ s1.heap.objs.size _ c ys (fun b u e => ?_) g1 o1 sz hc y1 (asc_of y3 (py.nodup_iff.mpr T.nd)) (fun z => by rw [py.mem_iff, ← T.mem z]) (by rw [py.length_eq, List.length_map, Array.length_toList]; exact hn)⟩
  have q := kp b u e
  have lt := Heap.lt_size q
  refine Eq.trans (sortedHeap_old (Nat.ne_of_lt lt) ?_) (Heap.get?_push_of_some _ q)
  rw [size_push']
  exact Nat.lt_succ_of_lt lt
end

/-! ### set == set -/
section
variable {P : Program} {w : World} {A : Around} {E : Value → Shared → Prop} {s : Shared} {a b : Addr} {S S' : Str → Bool} {n m : Nat}
theorem entry_set_eq : entryFor table "set.__eq__" = some Builtin.«frozenset.__eq__» :=
  entryFor_alias (id' := "frozenset.__eq__") (by kernel_rfl) rfl (by decide +kernel) (by kernel_rfl)
theorem any_set {Q : Bool → Shared → Prop} (ty : s.TypeIs (.ref a) "set") (h : Q true s) : wpAny (model P w) A (Builtin.Frozenset.isAnySet (.ref a)) Q E s := by
  unfold Builtin.Frozenset.isAnySet orM
  refine wpAny_bind (wpAny_isInstance ty sub_set_self ?_)
  exact wpAny_pure h
theorem quiet_txt {z : Str} {q : Tok} : Builtin.Frozenset.quietEq (.str z q) = pure true := rfl
theorem size_set {Q : Nat → Shared → Prop} (R : SetX w s.heap a S n) (h : Q n s) : wpAny (model P w) A (Builtin.Frozenset.sizeOf a) Q E s := by
  obtain ⟨ob, es, ep, t, hob, ex, hd, T, hn⟩ := R
  unfold Builtin.Frozenset.sizeOf
  refine wpAny_bind (wpAny_setEntries_of hob hd T.fit (wpAny_pure ?_))
  rw [hn]
  exact h
theorem SetX.ty (R : SetX w s.heap a S n) : s.TypeIs (.ref a) "set" := by
  obtain ⟨ob, es, ep, t, hob, ex, hd, T, hn⟩ := R
  exact ⟨ob, hob, ex.1⟩
theorem full_of : ∀ {l m : List Str}, l.Nodup → (∀ x ∈ l, x ∈ m) → m.length ≤ l.length → ∀ x ∈ m, x ∈ l
  | [], m, _, _, hl, x, hx => by
    have : m = [] := List.eq_nil_of_length_eq_zero (Nat.le_zero.mp hl)
    rw [this] at hx
    cases hx
  | a :: l, m, nd, hs, hl, x, hx => by
    obtain ⟨n1, n2⟩ := List.nodup_cons.mp nd
    have am : a ∈ m := hs a List.mem_cons_self
    have le : (m.erase a).length ≤ l.length := by
      rw [List.length_erase_of_mem am]
      rw [List.length_cons] at hl
      omega
    by_cases e : x = a
    · exact e ▸ List.mem_cons_self
    · refine List.mem_cons_of_mem _ (full_of n2 (fun y hy => ?_) le x ((List.mem_erase_of_ne e).mpr hx))
      exact (List.mem_erase_of_ne fun u : y = a => n1 (u ▸ hy)).mpr (hs y (List.mem_cons_of_mem _ hy))
theorem walk_unseen {Q : List (Int × Value) → Shared → Prop} {ob ob' : Obj} {es es' : Array (Int × Value)} {ep ep' : Nat} {t t' : SetTable} (hob : s.heap.get? a = some ob) (hd : ob.data = .set es ep t) (T : Tbl w es t S)
    (hob' : s.heap.get? b = some ob') (hd' : ob'.data = .set es' ep' t') (T' : Tbl w es' t' S') (h : Q es.toList s) : wpAny (model P w) A (Builtin.Frozenset.walkUnseen a b) Q E s := by
  unfold Builtin.Frozenset.walkUnseen
  refine wpAny_bind (wpAny_setEntries_of hob hd T.fit ?_)
  refine wpAny_bind (wpAny_setEntries_of hob' hd' T'.fit ?_)
  refine wpAny_bind (wpAny_forIn_list _ (fun rest x s' => (∀ e ∈ rest, TxE w e) ∧ x.1 = none ∧ s' = s) _ ?_ ?_ _ _ ⟨fun e he => ?_, rfl, rfl⟩)
  · rintro ⟨h0, v⟩ rest x s' ⟨hr, hx, rfl⟩
    obtain ⟨z, q, e2, _⟩ := hr _ List.mem_cons_self
    have e2' : v = Value.str z q := e2
    subst e2'
    refine wpAny_bind (wpAny_of_eq quiet_txt ?_)
    exact wpAny_pure ⟨fun e he => hr e (List.mem_cons_of_mem _ he), rfl, rfl⟩
  · rintro ⟨x1, x2⟩ s' ⟨_, hx, rfl⟩
    have hx' : x1 = none := hx
    subst hx'
    exact wpAny_pure h
  · rcases List.mem_append.mp he with u | u
    · exact T.row e u
    · exact T'.row e u
theorem sub_set {id : String} {Q : Bool → Shared → Prop} (R : SetX w s.heap a S n) (R' : SetX w s.heap b S' m) (le : ¬ n > m) (done : ∀ k : Bool, (k = true ↔ ∀ z, S z = true → S' z = true) → Q k s) :
    wpAny (model P w) A (Builtin.Frozenset.subsetOf id a b) Q E s := by
  have Ra := R
  obtain ⟨ob, es, ep, t, hob, ex, hd, T, hn⟩ := R
  have R0 := R'
  obtain ⟨ob', es', ep', t', hob', ex', hd', T', hn'⟩ := R'
  unfold Builtin.Frozenset.subsetOf
  refine wpAny_bind (size_set Ra (wpAny_bind (size_set R0 ?_)))
  rw [if_neg le]
  refine wpAny_bind (wpAny_setEpoch_of hob hd T.fit ?_)
  refine wpAny_bind (walk_unseen hob hd T hob' hd' T' ?_)
  refine wpAny_bind (wpAny_forIn_list _ (fun rest x s' => (∃ pre, pre ++ rest = es.toList ∧ ∀ e ∈ pre, S' (txt e) = true) ∧ x.1 = none ∧ s' = s) _ ?_ ?_ _ _ ⟨⟨[], rfl, fun _ u => by cases u⟩, rfl, rfl⟩)
  · rintro ⟨h0, v⟩ rest x s' ⟨⟨pre, hp, ha⟩, hx, rfl⟩
    have hm : (h0, v) ∈ es.toList := by rw [← hp]; exact List.mem_append_right _ List.mem_cons_self
    obtain ⟨z, q, e2, e1⟩ := T.row _ hm
    have e2' : v = Value.str z q := e2
    have e1' : h0 = hashStr w z := e1
    subst e2' e1'
    have key : (PySem.strKind P w).is z (.str z q) = true := by
      show Value.isStrOf z (Value.str z q) = true
      simp [Value.isStrOf]
    refine wpAny_bind (wpAny_holding (wpAny_setFind_of (knd := PySem.strKind P w) key rfl R0.of fun r hr => ?_))
    cases r with
    | none =>
      have no : S' z = false := hr.symm
      refine wpAny_pure ?_
      exact wpAny_pure (done false ⟨fun u => (by cases u), fun h => (by
        have := h z ((T.mem z).2 (List.mem_map.mpr ⟨_, hm, rfl⟩))
        rw [no] at this
        cases this)⟩)
    | some j =>
      have yes : S' z = true := hr.symm
      rw [if_neg (by simp)]
      unfold Builtin.Frozenset.unchanged
      refine wpAny_bind (wpAny_bind (wpAny_setEpoch_of hob hd T.fit ?_))
      rw [if_neg (by simp)]
      refine wpAny_pure (wpAny_pure ⟨⟨pre ++ [(hashStr w z, Value.str z q)], by rw [List.append_assoc]; exact hp, fun e he => ?_⟩, rfl, rfl⟩)
      rcases List.mem_append.mp he with u | u
      · exact ha e u
      · rw [List.mem_singleton.mp u]
        exact yes
  · rintro ⟨x1, x2⟩ s' ⟨⟨pre, hp, ha⟩, hx, rfl⟩
    have hx' : x1 = none := hx
    subst hx'
    rw [List.append_nil] at hp
    subst hp
    refine wpAny_pure (done true ⟨fun _ z hz => ?_, fun _ => rfl⟩)
    obtain ⟨e, he, rfl⟩ := List.mem_map.mp ((T.mem z).1 hz)
    exact ha e he
theorem subt_sf : isSubtype (.type "set") (.type "frozenset") = pure false := by rw [isSubtype_type]; kernel_rfl
theorem eq_set {Q : Value → Shared → Prop} (R : SetX w s.heap a S n) (R' : SetX w s.heap b S' m) (hu : A.units < cLine) (done : ∀ k : Bool, (k = true ↔ ∀ z, S z = S' z) → Q (.bool k) s) :
    wpAny (model P w) A (compareOp .Eq (.ref a) (.ref b)) Q E s := by
  show wpAny (model P w) A (richCompare .Eq (.ref a) (.ref b)) Q E s
  refine wpAny_richCompare_same_room (op := .Eq) R.ty R'.ty F.slot_set_eq (wpAny_call_entry F.slot_set_eq R.ty entry_set_eq ?_ (F.args_set_eq_2 _ _)) hu
  unfold Builtin.«frozenset.__eq__»
  refine wpAny_bind (m := Builtin.Frozenset.slot1 "__eq__" _) (wpAny_of_eq (a := (Value.ref a, Value.ref b)) (by rfl) ?_)
  refine wpAny_bind (m := Builtin.Frozenset.isAnySet (.ref b)) (any_set R'.ty ?_)
  rw [if_neg (by simp)]
  refine wpAny_bind (wpAny_pure ?_)
  refine wpAny_bind (wpAny_pure ?_)
  refine wpAny_bind (size_set R ?_)
  refine wpAny_bind (size_set R' ?_)
  dsimp only
  refine wpAny_bind ?_
  have T := R
  have T' := R'
  obtain ⟨ob, es, ep, t, hob, ex, hd, T, hn⟩ := T
  obtain ⟨ob', es', ep', t', hob', ex', hd', T', hn'⟩ := T'
  have same_len : (∀ z, S z = S' z) → n = m := fun h => by
    have p : (es.toList.map txt).Perm (es'.toList.map txt) := (List.perm_ext_iff_of_nodup T.nd T'.nd).mpr fun z => by rw [← T.mem z, ← T'.mem z, h z]
    have := p.length_eq
    rw [List.length_map, List.length_map, Array.length_toList, Array.length_toList] at this
    omega
  by_cases e : n = m
  · rw [if_neg (by simp [e])]
    unfold andM
    refine wpAny_bind (wpAny_bind (wpAny_isInstance R.ty subt_sf ?_))
    refine wpAny_pure ?_
    rw [if_neg (by simp)]
    refine sub_set R R' (by omega) fun k hk => ?_
    refine wpAny_pure ⟨_, rfl, (fun u => nomatch u), done k (hk.trans ⟨fun h z => ?_, fun h z hz => (h z) ▸ hz⟩)⟩
    -- a subset as large as the whole is the whole
    have sub : ∀ y ∈ es.toList.map txt, y ∈ es'.toList.map txt := fun y hy => (T'.mem y).1 (h y ((T.mem y).2 hy))
    rw [Bool.eq_iff_iff, T.mem z, T'.mem z]
    exact ⟨sub z, full_of T.nd sub (by rw [List.length_map, List.length_map, Array.length_toList, Array.length_toList]; omega) z⟩
  · rw [if_pos (by simp [e])]
    refine wpAny_pure (wpAny_pure ⟨_, rfl, (fun u => nomatch u), done false ⟨fun u => (by cases u), fun h => absurd (same_len h) e⟩⟩)
end

/-! ### over the layer -/
def SetXO (w : World) (a : Addr) (S : Str → Bool) (n : Nat) : HO := .ext fun h => SetX w h a S n
section
variable {X : Cx}
theorem setXO_new {w : World} {P : Program} {H : Hp} {h : Heap} {a : Addr} {S : Str → Bool} {n : Nat} (R : SetX w h a S n) : ObjOk P w H h a (SetXO w a S n) := by
  have ⟨ob, _, _, _, hob, _⟩ := R
  exact ⟨R, ⟨ob, hob⟩, fun h1 h2 p k => p.move k⟩
theorem setXO_get {pins : List (Addr × Obj)} {σ : L2.St} {H : Hp} {s : Shared} {a : Addr} {S : Str → Bool} {n : Nat} (I : Inv X pins σ H s) (ha : H a = some (SetXO X.w a S n)) : SetX X.w s.heap a S n := (I.hok a _ ha).1
/-- set(t), t a tuple or a list of texts -/
def rSetX (K : PySem.W.Frag) (w : World) : List V → Hp → VK → Prop := fun xs H Q => ∃ (p : Addr) (zs : List Str), xs = [V.ref p] ∧ (SqT K H p (zs.map V.str) ∨ SqL K H p (zs.map V.str)) ∧ zs.length + 1 < scanBound ∧
  ∀ l c, c ≤ zs.length → H l = none → Q (.ref l) (upd H l (SetXO w l (fun y => decide (y ∈ zs)) c))
theorem cr_setX (hc : X.calm = true) : CallR X (.type "set") (rSetX X.K X.w) := by
  intro pins s σ H vs us Q I r h
  obtain ⟨p, zs, rfl, hs, few, q⟩ := h
  rw [Vals.ref1 r]
  have fin : ∀ (h' : Heap) (tk c : Nat), SetX X.w h' s.heap.objs.size (fun y => decide (y ∈ zs)) c → c ≤ zs.length → (∀ b o, s.heap.get? b = some o → h'.get? b = some o) → EP X pins σ Q (.ref s.heap.objs.size) { s with heap := h', toks := tk } := fun h' tk c R hc' kp =>
    ⟨.ref _, _, I.laid kp (Nat.le_refl _) (setXO_new R), rfl, q _ c hc' (I.hok.fresh (Nat.le_refl _))⟩
  rcases hs with hs | hs
  · obtain ⟨its, rv, pl, _⟩ := I.tuple hs
    exact call_setT zs (I.ok.hd hc) pl (by simpa using rv.strs) few fin
  · obtain ⟨its, rv, pl, _⟩ := I.list hs
    exact call_setL zs (I.ok.hd hc) pl.isList (by simpa using rv.strs) few fin
/-- sorted(found) -/
def rSortX (w : World) : List V → Hp → VK → Prop := fun vs H Q => ∃ (a : Addr) (S : Str → Bool) (n : Nat), vs = [V.ref a] ∧ H a = some (SetXO w a S n) ∧ n < 64 ∧
  ∀ (ys : List Str) (p : Addr), Asc ys → (∀ z, z ∈ ys ↔ S z = true) → ys.length = n → H p = none → Q (.ref p) (upd H p (.lst (ys.map V.str)))
theorem cr_sortX (hc : X.calm = true) : CallR X (.builtin "sorted") (rSortX X.w) := by
  intro pins s σ H vs us Q I r h
  obtain ⟨a, S, n, rfl, ha, few, q⟩ := h
  rw [Vals.ref1 r]
  refine sort_set (setXO_get I ha) (I.ok.hd hc) few fun s' p out c ys kp g o hp hg hi hA hm hl => ?_
  have len : (ys.map V.str).length ≤ sizeLine := by rw [List.length_map, hl, sizeLine_eq]; omega
  have hn : H p = none := I.hok.fresh hp
  have J : Inv X pins σ (upd H p (.lst (ys.map V.str))) { s with heap := s'.heap, gens := s'.gens, drawn := s'.drawn, toks := s'.toks } :=
    I.call (ch := []) (Un.laid kp hp hn) (I.hok.laid kp hp ⟨len, out.toList, c, vals_of_strs hi, hg⟩) (by rw [g]; exact I.bare) (fun _ z => nomatch z)
  have e : s' = { s with heap := s'.heap, gens := s'.gens, drawn := s'.drawn, toks := s'.toks } := by
    cases s'
    cases s
    cases o
    rfl
  rw [e]
  exact ⟨.ref p, _, J, rfl, q ys p hA hm hl hn⟩
/-- set(a) == set(b) -/
def rEqX (w : World) : R2 := fun x y H Q => ∃ (a b : Addr) (S S' : Str → Bool) (n m : Nat), x = V.ref a ∧ y = V.ref b ∧ H a = some (SetXO w a S n) ∧ H b = some (SetXO w b S' m) ∧ ∀ k : Bool, (k = true ↔ ∀ z, S z = S' z) → Q (.bl k) H
theorem op_eqX (hu : X.A.units < cLine) : OpR X (compareOp .Eq) (rEqX X.w) := by
  intro pins s σ H x y v u Q I rx ry h
  obtain ⟨a, b, S, S', n, m, rfl, rfl, ha, hb, q⟩ := h
  cases rx
  cases ry
  exact eq_set (setXO_get I ha) (setXO_get I hb) hu fun k hk => ⟨.bl k, H, I, rfl, q k hk⟩
/-- len(found) -/
theorem cr_lenX : CallR X (.builtin "len") (fun xs H Q => ∃ (a : Addr) (S : Str → Bool) (n : Nat), xs = [V.ref a] ∧ H a = some (SetXO X.w a S n) ∧ Q (.int n) H) := by
  intro pins s σ H vs us Q I r h
  obtain ⟨a, S, n, rfl, ha, q⟩ := h
  rw [Vals.ref1 r]
  obtain ⟨ob, es, ep, t, hob, ex, hd, T, hn⟩ := setXO_get I ha
  have big : (es.size : Int) < 2 ^ 63 := by
    have := fits_of_scanBound T.few
    rw [sizeLine_eq] at this
    omega
  refine call_len_set hob ex hd T.fit big ⟨.int n, H, I.tok _, ⟨s.toks + 1, ?_⟩, q⟩
  rw [hn]
end
end TxS
set_option Elab.async false
set_option linter.all false
set_option maxRecDepth 100000
set_option maxHeartbeats 2000000
/-! Operators of an own class: a | b, a == b, x in a, len(a), bool(a); C() and C(*xs) by a positional promise of __init__. -/
namespace LkO
open PySem PySem.Spec PyProof.Rows L2

/-- the class at C has the def at f under this name -/
structure OwnM (K : PySem.W.Frag) (C f : Addr) (name : Str) : Prop where
  at_ : PySem.W.findIn K (.ref C) name = some (some (.ref f))
  fn : PySem.W.isFn K (.ref f) = true

section
variable {X : Cx} {CX : CXT} {k : Nat} {C f : Addr} {fd : FuncData} {ps : List Str} {sp : Sp} {E : XK}
theorem back_of {pins : List (Addr × Obj)} {σ : L2.St} {Q : VK} {u : Value} {s' : Shared} (h : EP X pins σ Q u s') : PySem.W.CmpBack (EP X pins σ Q) u s' := by
  cases u with
  | notImplemented =>
    obtain ⟨v, H', I', rv, q⟩ := h
    cases v with
    | non => exact nomatch (show Value.notImplemented = Value.none from rv)
    | bl b => exact nomatch (show Value.notImplemented = Value.bool b from rv)
    | int i => obtain ⟨t, e⟩ := (show ∃ t, Value.notImplemented = Value.int i t from rv); exact nomatch e
    | str z => obtain ⟨t, e⟩ := (show ∃ t, Value.notImplemented = Value.str z t from rv); exact nomatch e
    | byt z => obtain ⟨t, e⟩ := (show ∃ t, Value.notImplemented = Value.bytes z t from rv); exact nomatch e
    | flt z => obtain ⟨t, e⟩ := (show ∃ t, Value.notImplemented = Value.float z t from rv); exact nomatch e
    | ref a => exact nomatch (show Value.notImplemented = Value.ref a from rv)
    | ty n => exact nomatch (show Value.notImplemented = Value.type n from rv)
  | _ => exact h
theorem inst_of {pins : List (Addr × Obj)} {σ : L2.St} {H : Hp} {s : Shared} {a dx : Addr} {fs : List (Str × V)} (I : Inv X pins σ H s) (h : H a = some (.ins C dx fs)) : ∃ od, PySem.W.InstAt s.heap a (PySem.W.instObj C dx) C od := by
  obtain ⟨mA, J, _⟩ := ins_get I.hok h
  obtain ⟨od, J, _⟩ := J.look
  exact ⟨_, J⟩
/-- both operands instances of C: the method's promise -/
def rOwn (C : Addr) (sp : Sp) (E : XK) : R2 := fun x y H Q => ∃ a dx fs b dy gs, x = .ref a ∧ y = .ref b ∧ H a = some (.ins C dx fs) ∧ H b = some (.ins C dy gs) ∧ sp [.ref a, .ref b] H Q E
theorem op_own {op : Operator} (hc : PySem.W.selfFirst X.K C = true) (m : OwnM X.K C f (PySem.dunder op.info.2)) (F : FnOk X.prog X.w X.K X.mg X.base CX k f fd ps sp) (hr : Room k X.A) (hb : Binds X.K fd ps []) (hx : Passes CX X E) :
    OpR X (binaryOp op) (rOwn C sp E) := by
  intro pins s σ H x y v u Q I rx ry h
  obtain ⟨a, dx, fs, b, dy, gs, rfl, rfl, ha, hb', q⟩ := h
  cases rx
  cases ry
  obtain ⟨od, J⟩ := inst_of I ha
  obtain ⟨od', J'⟩ := inst_of I hb'
  obtain ⟨m0, hF⟩ := I.fr
  exact PySem.W.binop_K hF I.ok.mod.kin J J'.type hc m.at_ m.fn (thn (run_fn (vs := [.ref a, .ref b]) F hr hb .nil hx I (.cons rfl (.cons rfl .nil)) q) fun w s' z => back_of z)
theorem op_ownEq (m : OwnM X.K C f "__eq__") (F : FnOk X.prog X.w X.K X.mg X.base CX k f fd ps sp) (hr : Room k X.A) (hb : Binds X.K fd ps []) (hx : Passes CX X E) : OpR X (compareOp .Eq) (rOwn C sp E) := by
  intro pins s σ H x y v u Q I rx ry h
  obtain ⟨a, dx, fs, b, dy, gs, rfl, rfl, ha, hb', q⟩ := h
  cases rx
  cases ry
  obtain ⟨od, J⟩ := inst_of I ha
  obtain ⟨od', J'⟩ := inst_of I hb'
  obtain ⟨m0, hF⟩ := I.fr
  exact PySem.W.cmp_K (op := .Eq) (tb := .ref C) hr.units0 hF I.ok.mod.kin J J'.type (by simp [PySem.W.notFirst]) m.at_ m.fn (thn (run_fn (vs := [.ref a, .ref b]) F hr hb .nil hx I (.cons rfl (.cons rfl .nil)) q) fun w s' z => back_of z)
/-- x in a -/
def rOwnIn (C : Addr) (sp : Sp) (E : XK) (neg : Bool) : R2 := fun x y H Q => ∃ a dx fs, y = .ref a ∧ H a = some (.ins C dx fs) ∧ sp [.ref a, x] H (fun v H' => ∃ c, v = .bl c ∧ Q (.bl (if neg then !c else c)) H') E
theorem op_ownIn (m : OwnM X.K C f "__contains__") (F : FnOk X.prog X.w X.K X.mg X.base CX k f fd ps sp) (hr : Room k X.A) (hb : Binds X.K fd ps []) (hx : Passes CX X E) : OpR X (compareOp .In) (rOwnIn C sp E false) := by
  intro pins s σ H x y v u Q I rx ry h
  obtain ⟨a, dx, fs, rfl, ha, q⟩ := h
  cases ry
  obtain ⟨od, J⟩ := inst_of I ha
  obtain ⟨m0, hF⟩ := I.fr
  refine PySem.W.in_K hF I.ok.mod.kin J m.at_ m.fn (thn (run_fn (vs := [.ref a, x]) F hr hb .nil hx I (.cons rfl (.cons rx .nil)) q) fun w s' z => ?_)
  obtain ⟨z0, H', I', rz, c, rfl, q'⟩ := z
  cases rz
  exact wpAny_truthy_bool ⟨.bl c, H', I', rfl, q'⟩
theorem op_ownNotIn (m : OwnM X.K C f "__contains__") (F : FnOk X.prog X.w X.K X.mg X.base CX k f fd ps sp) (hr : Room k X.A) (hb : Binds X.K fd ps []) (hx : Passes CX X E) : OpR X (compareOp .NotIn) (rOwnIn C sp E true) := by
  intro pins s σ H x y v u Q I rx ry h
  obtain ⟨a, dx, fs, rfl, ha, q⟩ := h
  cases ry
  obtain ⟨od, J⟩ := inst_of I ha
  obtain ⟨m0, hF⟩ := I.fr
  refine PySem.W.notIn_K hF I.ok.mod.kin J m.at_ m.fn (thn (run_fn (vs := [.ref a, x]) F hr hb .nil hx I (.cons rfl (.cons rx .nil)) q) fun w s' z => ?_)
  obtain ⟨z0, H', I', rz, c, rfl, q'⟩ := z
  cases rz
  exact wpAny_truthy_bool ⟨.bl (!c), H', I', rfl, q'⟩
/-- the callee runs one builtin deeper -/
theorem run_in1 {A : Around} {pins : List (Addr × Obj)} {σ : L2.St} {H : Hp} {s : Shared} {Q : VK} {us : List Value} {vs : List V} (F : FnOk X.prog X.w X.K X.mg X.base CX k f fd ps sp) (hr : Room k A) (fr : A.frames = X.A.frames) (hb : Binds X.K fd ps []) (hx : Passes CX X E)
    (I : Inv X pins σ H s) (r : Vals vs us) (h : sp vs H Q E) : wpAny (model X.prog X.w) A (call (.ref f) us) (EP X pins σ Q) X.xe s := by
  have hl : us.length = ps.length := by rw [← r.length]; exact F.len _ _ _ _ h
  have e0 : Env0 X.prog X.w X.K X.mg X.base A X.stack s H := by
    have e := I.env0
    exact ⟨by rw [fr]; exact e.frames, e.mod, e.bs, e.bsz, e.funs, e.frf, e.hok, e.bare⟩
  refine wpAny_call (codeAny_mono (F.run A X.stack s H ⟨us, []⟩ us vs Q E hr e0 (by simpa using hb s us I.kIn (by simpa using hl)) r h) fun r s' hq => ?_)
  cases r with
  | error e => exact hx pins σ H s e s' I hq
  | ok fl =>
    cases fl with
    | ret u => exact I.after hq
    | next => exact False.elim hq
    | brk => exact False.elim hq
    | cont => exact False.elim hq
/-- len(a) -/
def rOwnLen (C : Addr) (sp : Sp) (E : XK) (g : Nat → V) : List V → Hp → VK → Prop := fun xs H Q => ∃ a dx fs, xs = [.ref a] ∧ H a = some (.ins C dx fs) ∧ sp [.ref a] H (fun v H' => ∃ n : Nat, v = .int n ∧ n ≤ sizeLine ∧ Q (g n) H') E
theorem cr_ownLen (m : OwnM X.K C f "__len__") (F : FnOk X.prog X.w X.K X.mg X.base CX k f fd ps sp) (hr : Room (k + 1) X.A) (hb : Binds X.K fd ps []) (hx : Passes CX X E) : CallR X (.builtin "len") (rOwnLen C sp E fun n => .int n) := by
  intro pins s σ H xs us Q I r h
  obtain ⟨a, dx, fs, rfl, ha, q⟩ := h
  rw [Vals.ref1 r]
  obtain ⟨od, J⟩ := inst_of I ha
  obtain ⟨m0, hF⟩ := I.fr
  refine PySem.W.len_K hF I.ok.mod.kin J m.at_ m.fn (thn (run_in1 (vs := [.ref a]) F hr.in1 rfl hb hx I (.cons rfl .nil) q) fun w s' z => ?_)
  obtain ⟨z0, H', I', rz, n, rfl, hn, q'⟩ := z
  obtain ⟨t, rfl⟩ := rz
  have hl := line63
  exact ⟨⟨by omega, by omega⟩, .int n, H', I'.tok _, ⟨_, rfl⟩, q'⟩
/-- a's truth, by __len__ alone -/
theorem own_truth {A : Around} {pins : List (Addr × Obj)} {σ : L2.St} {H : Hp} {s : Shared} {a dx : Addr} {fs : List (Str × V)} {Q : Bool → Hp → Prop} (nb : PySem.W.findIn X.K (.ref C) "__bool__" = some none) (m : OwnM X.K C f "__len__")
    (F : FnOk X.prog X.w X.K X.mg X.base CX k f fd ps sp) (hr : Room (k + 1) A) (fr : A.frames = X.A.frames) (hb : Binds X.K fd ps []) (hx : Passes CX X E) (I : Inv X pins σ H s) (ha : H a = some (.ins C dx fs))
    (h : sp [.ref a] H (fun v H' => ∃ n : Nat, v = .int n ∧ n ≤ sizeLine ∧ Q (n != 0) H') E) : wpAny (model X.prog X.w) A (truthy (.ref a)) (TP X pins σ Q) X.xe s := by
  obtain ⟨od, J⟩ := inst_of I ha
  obtain ⟨m0, hF⟩ := I.fr
  have kin := I.kIn
  have key : wpAny (model X.prog X.w) A (runValue (.builtin "len" ⟨[.ref a], []⟩)) (fun r s' => ∃ (n : Nat) (t : Tok), r = .int n t ∧ TP X pins σ Q (n != 0) s') X.xe s := by
    refine wpAny_runValue (codeAny_builtin entry_len ?_)
    rw [Around.under_plainId plain_len _]
    unfold Builtin.«len»
    refine wpAny_bind (m := oneArg "len" _) (wpAny_pure ?_)
    refine wpAny_bind (m := callSpecial? (.ref a) (Str.ofString "__len__")) (PySem.W.special_fn kin J m.at_ (beq_iff_eq.mp m.fn) (thn (run_in1 (vs := [.ref a]) F hr.in1 fr hb hx I (.cons rfl .nil) h) fun w s' z => ?_))
    obtain ⟨z0, H', I', rz, n, rfl, hn, q'⟩ := z
    obtain ⟨t, rfl⟩ := rz
    have hl := line63
    refine wpAny_bind (wpAny_holding (wpAny_pure ?_))
    refine wpAny_bind (wpAny_letGo ?_)
    rw [if_neg (by omega)]
    rw [if_neg (by omega)]
    exact wpAny_bind (wpAny_mkInt (wpAny_pure ⟨n, _, rfl, H', I'.tok _, q'⟩))
  unfold truthy
  refine wpAny_bind (m := callSpecial? (.ref a) (Str.ofString "__bool__")) (wpAny_bind (wpAny_bind (J.type.here ((PySem.W.looks_findIn kin nb).here (wpAny_pure ?_)))))
  refine wpAny_bind (wpAny_bind (J.type.here ((PySem.W.looks_findIn kin m.at_).here ?_)))
  refine wpAny_bind (thn key fun r s' z => ?_)
  obtain ⟨n, t, rfl, q⟩ := z
  refine wpAny_pure ?_
  have e : ((n : Int) != 0) = (n != 0) := by
    cases n <;> rfl
  rw [e]
  exact q
theorem cr_ownBool (nb : PySem.W.findIn X.K (.ref C) "__bool__" = some none) (m : OwnM X.K C f "__len__") (F : FnOk X.prog X.w X.K X.mg X.base CX k f fd ps sp) (hr : Room (k + 4) X.A) (hb : Binds X.K fd ps []) (hx : Passes CX X E) :
    CallR X (.type "bool") (rOwnLen C sp E fun n => .bl (n != 0)) := by
  intro pins s σ H xs us Q I r h
  obtain ⟨a, dx, fs, rfl, ha, q⟩ := h
  rw [Vals.ref1 r]
  refine callType_newIn (S := fun A' R s' => A' = X.A.in1 ∧ s' = s ∧ (∀ b s2, TP X pins σ (fun b H' => Q (.bl b) H') b s2 → R (.ok (.ret (.bool b))) s2) ∧ ∀ e s2, X.xe e s2 → R (.error e) s2) PySem.F.called_bool PySem.F.newNe_bool (PySem.F.typeCall_bool_1 _) (PySem.F.newCall_bool_1 _) (fun obj => PySem.F.args_object_init_2 obj _) PySem.F.entry_bool_new (fun A' R s' hS => ?_) ?_
  · obtain ⟨rfl, rfl, h1, h2⟩ := hS
    unfold Builtin.«bool.__new__»
    refine wpAny_bind (m := isType (Value.type "bool")) (wpAny_of_eq (a := true) (by rfl) ?_)
    dsimp only
    rw [if_neg (by simp)]
    refine wpAny_bind (wpAny_of_eq PySem.F.conv_sub_bool ?_)
    rw [if_neg (by simp)]
    refine wpAny_bind (wpAny_of_eq (a := [Value.ref a]) (by rfl) ?_)
    dsimp only
    refine wpAny_bind (wpAny_mono (own_truth (A := X.A.in1.in1) (Q := fun b H' => Q (.bl b) H') nb m F (hr.in1.in1.mono (by omega)) rfl hb hx I ha q) (fun b s2 z => ?_) fun e s2 z => h2 e s2 z)
    exact wpAny_pure (h1 b s2 z)
  · exact ⟨rfl, rfl, fun b s2 z => ⟨PySem.typeIs_bool _ _, let ⟨H', I', q'⟩ := z; ⟨.bl b, H', I', rfl, q'⟩⟩, fun e s2 z => z⟩
end

/-! ### C(), C(*xs) -/
section
variable {X : Cx} {CX : CXT} {k : Nat} {f C : Addr} {sp : Sp} {E : XK} {x : Str} {e : Expr} {te : TE} {p sp_ pos : Pos}
theorem pe_makeR0 (M : Mk X.K C f) (F : FnR X.prog X.w X.K X.mg X.base CX k f sp) (hr : Room (k + 1) X.A) (hg : Gl X x) (hm : X.mg x = some (.ref C)) (hx : Passes CX X E) (hdb : (x == ("__debug__" : Str)) = false := by decide) :
    PE X (.Call (.Name x p) [] [] pos) (StX.tMakeR C sp E tNil) := by
  refine ⟨fun pins s σ H Q I h => ?_⟩
  refine wpAny_Call_Name_kw (ld_glob I hg hm ?_ hdb)
  exact PySem.W.callWith_K0 I.kIn M.kp (StX.run_makeR (us := []) M F hr hx I .nil h)
def tMakeS (K : PySem.W.Frag) (C : Addr) (sp : Sp) (E : XK) (te : TE) : TE := fun σ H Q => te σ H fun y H1 => ∃ a xs, y = V.ref a ∧ (SqT K H1 a xs ∨ SqL K H1 a xs) ∧ ∀ x dx, H1 x = Option.none → H1 dx = Option.none → dx ≠ x →
  sp (V.ref x :: xs) (upd (upd H1 dx (.own x)) x (.ins C dx [])) (fun v H2 => v = .non ∧ Q (.ref x) H2) E
theorem pe_makeS (M : Mk X.K C f) (F : FnR X.prog X.w X.K X.mg X.base CX k f sp) (hr : Room (k + 1) X.A) (hg : Gl X x) (hm : X.mg x = some (.ref C)) (hx : Passes CX X E) (he : PE X e te) (hd : (x == ("__debug__" : Str)) = false := by decide)
    (hst : starEach [.Starred e sp_] X.env = [(true, eval e X.env)] := by rfl) : PE X (.Call (.Name x p) [.Starred e sp_] [] pos) (tMakeS X.K C sp E te) := by
  refine ⟨fun pins s σ H Q I h => ?_⟩
  refine wpAny_Call_Name_kw (ld_glob I hg hm ?_ hd)
  refine PySem.W.callWith_S (h₀ := X.base) I.ok.mod.kin M.kp (thn (he.run pins s σ H _ I h) fun v s1 ⟨y, H1, I1, ry, a, xs, ey, hxs, q⟩ => ?_) hst
  subst ey
  obtain rfl : v = Value.ref a := ry
  exact StX.star_any I1 hxs fun us s2 I2 rv => ⟨I2.kIn, StX.run_makeR M F hr hx I2 rv q⟩
end
end LkO
set_option Elab.async false
set_option linter.all false
set_option maxRecDepth 100000
set_option maxHeartbeats 2000000
/-! What the program's defs share: names, lists of texts as data, heaps that grew, comprehensions. -/
namespace Lk
open PySem PySem.Spec PyProof.Rows L2 TxS LkO

/-! ### names -/
def abc : Str := "abcdefghijklmnopqrstuvwxyz"
def lettersOk (z : Str) : Bool := z.cps.toList.all fun c => decide (c ∈ abc.cps.toList)
def isNm (z : Str) : Bool := (decide (1 ≤ z.length) && decide (z.length ≤ 8)) && lettersOk z
theorem nm_len {z : Str} (h : isNm z = true) : z.length ≤ 8 := by
  unfold isNm at h
  simp only [Bool.and_eq_true, decide_eq_true_eq] at h
  exact h.1.2
theorem nm_line {z : Str} (h : isNm z = true) : z.length ≤ sizeLine := Nat.le_trans (nm_len h) (by rw [sizeLine_eq]; decide)
theorem abc_small : abc.cps.toList.all (fun c => decide (c < 128)) = true := by decide +kernel
theorem nm_ok {z : Str} (h : isNm z = true) : PyData.strOk z = true := by
  have l8 := nm_len h
  unfold isNm at h
  simp only [Bool.and_eq_true] at h
  have h2 := h.2
  unfold lettersOk at h2
  have small : ∀ c ∈ z.cps.toList, c < 128 := fun c hc => by
    have := List.all_eq_true.mp h2 c hc
    exact of_decide_eq_true (List.all_eq_true.mp abc_small c (of_decide_eq_true this))
  unfold PyData.strOk
  rw [← Array.all_toList]
  refine List.all_eq_true.mpr fun c hc => decide_eq_true ?_
  have := small c hc
  omega

/-! ### heaps that grew -/
theorem same_new {H : Hp} {p : Addr} {o : HO} (h : H p = none) : Same H (upd H p o) := fun b x e => by
  rw [upd_ne (ne_of_none e h)]
  exact e
theorem Same.up {H H1 : Hp} {p : Addr} {o : HO} (s : Same H H1) (h : H p = none) : Same H (upd H1 p o) := fun b x e => by
  rw [upd_ne (ne_of_none e h)]
  exact s b x e
theorem Same.tup {K : PySem.W.Frag} {H H' : Hp} {a : Addr} {xs : List V} (e : Same H H') (h : SqT K H a xs) : SqT K H' a xs := by
  rcases h with (h | ⟨o, h⟩) | h
  · exact .inl (.inl (e _ _ h))
  · exact .inl (.inr ⟨o, e _ _ h⟩)
  · exact .inr h
/-- a list or a tuple -/
def Sq (K : PySem.W.Frag) (H : Hp) (a : Addr) (xs : List V) : Prop := SqL K H a xs ∨ SqT K H a xs
theorem Same.sq {K : PySem.W.Frag} {H H' : Hp} {a : Addr} {xs : List V} (e : Same H H') (h : Sq K H a xs) : Sq K H' a xs := h.imp e.seq (Same.tup e)
/-- all of H stands, and a list of xs stands at D -/
def Grow (H : Hp) (D : Addr) (xs : List V) (H' : Hp) : Prop := Same H H' ∧ H' D = some (.lst xs)
theorem grow0 {H : Hp} {D : Addr} (n : H D = none) : Grow H D [] (upd H D (.lst [])) := ⟨same_new n, upd_same⟩
/-- one more item in a comprehension's list -/
theorem grow1 {H H4 : Hp} {D : Addr} {acc acc' : List V} {y : V} (n : H D = none) (g : Grow H D acc H4) (l : acc.length < sizeLine) (e : acc' = acc ++ [y]) :
    ∃ acc, H4 D = some (.lst acc) ∧ acc.length < sizeLine ∧ Grow H D acc' (upd H4 D (.lst (acc ++ [y]))) := ⟨acc, g.2, l, Same.up g.1 n, by rw [upd_same, e]⟩
theorem Grow.more {H H1 H2 : Hp} {D : Addr} {xs : List V} (g : Grow H D xs H1) (s : Same H1 H2) : Grow H D xs H2 := ⟨g.1.trans s, s _ _ g.2⟩
theorem take_next {α β : Type} {f : α → β} {l : List α} {i : Nat} {x : α} (h : l[i]? = some x) : (l.map f).take (i + 1) = (l.map f).take i ++ [f x] := by
  rw [List.take_add_one, List.getElem?_map, h]
  rfl
theorem take_next1 {α : Type} {l : List α} {i : Nat} {x : α} (h : l[i]? = some x) : l.take (i + 1) = l.take i ++ [x] := by
  rw [List.take_add_one, h]
  rfl
theorem at_map {α β : Type} {f : α → β} {l : List α} {i : Nat} {y : β} (h : (l.map f)[i]? = some y) : ∃ x, l[i]? = some x ∧ y = f x := by
  rw [List.getElem?_map] at h
  cases q : l[i]? with
  | none =>
    rw [q] at h
    cases h
  | some x =>
    rw [q] at h
    exact ⟨x, rfl, (Option.some.inj h).symm⟩

/-! ### texts as data -/
theorem flat_strs (zs : List Str) : (zs.map V.str).all flatV = true := by
  rw [List.all_map]
  exact List.all_eq_true.mpr fun _ _ => rfl
theorem inV_str (z : Str) : ∀ zs : List Str, inV (.str z) (zs.map V.str) = decide (z ∈ zs)
  | [] => rfl
  | y :: r => by
    have ih := inV_str z r
    unfold inV at ih ⊢
    rw [List.map_cons, List.any_cons, ih]
    show ((y == z) || decide (z ∈ r)) = decide (z ∈ y :: r)
    by_cases e : y = z
    · subst e
      simp
    · have e1 : (y == z) = false := beq_eq_false_iff_ne.mpr e
      rw [e1]
      simp [Ne.symm e]
theorem eqvAll_strs : ∀ zs ws : List Str, PyData.eqvAll (zs.map PyData.str) (ws.map PyData.str) = decide (zs = ws)
  | [], [] => by simp [PyData.eqvAll]
  | [], _ :: _ => by simp [PyData.eqvAll]
  | _ :: _, [] => by simp [PyData.eqvAll]
  | z :: r, y :: q => by
    simp only [List.map_cons, PyData.eqvAll, PyData.eqv, eqvAll_strs r q]
    by_cases h : z = y <;> simp [h]
theorem canLay_strs : ∀ zs : List Str, (∀ z ∈ zs, PyData.strOk z = true) → PyData.canLayAll0 (zs.map PyData.str) = true
  | [], _ => by simp [PyData.canLayAll0]
  | z :: r, h => by simp [PyData.canLayAll0, PyData.canLay0, h z List.mem_cons_self, canLay_strs r fun y hy => h y (List.mem_cons_of_mem _ hy)]
theorem depth_strs : ∀ zs : List Str, PyData.depthAll (zs.map PyData.str) ≤ 1
  | [] => by simp [PyData.depthAll]
  | z :: r => by
    have := depth_strs r
    simp only [List.map_cons, PyData.depthAll, PyData.depth]
    omega
theorem shaped_strsL {zs : List Str} (h : ∀ z ∈ zs, PyData.strOk z = true) : SeqAt.shaped (.list (zs.map PyData.str)) = true := by
  have h1 := depth_strs zs
  have h2 : PyData.depth (.list (zs.map PyData.str)) ≤ 64 := by simp only [PyData.depth]; omega
  show (PyData.canLay0 _ && decide _) = true
  rw [Bool.and_eq_true]
  exact ⟨by simp only [PyData.canLay0]; exact canLay_strs zs h, decide_eq_true h2⟩
theorem shaped_strsT {zs : List Str} (h : ∀ z ∈ zs, PyData.strOk z = true) : SeqAt.shaped (.tuple (zs.map PyData.str)) = true := by
  have h1 := depth_strs zs
  have h2 : PyData.depth (.tuple (zs.map PyData.str)) ≤ 64 := by simp only [PyData.depth]; omega
  show (PyData.canLay0 _ && decide _) = true
  rw [Bool.and_eq_true]
  exact ⟨by simp only [PyData.canLay0]; exact canLay_strs zs h, decide_eq_true h2⟩
theorem dp_strs {K : PySem.W.Frag} {H : Hp} : ∀ zs : List Str, DpAll K H (zs.map V.str) (zs.map PyData.str)
  | [] => .nil
  | z :: r => .cons (.str z) (dp_strs r)
end Lk
set_option Elab.async false
set_option linter.all false
set_option maxRecDepth 100000
set_option maxHeartbeats 2000000
/-! Generators that hand out fresh tuples, walked by a comprehension. -/
namespace LkG
open PySem PySem.Spec PyProof.Rows L2 TxS LkO Lk GenW
open Sem (wp)

/-! ### trees without a call -/
def Calm {α : Type} : Sem α → Prop
  | .pure _ => True
  | .raise _ => True
  | .unsupported _ => True
  | .finish _ => True
  | .rule _ k => Calm (k ())
  | .at _ k => Calm (k ())
  | .load _ _ k => ∀ o, Calm (k o)
  | .update _ _ _ k => Calm (k ())
  | .loadIfAlive _ k => ∀ o, Calm (k o)
  | .point _ k => Calm (k ())
  | .register _ _ => True
  | .alloc _ k => ∀ a, Calm (k a)
  | .fresh k => ∀ t, Calm (k t)
  | .ask k => ∀ x, Calm (k x)
  | .choose _ _ k => ∀ n, Calm (k n)
  | .os _ _ k => ∀ r, Calm (k r)
  | .handled _ k => ∀ r, Calm (k r)
  | .genState _ k => ∀ r, Calm (k r)
  | .stack k => ∀ r, Calm (k r)
  | .thread k => ∀ r, Calm (k r)
  | .fork _ _ => True
  | .await _ _ _ _ _ => True
  | .yield _ _ _ _ => True
  | .call _ _ _ _ _ => False
  | .newGen _ _ => False
  | .resume _ _ _ _ => False
/-- such a tree has one end -/
theorem wp_both {α : Type} (M : Model) (Γ : PySem.Ctx) (t : Sem α) : ∀ (Q Q' : α → Pos → Shared → Prop) (E E' : Value → Pos → Shared → Prop) (p : Pos) (s : Shared), Calm t → wp M Γ t Q E p s → wp M Γ t Q' E' p s →
    wp M Γ t (fun a p' s' => Q a p' s' ∧ Q' a p' s') (fun e p' s' => E e p' s' ∧ E' e p' s') p s := by
  induction t with
  | pure a => intro Q Q' E E' p s _ h h'; exact ⟨h, h'⟩
  | raise e => intro Q Q' E E' p s _ h h'; exact ⟨h, h'⟩
  | unsupported _ => intro Q Q' E E' p s _ h _; exact h
  | finish _ => intro Q Q' E E' p s _ h _; exact h
  | rule _ k ih => intro Q Q' E E' p s c h h'; exact ih () Q Q' E E' p s c h h'
  | «at» p' k ih => intro Q Q' E E' p s c h h'; exact ih () Q Q' E E' p' s c h h'
  | load a _ k ih =>
    intro Q Q' E E' p s c h h'
    obtain ⟨o, ho, h⟩ := h
    obtain ⟨o', ho', h'⟩ := h'
    rw [ho] at ho'
    cases ho'
    exact ⟨o, ho, ih o Q Q' E E' p s (c o) h h'⟩
  | update a _ f k ih => intro Q Q' E E' p s c h h'; exact ⟨h.1, ih () Q Q' E E' p _ c h.2 h'.2⟩
  | loadIfAlive a k ih => intro Q Q' E E' p s c h h'; exact ih _ Q Q' E E' p s (c _) h h'
  | point _ k ih => intro Q Q' E E' p s c h h'; exact ih () Q Q' E E' p s c h h'
  | register _ _ => intro Q Q' E E' p s _ h _; exact h
  | alloc o k ih => intro Q Q' E E' p s c h h'; exact ih _ Q Q' E E' p _ (c _) h h'
  | fresh k ih => intro Q Q' E E' p s c h h'; exact ih _ Q Q' E E' p _ (c _) h h'
  | ask k ih => intro Q Q' E E' p s c h h'; exact ih _ Q Q' E E' p s (c _) h h'
  | choose src m k ih => intro Q Q' E E' p s c h h'; exact ⟨h.1, ih _ Q Q' E E' p _ (c _) h.2 h'.2⟩
  | os q _ k ih => intro Q Q' E E' p s c h h'; exact ih _ Q Q' E E' p _ (c _) h h'
  | call _ _ _ _ _ _ => intro Q Q' E E' p s c _ _; exact c.elim
  | handled own k ih => intro Q Q' E E' p s c h h'; exact ih _ Q Q' E E' p s (c _) h h'
  | genState g k ih =>
    intro Q Q' E E' p s c h h'
    obtain ⟨o, ho, h⟩ := h
    obtain ⟨o', ho', h'⟩ := h'
    rw [ho] at ho'
    cases ho'
    exact ⟨o, ho, ih _ Q Q' E E' p s (c _) h h'⟩
  | newGen _ _ _ => intro Q Q' E E' p s c _ _; exact c.elim
  | resume _ _ _ _ _ => intro Q Q' E E' p s c _ _; exact c.elim
  | yield _ _ _ _ => intro Q Q' E E' p s _ h _; exact h
  | stack k ih => intro Q Q' E E' p s c h h'; exact ih _ Q Q' E E' p s (c _) h h'
  | fork _ _ => intro Q Q' E E' p s _ h _; exact h
  | thread k ih => intro Q Q' E E' p s c h h'; exact ih _ Q Q' E E' p s (c _) h h'
  | await _ _ _ _ _ => intro Q Q' E E' p s _ h _; exact h
theorem wpAny_both {α : Type} {M : Model} {A : Around} {t : Sem α} {Q Q' : α → Shared → Prop} {E E' : Value → Shared → Prop} {s : Shared} (c : Calm t) (h : wpAny M A t Q E s) (h' : wpAny M A t Q' E' s) :
    wpAny M A t (fun a s' => Q a s' ∧ Q' a s') (fun e s' => E e s' ∧ E' e s') s := fun Γ p hΓ => wp_both M Γ t _ _ _ _ p s c (h Γ p hΓ) (h' Γ p hΓ)
theorem calm_nsSet (a : Addr) (name : Str) (v : Value) : Calm (nsSet a name v) := by
  unfold nsSet
  intro x t o
  show Calm (match o.data with | .dict es _ => _ | _ => _)
  split
  · show Calm (if _ then _ else _)
    split
    · trivial
    · trivial
  · trivial
end LkG
set_option Elab.async false
set_option linter.all false
set_option maxRecDepth 100000
set_option maxHeartbeats 2000000
namespace LkG
open PySem PySem.Spec PyProof.Rows L2 TxS LkO Lk GenW
open Sem (wp)
/-- nothing but tokens moved -/
structure Qt (s s' : Shared) : Prop where
  gens : s'.gens = s.gens
  heap : s'.heap = s.heap
theorem Qt.refl (s : Shared) : Qt s s := ⟨rfl, rfl⟩
theorem Qt.trans {s s1 s2 : Shared} (a : Qt s s1) (b : Qt s1 s2) : Qt s s2 := ⟨b.gens.trans a.gens, b.heap.trans a.heap⟩
theorem thq {α : Type} {M : Model} {A : Around} {E : Value → Shared → Prop} {t : Sem α} {Q Q' : α → Shared → Prop} {s : Shared} (h : wpAny M A t Q (fun _ _ => False) s) (k : ∀ a s', Q a s' → Q' a s') : wpAny M A t Q' E s :=
  wpAny_mono h k fun _ _ z => z.elim
/-- an expression that only reads -/
structure QE (X : Cx) (e : Expr) (t : TE) : Prop where
  run : ∀ (pins : List (Addr × Obj)) (s : Shared) (σ : L2.St) (H : Hp) (Q : VK), Inv X pins σ H s → t σ H Q → wpAny (model X.prog X.w) X.A (eval e X.env) (fun u s' => EP X pins σ Q u s' ∧ Qt s s') (fun _ _ => False) s
/-- a test that only reads -/
structure QT (X : Cx) (e : Expr) (t : TT) : Prop where
  run : ∀ (pins : List (Addr × Obj)) (s : Shared) (σ : L2.St) (H : Hp) (Q : Bool → Hp → Prop), Inv X pins σ H s → t σ H Q → wpAny (model X.prog X.w) X.A (isTrue e X.env (eval e X.env)) (fun b s' => TP X pins σ Q b s' ∧ Qt s s') (fun _ _ => False) s
section
variable {X : Cx} {pos : Pos}
theorem qe_var {i : Nat} {x : Str} (hN : X.N[i]? = some x) (vis : Vis X.env.scope x) (nd : (x == ("__debug__" : Str)) = false := by decide) (nc : (x == ("__classdict__" : Str)) = false := by decide) : QE X (.Name x pos) (tVar i) := by
  refine ⟨fun pins s σ H Q I ⟨v, e, q⟩ => ?_⟩
  obtain ⟨m, ns, look⟩ := I.loc
  obtain ⟨u, ru, l⟩ := look i x v hN e vis
  have done : EP X pins σ Q u s ∧ Qt s s := ⟨⟨v, H, I, ru, q⟩, Qt.refl s⟩
  rcases l with ⟨kd, at_⟩ | ⟨kd | kd, c, hc, cell⟩
  · exact wpAny_Name (wpAny_loadName_local I.ok.kind kd ns at_ done) nd
  · exact wpAny_Name (wpAny_loadName_cell I.ok.kind kd hc cell done) nd
  · exact wpAny_Name (wpAny_loadName_free I.ok.kind kd hc cell done nc) nd
theorem qe_fld {e : Expr} {f : Str} {ta : TE} (he : QE X e ta) (hb : attributeBase e f X.env (eval e X.env) = eval e X.env) : QE X (.Attribute e f pos) (tFld X.K ta f) := by
  refine ⟨fun pins s σ H Q I h => attr_of hb (thq (he.run pins s σ H _ I h) fun u s1 z => ?_)⟩
  obtain ⟨⟨x, H1, I1, rx, a, C, dx, fs, v, rfl, ea, c, n, l, q⟩, k1⟩ := z
  obtain rfl : u = Value.ref a := rx
  obtain ⟨mA, ob, rel, _⟩ := ins_get I1.hok ea
  obtain ⟨y, hy, ry⟩ := RelO.some_of (v := v) (o := mA f) (by rw [← l]; exact rel f)
  exact get_map I1.kIn ob (c.get f) c.hd n hy (handed_of ry) ⟨⟨v, H1, I1.tok _, ry, q⟩, k1.trans ⟨rfl, rfl⟩⟩
/-- x in a list of texts -/
def rInL (K : PySem.W.Frag) (neg : Bool) : R2 := fun x y H Q => ∃ p xs, y = .ref p ∧ SqL K H p xs ∧ flatV x = true ∧ xs.all flatV = true ∧ Q (.bl (if neg then !inV x xs else inV x xs)) H
theorem qt_in {a b : Expr} {ta tb : TE} (ha : QE X a ta) (hb : QE X b tb) (hm : behindInMarks .In b = false) : QT X (.Compare a [.In] [b] pos) (tTest (tOp (rInL X.K false) ta tb)) := by
  refine ⟨fun pins s σ H Q I h => wpAny_isTrue_Compare1 (thq (ha.run pins s σ H _ I h) fun v s1 ⟨⟨x, H1, I1, rx, q1⟩, k1⟩ => thq (hb.run pins s1 σ H1 _ I1 q1) fun u s2 ⟨⟨y, H2, I2, ry, q2⟩, k2⟩ => ?_) hm⟩
  obtain ⟨p, xs, rfl, hp, fx, fs, k, e, q⟩ := q2
  cases ry
  obtain ⟨its, r, pl, _⟩ := I2.list hp
  refine SeqAt.in_listAt (eqU x) pl.isList (fun w hw => mem_eqAt rx fx r fs w (by simpa using hw)) ?_
  have e1 : its.toArray.any (eqU x) = inV x xs := by
    rw [show its.toArray.any (eqU x) = its.any (eqU x) from by simp, any_eqU r fs]
    rfl
  rw [e1]
  injection e with e2
  rw [show inV x xs = k from e2]
  exact wpAny_truthy_bool ⟨⟨H2, I2, q⟩, k1.trans k2⟩
theorem qt_notIn {a b : Expr} {ta tb : TE} (ha : QE X a ta) (hb : QE X b tb) (hm : behindInMarks .NotIn b = false) : QT X (.Compare a [.NotIn] [b] pos) (tTest (tOp (rInL X.K true) ta tb)) := by
  refine ⟨fun pins s σ H Q I h => wpAny_isTrue_Compare1 (thq (ha.run pins s σ H _ I h) fun v s1 ⟨⟨x, H1, I1, rx, q1⟩, k1⟩ => thq (hb.run pins s1 σ H1 _ I1 q1) fun u s2 ⟨⟨y, H2, I2, ry, q2⟩, k2⟩ => ?_) hm⟩
  obtain ⟨p, xs, rfl, hp, fx, fs, k, e, q⟩ := q2
  cases ry
  obtain ⟨its, r, pl, _⟩ := I2.list hp
  refine SeqAt.notIn_listAt (eqU x) pl.isList (fun w hw => mem_eqAt rx fx r fs w (by simpa using hw)) ?_
  have e1 : its.toArray.any (eqU x) = inV x xs := by
    rw [show its.toArray.any (eqU x) = its.any (eqU x) from by simp, any_eqU r fs]
    rfl
  rw [e1]
  injection e with e2
  rw [show (!inV x xs) = k from e2]
  exact wpAny_truthy_bool ⟨⟨H2, I2, q⟩, k1.trans k2⟩
theorem qt_val {e : Expr} {t : TE} (h : QE X e t) (he : ∀ whole, isTrue e X.env whole = (do let v ← whole; standAt e.pos; holding [v] (truthy v)) := by intro _; rfl) : QT X e (tTest t) := by
  refine ⟨fun pins s σ H Q I z => isTrue_plain (thq (h.run pins s σ H _ I z) fun v s1 ⟨⟨x, H1, I1, rx, k, e, q⟩, k1⟩ => ?_) (he _)⟩
  subst e
  cases rx
  exact wpAny_truthy_bool ⟨⟨H1, I1, q⟩, k1⟩
theorem qt_and {a b : Expr} {ta tb : TT} (ha : QT X a ta) (hb : QT X b tb) : QT X (.BoolOp .And [a, b] pos) (tAnd ta tb) := by
  refine ⟨fun pins s σ H Q I h => isTrue_and (thq (ha.run pins s σ H _ I h) fun c s1 ⟨⟨H1, I1, q1⟩, k1⟩ => ?_)⟩
  cases c with
  | false => exact ⟨⟨H1, I1, q1⟩, k1⟩
  | true =>
    refine isTrue_and (thq (hb.run pins s1 σ H1 _ I1 q1) fun d s2 ⟨z, k2⟩ => ?_)
    cases d with
    | false => exact ⟨z, k1.trans k2⟩
    | true => exact isTrue_and_nil ⟨z, k1.trans k2⟩
/-- a pair of two such values: one new tuple -/
theorem run_pair {a b : Expr} {x1 : Nat} {ta tb : TE} {pins : List (Addr × Obj)} {s : Shared} {σ : L2.St} {H : Hp} {x y : V} (ha : QE X a ta) (hb : QE X b tb) (hs : starEach [a, b] X.env = [(false, eval a X.env), (false, eval b X.env)]) (I : Inv X pins σ H s)
    (h : ta σ H fun x' H1 => x' = x ∧ tb σ H1 fun y' _ => y' = y) : wpAny (model X.prog X.w) X.A (eval (.Tuple [a, b] x1 pos) X.env)
      (fun u s' => u = .ref s.heap.objs.size ∧ s'.gens = s.gens ∧ s'.os = s.os ∧ (∃ o, s'.heap = s.heap.push o) ∧ ∃ ua ub, RelV x ua ∧ RelV y ub ∧ IsTup s'.heap s.heap.objs.size #[ua, ub]) (fun _ _ => False) s := by
  refine wpAny_Tuple_spliced ?_
  rw [hs]
  show wpAny _ _ (spliced ((false, eval a X.env) :: _)) _ _ s
  refine Calls.spliced_cons (thq (ha.run pins s σ H _ I h) fun u s1 ⟨⟨x', H1, I1, rx, ex, q1⟩, k1⟩ => ?_)
  subst ex
  refine Calls.spliced_cons (thq (hb.run pins s1 σ H1 _ I1 q1) fun u2 s2 ⟨⟨y', H2, I2, ry, ey⟩, k2⟩ => ?_)
  subst ey
  have k := k1.trans k2
  refine Calls.spliced_nil ⟨by show 2 ≤ sizeLine; rw [sizeLine_eq]; decide, ?_⟩
  rw [k.heap]
  exact ⟨rfl, k.gens, I2.os.trans I.os.symm, ⟨_, rfl⟩, u, u2, rx, ry, ⟨_, Heap.get?_push_size _ rfl, rfl, _, rfl⟩⟩
/-- a name of the block is stored -/
theorem store_q {M : Model} {A : Around} {E : Value → Shared → Prop} {pins : List (Addr × Obj)} {s : Shared} {σ : L2.St} {H : Hp} {i : Nat} {x : Str} {v : V} {u : Value} {Q : Unit → Shared → Prop} (I : Inv X pins σ H s) (hN : X.N.Nodup) (hi : X.N[i]? = some x) (kd : X.env.kindOf x = some .local) (lo : X.env.scope.names.lookup x = some .local) (r : RelV v u)
    (q : ∀ s', Inv X pins (σ.set i (some v)) H s' → s'.gens = s.gens → Heap.SameBut X.env.locals s.heap s'.heap → Q () s') : wpAny M A (storeName X.env x u) Q E s := by
  obtain ⟨m, ns, _⟩ := id I.loc
  have pl : (X.env.scope.kind == .class || (X.env.scope.kind == .module && X.env.locals != X.env.globals)) = false := by rw [I.ok.kind]; rfl
  have cm : Calm (storeName X.env x u) := by
    rw [storeName_local kd pl]
    exact calm_nsSet _ _ _
  have h1 : wpAny M A (storeName X.env x u) (fun _ s' => Inv X pins (σ.set i (some v)) H s') (fun _ _ => False) s := store_ok2 I hN hi (.inl lo) r (fun s' J _ => J) (.inr lo)
  have h2 : wpAny M A (storeName X.env x u) (fun _ s' => s'.gens = s.gens ∧ Heap.SameBut X.env.locals s.heap s'.heap) (fun _ _ => False) s := wpAny_storeName_local kd ns (fun h' _ sb => ⟨rfl, sb⟩) pl
  exact wpAny_mono (wpAny_both cm h1 h2) (fun _ s' z => q s' z.1 z.2.1 z.2.2) fun _ _ z => z.1.elim
end

/-! ### a generator that hands out fresh pairs -/
/-- all that stood at s1 stands, but for the names of the frame at L -/
structure Woke (L : Addr) (s1 s2 : Shared) : Prop where
  os : s2.os = s1.os
  bare : AllBare s2.gens
  keep : ∀ b o, b ≠ L → s1.heap.get? b = some o → s2.heap.get? b = some o
  ns : ∃ o, s2.heap.get? L = some o ∧ ∀ vs, o.data ≠ .fields vs
def YT (L : Addr) (s1 : Shared) (outs : List (V × V)) : Protocol := fun n s₀ v s kap => (s.os = s₀.os ∧ s.gens = s₀.gens ∧ (∃ o, s.heap = s₀.heap.push o) ∧ v = .ref s₀.heap.objs.size) ∧
  (∃ x y ua ub, n < outs.length ∧ outs[outs.length - 1 - n]? = some (x, y) ∧ RelV x ua ∧ RelV y ub ∧ IsTup s.heap s₀.heap.objs.size #[ua, ub]) ∧ ∀ s', Woke L s1 s' → kap (.send .none) s'
def FT (n : Nat) (s₀ s : Shared) : Prop := n = 0 ∧ s.os = s₀.os ∧ s.gens = s₀.gens ∧ s.heap = s₀.heap
def RT : GenEnd := fun n s₀ r s => ((r = .ok (.ret .none) ∨ r = .ok .next) ∧ FT n s₀ s) ∨ ∃ e, r = .error e ∧ (fun _ _ => False) e s
/-- woken at s₀, nothing moved since -/
structure Fine (L : Addr) (s1 s₀ s : Shared) : Prop where
  wk : Woke L s1 s
  os : s.os = s₀.os
  gens : s.gens = s₀.gens
  heap : s.heap = s₀.heap
/-- the same frame, seen from another beginning -/
abbrev at0 (X : Cx) (s0 : Shared) : Cx := { X with s_0 := s0 }
theorem frames_at {h h' base : Heap} {L : Addr} {o : Obj} (hs : Heap.SameBut L h h') (ho : h'.get? L = some o) (hd : ∀ vs, o.data ≠ .fields vs) : ∀ {l : List Env}, h.FunFrames base l → h'.FunFrames base l
  | [], _ => trivial
  | _ :: _, ⟨hk, ⟨L', o1, hf, hb, h1, hd1⟩, hr⟩ => by
    refine ⟨hk, ?_, frames_at hs ho hd hr⟩
    by_cases q : L' = L
    · exact ⟨L', o, hf, hb, by rw [q]; exact ho, hd⟩
    · exact ⟨L', o1, hf, hb, (hs.2 L' q).trans h1, hd1⟩
theorem inv_shift {X : Cx} {σ : L2.St} {H : Hp} {s1 s3 : Shared} {L : Addr} (I : Inv X [] σ H s1) (hpn : X.pn = []) (hH : X.H_0 = H) (hL : L ∈ X.fs) (hc : ∀ x c, X.env.cells.lookup x = some c → c ≠ L) (k0 : ∀ b o, X.s_0.heap.get? b = some o → s1.heap.get? b = some o) (wk : Woke L s1 s3) :
    ∃ s0, Inv (at0 X s0) [] σ H s3 := by
  obtain ⟨bn, o0, ho0, _⟩ := I.ok.funs.mem hL
  obtain ⟨o, ho, hd⟩ := wk.ns
  have fo : o.isFreed = false := (Heap.get?_some_iff.mp ho).2
  have sb : Heap.SameBut L X.s_0.heap (X.s_0.heap.update L fun _ => o) := Heap.SameBut.update _ _ _
  have hU : (X.s_0.heap.update L fun _ => o).get? L = some o := Heap.get?_update_self _ ho0 fo
  have HL : H L = none := by rw [← hH]; exact I.ok.frf L hL
  have lt : L < X.s_0.heap.objs.size := Heap.lt_size ho0
  have nl : X.env.locals ≠ L := Nat.ne_of_gt (Nat.lt_of_lt_of_le lt I.ok.above)
  have nit : ∀ b u, H b = some u → b ≠ L := fun b u e z => by rw [z, HL] at e; cases e
  refine ⟨{ X.s_0 with heap := X.s_0.heap.update L fun _ => o }, ⟨I.ok.mod, I.ok.kind, I.ok.glob, I.ok.blt, ?_, I.ok.inj, I.ok.has, ?_, I.ok.hd, I.ok.frames, I.ok.stk, I.ok.exf, ?_, ?_, I.ok.noex, I.ok.exfs, frames_at sb hU hd I.ok.funs, I.ok.frf⟩, wk.os.trans I.os, wk.bare, ?_, ?_, ?_, I.free, I.freeC, ?_, ?_, I.len⟩
  · show (X.s_0.heap.update L fun _ => o).objs.size ≤ _
    rw [sb.1]
    exact I.ok.above
  · intro x c h1 h2
    show (X.s_0.heap.update L fun _ => o).objs.size ≤ _
    rw [sb.1]
    exact I.ok.cab x c h1 h2
  · intro b u e
    obtain ⟨h1, h2⟩ := I.ok.bs b u e
    have nb : b ≠ L := fun z => by rw [z, bn] at e; cases e
    exact ⟨(sb.2 b nb).trans h1, h2⟩
  · show _ ≤ (X.s_0.heap.update L fun _ => o).objs.size
    rw [sb.1]
    exact I.ok.bsz
  · show Un X.fs X.ex X.H_0 H (X.s_0.heap.update L fun _ => o) s3.heap
    rw [hH]
    refine Un.kept fun b u e => ?_
    by_cases q : b = L
    · subst q
      rw [hU] at e
      cases e
      exact ho
    · rw [sb.2 b q] at e
      exact wk.keep b u q (k0 b u e)
  · obtain ⟨m, ⟨oL, es, ep, hoL, r⟩, look⟩ := I.loc
    refine ⟨m, ⟨oL, es, ep, wk.keep _ _ nl hoL, r⟩, fun i x v h1 h2 h3 => ?_⟩
    obtain ⟨u, ru, l⟩ := look i x v h1 h2 h3
    refine ⟨u, ru, l.imp id fun ⟨kd, c, h4, oc, hoc, hdc⟩ => ⟨kd, c, h4, oc, wk.keep _ _ (hc x c h4) hoc, hdc⟩⟩
  · intro x c e
    obtain ⟨v, oc, hoc, hdc⟩ := I.cell x c e
    exact ⟨v, oc, wk.keep _ _ (hc x c e) hoc, hdc⟩
  · intro p hp
    rw [show (at0 X _).pn = [] from hpn] at hp
    simp at hp
  · intro b u e
    refine (I.hok b u e).stay (fun c v hc q => wk.keep c v ?_ q) (fun _ q => q) fun _ _ q => q
    rcases hc with z | z
    · rw [z]; exact nit b u e
    · exact nit c _ z
section
variable {X : Cx} {A : Around} {L : Addr} {s1 : Shared} {all : List (V × V)} {σ : L2.St} {H : Hp} {c : Code}
/-- statements of the body: outs is still to come, outs' behind them -/
def GQ (X : Cx) (A : Around) (L : Addr) (s1 : Shared) (all : List (V × V)) (c : Code) (t : Sem Flow) (outs outs' : List (V × V)) : Prop :=
  ∀ (K : Flow → Sem PySem.Fin) (J : Value → Sem PySem.Fin) (s₀ s : Shared), Fine L s1 s₀ s → (∀ s₀ s, Fine L s1 s₀ s → Seg (model X.prog X.w) A RT (YT L s1 all) outs'.length s₀ c (K .next) [] s) →
    Seg (model X.prog X.w) A RT (YT L s1 all) outs.length s₀ c (t.wrap K J id id) [] s
theorem gq_nil {outs : List (V × V)} : GQ X A L s1 all c (execs [] X.env) outs outs := fun K J s₀ s h k => seg_execs_nil (k s₀ s h)
theorem gq_cons {st : Stmt} {rest : List Stmt} {o o1 o2 : List (V × V)} (a : GQ X A L s1 all c (exec st X.env) o o1) (b : GQ X A L s1 all c (execs rest X.env) o1 o2) : GQ X A L s1 all c (execs (st :: rest) X.env) o o2 :=
  fun K J s₀ s h k => seg_execs_cons (a _ J s₀ s h fun s₀' s' h' => b K J s₀' s' h' k)
theorem gq_yield {a b : Expr} {x1 : Nat} {p yp ep : Pos} {ta tb : TE} {x y : V} {outs : List (V × V)} (ov : A.over c [] = X.A) (hI : ∀ s2, Woke L s1 s2 → ∃ s0, Inv (at0 X s0) [] σ H s2) (ha : ∀ s0, QE (at0 X s0) a ta) (hb : ∀ s0, QE (at0 X s0) b tb) (h : ta σ H fun x' H1 => x' = x ∧ tb σ H1 fun y' _ => y' = y)
    (suf : ∃ pre, all = pre ++ (x, y) :: outs) (hs : starEach [a, b] X.env = [(false, eval a X.env), (false, eval b X.env)] := by rfl) (hco : X.env.scope.isCoroutine = false := by rfl) (hi : interactive X.env = false := by rfl) :
    GQ X A L s1 all c (exec (.Expr (.Yield (some (.Tuple [a, b] x1 p)) yp) ep) X.env) ((x, y) :: outs) outs := by
  intro K J s₀ s f k
  refine seg_Expr_Yield rfl rfl rfl ?_ hco hi
  rw [ov]
  obtain ⟨s0, I0⟩ := hI s f.wk
  refine thq (run_pair (X := at0 X s0) (ha s0) (hb s0) hs I0 h) fun u s' z => ?_
  obtain ⟨rfl, hg, ho, hp, ua, ub, ra, rb, ht⟩ := z
  intro kap hk
  obtain ⟨pre, e⟩ := suf
  rw [f.heap] at hp ht
  refine ⟨⟨ho.trans f.os, hg.trans f.gens, hp, by rw [f.heap]⟩, ⟨x, y, ua, ub, ?_, ?_, ra, rb, ht⟩, fun s'' wk => hk .none s'' (k s'' s'' ⟨wk, rfl, rfl, rfl⟩)⟩
  · rw [e, List.length_append, List.length_cons]
    omega
  · rw [e, List.length_append, List.length_cons, show pre.length + (outs.length + 1) - 1 - outs.length = pre.length from by omega, List.getElem?_append_right (Nat.le_refl _), Nat.sub_self]
    rfl
theorem gq_if {test : Expr} {body orelse : List Stmt} {p : Pos} {tc : TT} {d : Bool} {outs outs' : List (V × V)} (ov : A.over c [] = X.A) (hI : ∀ s2, Woke L s1 s2 → ∃ s0, Inv (at0 X s0) [] σ H s2) (ht : ∀ s0, QT (at0 X s0) test tc) (h : tc σ H fun d' _ => d' = d)
    (hb : GQ X A L s1 all c (execs (if d = true then body else orelse) X.env) outs outs') : GQ X A L s1 all c (exec (.If test body orelse p) X.env) outs outs' := by
  intro K J s₀ s f k
  rw [exec_If]
  refine seg_bind_wrap (wpAny_standAt ?_)
  refine seg_bind_wrap ?_
  rw [ov]
  obtain ⟨s0, I0⟩ := hI s f.wk
  refine thq ((ht s0).run [] s σ H _ I0 h) fun b s' ⟨⟨H', I', e⟩, q⟩ => ?_
  subst e
  have f' : Fine L s1 s₀ s' := ⟨⟨(I'.os.trans I0.os.symm).trans f.wk.os, I'.bare, fun b o n e => by rw [q.heap]; exact f.wk.keep b o n e, by rw [q.heap]; exact f.wk.ns⟩, (I'.os.trans I0.os.symm).trans f.os, q.gens.trans f.gens, q.heap.trans f.heap⟩
  cases b with
  | true => exact hb K J s₀ s' f' k
  | false => exact hb K J s₀ s' f' k
end
end LkG
set_option Elab.async false
set_option linter.all false
set_option maxRecDepth 100000
set_option maxHeartbeats 2000000
namespace LkG
open PySem PySem.Spec PyProof.Rows L2 TxS LkO Lk GenW
open Sem (wp)
/-- a generator of these pairs that has not begun -/
def GT (P : Program) (w : World) (k : Nat) (outer : List Env) (outs : List (V × V)) (s : Shared) (u : Value) (s' : Shared) : Prop :=
  ∃ (a : Addr) (g : Nat) (c : Code), u = .ref a ∧ a < s'.heap.objs.size ∧ s'.heap.IsGen a g ∧ s'.gens[g]? = some (.fresh c) ∧ s'.os = s.os ∧ AllBare s'.gens ∧ (∀ b o, s.heap.get? b = some o → s'.heap.get? b = some o) ∧
    ∀ (A : Around) (L : Addr) (s2 : Shared), L ∈ frs outer → Room k A → A.frames = some outer → Woke L s' s2 → Seg (model P w) A RT (YT L s' outs) outs.length s2 c ((model P w).den c) [] s2
section
variable {P : Program} {w : World} {K : PySem.W.Frag} {mg : Str → Option Value} {base : Heap} {k : Nat} {f : Addr} {name qual : Str} {params : Arguments} {body : List Stmt} {scope : Scope} {dV kV doc pm cdv ct oc : Value} {an od : Option Addr}
  {osl : Array (Option Value)} {N ps : List Str}
/-- the call, by the body -/
theorem call_gt {A : Around} {outer : List Env} {s : Shared} {H : Hp} {args : Args} {us : List Value} {vs : List V} {outs : List (V × V)} (lk : K.lookup f = some ⟨oc, od, .func (PySem.W.fnOf name qual params body scope dV kV doc pm an cdv ct), osl⟩) (hcd : PySem.W.codeIn K cdv qual = true)
    (S : GScope N ps scope) (hr : Room (k + 1) A) (e0 : Env0 P w K mg base A outer s H) (hb : BindsTo s (PySem.W.fnOf name qual params body scope dV kV doc pm an cdv ct) args (ps.zip us)) (hl : vs.length = ps.length) (r : Vals vs us)
    (hq : ∀ (A2 : Around) (L : Addr) (s1 : Shared), Room k (A2.deeper (envOfC qual scope s.heap.objs.size f cdv)) → (∀ s2, Woke L s1 s2 → ∃ s0, Inv (at0 (gcxOf P w K mg base N qual scope f cdv A2 outer s H E0 []) s0) [] (start N vs) H s2) →
      GQ (gcxOf P w K mg base N qual scope f cdv A2 outer s H E0 []) A2 L s1 outs (.func body (envOfC qual scope s.heap.objs.size f cdv)) (execs body (envOfC qual scope s.heap.objs.size f cdv)) outs []) :
    codeAny (model P w) A (.call (.ref f) args) (fun r s' => match r with | .ok (.ret u) => GT P w (k + 1) outer outs s u s' | _ => False) s := by
  have KX : K.In s.heap := e0.mod.kin.keeps fun b o e => (e0.bs b o e).1
  have lim : s.heap.NoLimit := e0.mod.nolimit.keeps fun b o e => (e0.bs b o e).1
  have kinds : ∀ y ∈ ps.zip us, scope.names.lookup y.1 = some .local ∨ (scope.names.lookup y.1 = some .cell ∧ ((cellsFrom (s.heap.objs.size + 1) scope.names []).lookup y.1).isSome = true) := fun ⟨n, v⟩ hy =>
    (S.par n (List.of_mem_zip hy).1).imp id fun q => ⟨q, PySem.W.cellsFrom_some _ _ _ (.inl q)⟩
  refine codeAny_call_generator hr.depth (KX _ _ lk) rfl S.co S.gen rfl (PySem.W.codeRec_of KX hcd) (hb _ _ _ _ ?_)
  refine wpAny_newFunctionEnv_cells S.kind kinds fun env he s1 x => ?_
  subst he
  refine ⟨lim.keeps x.toInCall.keep, ?_⟩
  obtain ⟨h1, tk, es, hk⟩ := x.done
  have os1 : s1.os = s.os := by rw [es]
  have gn1 : s1.gens = s.gens := by rw [es]
  generalize ego : ({ cls := .type "generator", data := .fields #[.int s1.gens.size 0, .str name s1.toks, .str qual (s1.toks + 1)] } : Obj) = go
  have gAt : (s1.heap.push go).get? s1.heap.objs.size = some go := by
    rw [← ego]
    exact Heap.get?_push_size _ rfl
  have up : ∀ b o, s1.heap.get? b = some o → (s1.heap.push go).get? b = some o := fun b o e => Heap.get?_push_of_some _ e
  refine ⟨s1.heap.objs.size, s1.gens.size, _, rfl, ?_, ⟨go, _, _, gAt, by rw [← ego], by rw [← ego], by rw [← ego]⟩, Array.getElem?_push_size .., os1, AllBare.push (by rw [gn1]; exact e0.bare) rfl, fun b o e => up b o (x.toInCall.keep b o e), ?_⟩
  · show _ < (s1.heap.push _).objs.size
    rw [Heap.size_push]
    exact Nat.lt_succ_self _
  intro A2 L s2 hL hr2 hf2 wk
  have e2 : Env0 P w K mg base A2 outer s H := ⟨hf2, e0.mod, e0.bs, e0.bsz, e0.funs, e0.frf, e0.hok, e0.bare⟩
  have I1 : Inv (gcxOf P w K mg base N qual scope f cdv A2 outer s H E0 []) [] (start N vs) H s1 := inv_startG S hr2.hd e2 hl r x
  have lt : L < s.heap.objs.size := by
    obtain ⟨_, o0, ho0, _⟩ := e0.funs.mem hL
    exact Heap.lt_size ho0
  have hI : ∀ s3, Woke L { s1 with gens := s1.gens.push (.fresh (.func body (envOfC qual scope s.heap.objs.size f cdv))), toks := s1.toks + 1 + 1, heap := s1.heap.push go } s3 → ∃ s0, Inv (at0 (gcxOf P w K mg base N qual scope f cdv A2 outer s H E0 []) s0) [] (start N vs) H s3 := fun s3 z => by
    refine inv_shift (s1 := s1) I1 rfl rfl hL (fun n c h => ?_) (fun b o e => x.toInCall.keep b o e) ⟨z.os, z.bare, fun b o n e => z.keep b o n (up b o e), z.ns⟩
    have := x.above n c (PySem.mem_of_lookup h)
    exact Nat.ne_of_gt (Nat.lt_trans lt this)
  refine seg_func ?_
  have q := hq A2 L _ (hr2.deeper _) hI
  refine q (fun f => .pure (.done (.ret (match f with | .ret v => v | _ => .none)))) _ s2 s2 ⟨wk, rfl, rfl, rfl⟩ fun s₀ s3 f3 => ?_
  exact seg_end (.ok (.ret .none)) (.inl ⟨.inl rfl, rfl, f3.os, f3.gens, f3.heap⟩)
end

/-- an expression whose value is such a generator -/
abbrev TGT := L2.St → Hp → (List (V × V) → Hp → Prop) → Prop
structure PGT (X : Cx) (k : Nat) (e : Expr) (tg : TGT) : Prop where
  run : ∀ (pins : List (Addr × Obj)) (s : Shared) (σ : L2.St) (H : Hp) (q : List (V × V) → Hp → Prop), Inv X pins σ H s → tg σ H q → wpAny (model X.prog X.w) X.A (eval e X.env)
    (fun u s' => ∃ H1 sc outs, Inv X pins σ H1 sc ∧ GT X.prog X.w k X.stack outs sc u s' ∧ q outs H1) X.xe s
/-- the def's promise: the arguments, the heap, the pairs -/
abbrev SpT := List V → Hp → List (V × V) → Prop
structure GFt (P : Program) (w : World) (K : PySem.W.Frag) (mg : Str → Option Value) (base : Heap) (k : Nat) (f : Addr) (fd : FuncData) (ps : List Str) (sp : SpT) : Prop where
  len : ∀ vs H outs, sp vs H outs → vs.length = ps.length
  run : ∀ (A : Around) (outer : List Env) (s : Shared) (H : Hp) (args : Args) (us : List Value) (vs : List V) (outs : List (V × V)), Room k A → Env0 P w K mg base A outer s H → BindsTo s fd args (ps.zip us) → Vals vs us → sp vs H outs →
    codeAny (model P w) A (.call (.ref f) args) (fun r s' => match r with | .ok (.ret u) => GT P w k outer outs s u s' | _ => False) s
section
variable {X : Cx} {k : Nat} {f C : Addr} {fd : FuncData} {ps : List Str} {sp : SpT} {o : Expr} {ta : TE} {m : Str} {apos cpos : Pos}
def tMethT (C : Addr) (m : Str) (sp : SpT) (ta : TE) : TGT := fun σ H q => ta σ H fun x H1 => ∃ a dx fs outs, x = .ref a ∧ H1 a = some (.ins C dx fs) ∧ fs.lookup m = none ∧ sp [x] H1 outs ∧ q outs H1
theorem pgt_meth0 {pl : Sem Bool} (he : PE X o ta) (c : Cls X.K C) (hm : Meth X.K C m f) (F : GFt X.prog X.w X.K X.mg X.base k f fd ps sp) (hr : Room k X.A) (hb : Binds X.K fd ps [])
    (ht : eval (.Call (.Attribute o m apos) [] [] cpos) X.env = (do
      let ov ← eval o X.env
      standAt apos.atName
      let (f, first) ← holding [ov] (getMethod ov m pl)
      callWith cpos f first (backTo cpos (starEach [] X.env)) (backToKw cpos (keywordEach [] X.env))) := by rfl) :
    PGT X k (.Call (.Attribute o m apos) [] [] cpos) (tMethT C m sp ta) := by
  refine ⟨fun pins s σ H q I h => PySem.W.methodCall_KW (pl := pl) (thn (he.run pins s σ H _ I h) fun u s1 z => ?_) ht⟩
  obtain ⟨x, H1, I1, rx, a, dx, fs, outs, rfl, ea, l, hs, hq⟩ := z
  obtain rfl : u = Value.ref a := rx
  refine getmeth_ok I1 ea c hm l (PySem.W.callWith_K0 (first := [.ref a]) I1.kIn hm.kp ?_)
  have r2 : Vals [V.ref a] [Value.ref a] := .cons rfl .nil
  have l2 : ([Value.ref a] : List Value).length = ps.length := by rw [← r2.length]; exact F.len _ _ _ hs
  refine wpAny_call (codeAny_mono (F.run X.A X.stack s1 H1 ⟨[.ref a], []⟩ [.ref a] [.ref a] outs hr I1.env0 (by simpa using hb s1 [.ref a] I1.kIn (by simpa using l2)) r2 hs) fun r s2 z => ?_)
  cases r with
  | error e => exact z.elim
  | ok fl =>
    cases fl with
    | ret u => exact ⟨H1, s1, outs, I1, z, hq⟩
    | next => exact z.elim
    | brk => exact z.elim
    | cont => exact z.elim
end
end LkG
set_option Elab.async false
set_option linter.all false
set_option maxRecDepth 100000
set_option maxHeartbeats 4000000
namespace LkG
open PySem PySem.Spec PyProof.Rows L2 TxS LkO Lk GenW
open Sem (wp)
theorem gens_set {s s1 : Shared} {g : Nat} {x y : GenState} (e : s1.gens = (s.setGen g x).gens) (h : g < s.gens.size) : (s1.setGen g y).gens[g]? = some y :=
  setGen_at (by rw [e, show (s.setGen g x).gens.size = s.gens.size from setGen_size s g x]; exact h)
/-- for x, y in a generator of pairs: if test: return e -/
def tForG (tg : TGT) (ix iy : Nat) (tt : TT) (te : TE) : TS := fun D σ H => tg σ H fun outs H1 => ∃ W : Nat → L2.St → Hp → Prop, W 0 σ H1 ∧ (∀ σ2 H2, W outs.length σ2 H2 → D.nx σ2 H2) ∧
  ∀ i x y σ2 H2 p, outs[i]? = some (x, y) → W i σ2 H2 → H2 p = none → tt ((σ2.set ix (some x)).set iy (some y)) (upd H2 p (.tup [x, y])) fun b H3 => if b = true then
    te ((σ2.set ix (some x)).set iy (some y)) H3 D.rt else W (i + 1) ((σ2.set ix (some x)).set iy (some y)) H3
theorem ps_forG {X : Cx} {iter test e : Expr} {x y : Str} {px py tp pos ip rp : Pos} {kk ix iy k : Nat} {tg : TGT} {tt : TT} {te : TE} (hc : X.calm = true) (hN : X.N.Nodup) (hr : Room (k + 1) X.A) (hst : X.env.locals ∈ frs X.stack) (hi : PGT X k iter tg)
    (hx : X.N[ix]? = some x) (hy : X.N[iy]? = some y) (lx : X.env.scope.names.lookup x = some .local) (ly : X.env.scope.names.lookup y = some .local) (ht : QT X test tt) (he : QE X e te) (hs : ∀ x, foldedSetIterable iter X.env x = pure x := by intro _; rfl) :
    PS X (.For (.Tuple [.Name x px, .Name y py] kk tp) iter [.If test [.Return (some e) rp] [] ip] [] pos) (tForG tg ix iy tt te) := by
  refine ⟨fun pins s σ H D I h => ?_⟩
  refine wpAny_For (thn (hi.run pins s σ H _ I h) fun u s1 z => ?_) hs
  obtain ⟨H1, sc, outs, Ic, ⟨a, g, c, rfl, ha, hg, hgs, hos, hba, hkp, wake⟩, W, w0, wEnd, turn⟩ := z
  refine wpAny_pyIter_gen hg ?_
  have I1 : Inv X pins σ H1 s1 := Ic.call' (ch := []) hos (Un.kept hkp) (Ic.hok.kept hkp) hba fun b hb => by simp at hb
  have kdx : X.env.kindOf x = some .local := lx
  have kdy : X.env.kindOf y = some .local := ly
  have frm : X.A.in1.frames = some X.stack := I.ok.frames
  have nsOf : ∀ {σ' : L2.St} {H' : Hp} {s' : Shared}, Inv X pins σ' H' s' → ∃ o, s'.heap.get? X.env.locals = some o ∧ ∀ vs, o.data ≠ .fields vs := fun {σ' H' s'} I' => by
    obtain ⟨m, ⟨o, es, ep, ho, hd, _⟩, _⟩ := I'.loc
    exact ⟨o, ho, fun vs z => by rw [hd] at z; cases z⟩
  have nea : a ≠ X.env.locals := fun z => by
    obtain ⟨o, ho, hd⟩ := nsOf I1
    obtain ⟨og, _, _, hog, _, hod, _⟩ := hg
    rw [z, ho] at hog
    cases hog
    exact hd _ hod
  have genAt : ∀ {s' : Shared}, Woke X.env.locals s1 s' → s'.heap.IsGen a g := fun {s'} wk => by
    obtain ⟨og, n1, q1, hog, r⟩ := hg
    exact ⟨og, n1, q1, wk.keep a og nea hog, r⟩
  refine codeAny_forLoop_any (fun n s' => ∃ i σ' H', n + i = outs.length ∧ Inv X pins σ' H' s' ∧ Woke X.env.locals s1 s' ∧ (∃ gs, s'.gens[g]? = some gs ∧ gs.Goes (model X.prog X.w) X.A.in1 RT (YT X.env.locals s1 outs) n (.send .none) (s'.setGen g .running)) ∧ W i σ' H') ?_ outs.length ?_
  · rintro n s5 ⟨i, σ5, H5, hni, I5, wk5, ⟨gs, hgs5, go5⟩, w5⟩
    have hg5 := genAt wk5
    have hgl : g < s5.gens.size := (Array.getElem?_eq_some_iff.mp hgs5).1
    refine next_genG (F := FT) (Er := fun _ _ => False) (hr.hd) I5.nolimit hr.depth hg5 hgs5 go5 (fun v s6 gs' hbare hv => ?_) (fun s6 hf h' hk => ?_) fun e s6 z => z.elim
    · obtain ⟨⟨os6, gn6, ⟨ob, hp6⟩, rfl⟩, ⟨x0, y0, ua, ub, hlt, hat, ra, rb, htup⟩, kap⟩ := hv
      have hp6 : s6.heap = s5.heap.push ob := hp6
      have htup : IsTup s6.heap s5.heap.objs.size #[ua, ub] := htup
      obtain ⟨n, rfl⟩ : ∃ m, n = m + 1 := by
        cases n with
        | zero => exact absurd (kap { s5 with gens := #[] } ⟨wk5.os, fun _ hh => by simp at hh, wk5.keep, wk5.ns⟩) (fun z => z)
        | succ m => exact ⟨m, rfl⟩
      have ei : outs.length - 1 - (n + 1 - 1) = i := by omega
      rw [ei] at hat
      have k56 : ∀ b o, s5.heap.get? b = some o → s6.heap.get? b = some o := fun b o e => by rw [hp6]; exact Heap.get?_push_of_some _ e
      have np : H5 s5.heap.objs.size = none := I5.hok.fresh (Nat.le_refl _)
      have bare6 : AllBare (s6.setGen g gs').gens := allBare_setGen (by rw [gn6]; exact allBare_setGen wk5.bare rfl) hbare
      have I6 : Inv X pins σ5 (upd H5 s5.heap.objs.size (.tup [x0, y0])) (s6.setGen g gs') := by
        refine I5.call' (s' := s6.setGen g gs') (ch := []) os6 (Un.laid k56 (Nat.le_refl _) np) (I5.hok.laid k56 (Nat.le_refl _) ⟨?_, [ua, ub], .cons ra (.cons rb .nil), htup⟩) bare6 fun b hb => by simp at hb
        show 2 ≤ sizeLine
        rw [sizeLine_eq]
        decide
      have at6 : (s6.setGen g gs').gens[g]? = some gs' := gens_set gn6 hgl
      generalize es7 : s6.setGen g gs' = s7 at I6 at6 bare6
      have h7 : s7.heap = s6.heap := by rw [← es7]; rfl
      have wk7 : Woke X.env.locals s1 s7 := ⟨by rw [← es7]; exact os6.trans wk5.os, bare6, fun b o n e => by rw [h7]; exact k56 b o (wk5.keep b o n e), nsOf I6⟩
      obtain ⟨og, _, _, hog, hoc, hod, _⟩ := genAt wk7
      show wpAny _ _ (letOwnedTupleGo (.Tuple [.Name x px, .Name y py] kk tp) (.ref a) (.ref s5.heap.objs.size)) _ _ s7
      refine go_of hog hoc hod (by decide) ?_
      have ht7 : IsTup s7.heap s5.heap.objs.size #[ua, ub] := by rw [h7]; exact htup
      refine assign_Tuple_tuple (I6.ok.hd hc) ht7 rfl rfl fun h' hx8 => ?_
      have I8 : Inv X pins σ5 (upd H5 s5.heap.objs.size (.tup [x0, y0])) { s7 with heap := h' } := I6.kept (t' := s7.toks) fun b o e => hx8 b o (Nat.ne_of_lt (Heap.lt_size e)) e
      show wpAny _ _ (assignInOrder [assign (.Name x px) X.env, assign (.Name y py) X.env] [ua, ub]) _ _ _
      refine assignInOrder_cons (wpAny_assign_Name (store_q (X := X) I8 hN hx kdx lx ra fun s9 I9 gn9 sb9 => ?_))
      refine assignInOrder_cons (wpAny_assign_Name (store_q (X := X) I9 hN hy kdy ly rb fun s10 I10 gn10 sb10 => ?_))
      refine assignInOrder_nil ?_
      have gn : s10.gens = s7.gens := gn10.trans gn9
      have kp10 : ∀ b o, b ≠ X.env.locals → s1.heap.get? b = some o → s10.heap.get? b = some o := fun b o n e => by
        have e7 := wk7.keep b o n e
        exact (sb10.2 b n).trans ((sb9.2 b n).trans (hx8 b o (Nat.ne_of_lt (Heap.lt_size e7)) e7))
      refine wpAny_execs_cons (wpAny_If (thq (ht.run pins s10 _ _ _ I10 (turn i x0 y0 σ5 H5 s5.heap.objs.size hat w5 np)) fun b s11 ⟨⟨H11, I11, q11⟩, k11⟩ => ?_))
      cases b with
      | true =>
        refine wpAny_execs_cons (wpAny_Return_some (thq (he.run pins s11 _ _ _ I11 q11) fun zv s12 ⟨⟨z, H12, I12, rz, q12⟩, k12⟩ => ?_))
        exact ⟨z, _, H12, I12, rz, q12⟩
      | false =>
        refine wpAny_execs_nil (wpAny_execs_nil ?_)
        have os' : s11.os = s1.os := by
          have e1 : s11.os = X.s_0.os := I11.os
          have e2 : s1.os = X.s_0.os := I1.os
          rw [e1, e2]
        have gn11 : s11.gens = s7.gens := k11.gens.trans gn
        have kp11 : ∀ b o, b ≠ X.env.locals → s1.heap.get? b = some o → s11.heap.get? b = some o := fun b o n e => by rw [k11.heap]; exact kp10 b o n e
        refine ⟨n, Nat.lt_succ_self n, i + 1, _, H11, by omega, I11, ⟨os', I11.bare, kp11, nsOf I11⟩, ⟨gs', by rw [gn11]; exact at6, ?_⟩, q11⟩
        exact kap (s11.setGen g .running) ⟨os', allBare_setGen I11.bare rfl, kp11, by have z := nsOf I11; exact z⟩
    · obtain ⟨rfl, os6, gn6, hp6⟩ := hf
      have hp6 : s6.heap = s5.heap := hp6
      have ei : i = outs.length := by omega
      subst ei
      have k5 : ∀ b o, s5.heap.get? b = some o → h'.get? b = some o := fun b o e => hk b o (by rw [hp6]; exact e)
      have I6 : Inv X pins σ5 H5 { s6.setGen g .finished with heap := h' } := I5.call' (s' := { s6.setGen g .finished with heap := h' }) (ch := []) os6 (Un.kept k5) (I5.hok.kept k5) (allBare_setGen (by rw [gn6]; exact allBare_setGen wk5.bare rfl) rfl) fun b hb => by simp at hb
      exact wpAny_execs_nil ⟨σ5, H5, I6, wEnd σ5 H5 w5⟩
  · have wk1 : Woke X.env.locals s1 s1 := ⟨rfl, hba, fun _ _ _ e => e, nsOf I1⟩
    refine ⟨0, σ, H1, rfl, I1, wk1, ⟨.fresh c, hgs, rfl, ?_⟩, w0⟩
    refine wake X.A.in1 X.env.locals (s1.setGen g .running) hst hr.in1 frm ⟨rfl, allBare_setGen hba rfl, fun _ _ _ e => e, by have z := nsOf I1; exact z⟩
end LkG
set_option Elab.async false
set_option linter.all false
namespace Lk
open PySem PySem.Spec PyProof.Rows L2
def top (i : Nat) : Stmt := PySem.Challenge.pw_lockdoors_k03_whole_doubts.main.body.getD i (.Pass ⟨0, 0, 0, 0⟩)
abbrev s__wall : Stmt := top 0
abbrev s_is_name : Stmt := top 4
abbrev s_are_names : Stmt := top 5
abbrev s_all_in : Stmt := top 6
abbrev c_LockError : Stmt := top 8
abbrev c_BadLocks : Stmt := top 9
abbrev c_BadDoor : Stmt := top 10
abbrev c_BadPerson : Stmt := top 11
abbrev c_BadBuilding : Stmt := top 12
abbrev s_BadBuilding___init__ : Stmt := inClass c_BadBuilding 0
abbrev c_BadName : Stmt := top 13
abbrev c_BadDoubt : Stmt := top 14
abbrev s_check_other : Stmt := top 16
abbrev c_Locks : Stmt := top 17
abbrev s_Locks___init__ : Stmt := inClass c_Locks 0
abbrev s_Locks___eq__ : Stmt := inClass c_Locks 1
abbrev s_Locks___or__ : Stmt := inClass c_Locks 2
abbrev s_Locks___and__ : Stmt := inClass c_Locks 3
abbrev s_Locks___sub__ : Stmt := inClass c_Locks 4
abbrev s_Locks___contains__ : Stmt := inClass c_Locks 5
abbrev s_Locks___len__ : Stmt := inClass c_Locks 6
abbrev s_Locks_names : Stmt := inClass c_Locks 7
abbrev s_Locks_holds : Stmt := inClass c_Locks 8
abbrev s_is_cost : Stmt := top 25
abbrev c_Door : Stmt := top 26
abbrev s_Door___init__ : Stmt := inClass c_Door 0
abbrev s_Door_start : Stmt := inClass c_Door 1
abbrev s_Door_end : Stmt := inClass c_Door 2
abbrev s_Door_key : Stmt := inClass c_Door 3
abbrev s_Door_both : Stmt := inClass c_Door 4
abbrev s_Door_cost : Stmt := inClass c_Door 5
abbrev s_Door_ways : Stmt := inClass c_Door 6
abbrev s_Door___eq__ : Stmt := inClass c_Door 7
abbrev c_Person : Stmt := top 27
abbrev s_Person___init__ : Stmt := inClass c_Person 0
abbrev s_Person_start : Stmt := inClass c_Person 1
abbrev s_Person_carried : Stmt := inClass c_Person 2
abbrev s_Person_needs : Stmt := inClass c_Person 3
abbrev s_Person_shuns : Stmt := inClass c_Person 4
abbrev s_Person___eq__ : Stmt := inClass c_Person 5
abbrev s_is_table : Stmt := top 28
abbrev s_are_rooms : Stmt := top 29
abbrev s_is_key : Stmt := top 30
abbrev s_are_keys : Stmt := top 31
abbrev s_fits_door : Stmt := top 32
abbrev s_fits_person : Stmt := top 33
abbrev s_are_doors : Stmt := top 34
abbrev s_are_people : Stmt := top 35
abbrev c_Building : Stmt := top 36
abbrev s_Building___init__ : Stmt := inClass c_Building 0
abbrev s_Building_rooms : Stmt := inClass c_Building 1
abbrev s_Building_key_rooms : Stmt := inClass c_Building 2
abbrev s_Building_doors : Stmt := inClass c_Building 3
abbrev s_Building_people : Stmt := inClass c_Building 4
abbrev s_Building_door : Stmt := inClass c_Building 5
abbrev s_Building_person : Stmt := inClass c_Building 6
abbrev s_Building_reach : Stmt := inClass c_Building 7
abbrev s_Building_price : Stmt := inClass c_Building 8
abbrev s_Building_is_right : Stmt := inClass c_Building 9
abbrev s_Building___eq__ : Stmt := inClass c_Building 10
abbrev s_check_building : Stmt := top 37
abbrev s_check_locks : Stmt := top 38
abbrev s_are_doors_of : Stmt := top 39
abbrev s_keys_held : Stmt := top 40
abbrev s_lets_through : Stmt := top 41
abbrev s_room_added : Stmt := top 42
abbrev s_rooms_beyond : Stmt := top 43
abbrev s_rooms_of : Stmt := top 47
abbrev s_first_step : Stmt := top 48
abbrev s_trail_of : Stmt := top 49
abbrev s_has_doubt_form : Stmt := top 50
abbrev s_check_doubt : Stmt := top 51
abbrev s_leads_to_shunned : Stmt := top 52
abbrev s_shuts_out : Stmt := top 53
abbrev s_is_doubt : Stmt := top 54
abbrev s_strikes : Stmt := top 55
abbrev s_rules_out : Stmt := top 56
abbrev s__law_draw : Stmt := top 58
abbrev s__law_cell_at : Stmt := top 59
abbrev s__law_digits : Stmt := top 60
abbrev s__law_take : Stmt := top 61
abbrev s__law_pool : Stmt := top 62
abbrev s__law_some : Stmt := top 63
abbrev s__law_drawn : Stmt := top 64
abbrev s__law_built : Stmt := top 65
abbrev s__law_person : Stmt := top 66
abbrev s__law_behind : Stmt := top 67
abbrev s__law_reach : Stmt := top 68
abbrev s__law_is_right : Stmt := top 69
abbrev s__law_names : Stmt := top 70
abbrev s__law_sets : Stmt := top 71
abbrev s__law_locks : Stmt := top 72
abbrev s__law_walked : Stmt := top 73
abbrev s__law_drawn_trail : Stmt := top 74
abbrev s__law_is_doubt : Stmt := top 75
abbrev s__law_is_out : Stmt := top 76
abbrev s__law_doubt : Stmt := top 77
abbrev s__law_made : Stmt := top 78
abbrev s_law : Stmt := top 79
end Lk
set_option Elab.async false
set_option linter.all false
set_option maxRecDepth 100000
set_option maxHeartbeats 2000000
namespace Lk
open PySem PySem.Spec PyProof.Rows L2 TxS LkO
/-- the names of the module that are built-ins still -/
structure Blt (mg : Str → Option Value) : Prop where
  len : mg "len" = none
  isi : mg "isinstance" = none
  str : mg "str" = none
  all : mg "all" = none
  set : mg "set" = none
  srt : mg "sorted" = none
  tup : mg "tuple" = none
  lst : mg "list" = none
  bl : mg "bool" = none
  rng : mg "range" = none
  max : mg "max" = none
  min : mg "min" = none
  any : mg "any" = none
  sum : mg "sum" = none
  int : mg "int" = none
  dct : mg "dict" = none
structure Cst (mg : Str → Option Value) : Prop where
  abc : ∃ t, mg "LETTERS" = some (.str abc t)
  top : ∃ t, mg "LONGEST" = some (.int 8 t)

section
variable {P : Program} {w : World} {K : PySem.W.Frag} {mg : Str → Option Value} {base : Heap}
/-! ### is_name -/
def spName : Sp := fun vs H Q _ => ∃ z : Str, vs = [.str z] ∧ z.length ≤ sizeLine ∧ ∀ H', Same H H' → Q (.bl (isNm z)) H'
theorem scName : FnScope ["value", "letter"] ["value"] (defScope s_is_name) := ⟨rfl, rfl, rfl, by decide +kernel, rfl, by decide +kernel, by decide +kernel⟩
theorem ok_name {f : Addr} {fd : FuncData} {k : Nat} (F : Fun K "is_name" "is_name" s_is_name f fd) (B : Blt mg) (G : Cst mg) : FnOk P w K mg base CX0 (k + 1) f fd ["value"] spName := by
  obtain ⟨ta, eA⟩ := G.abc
  obtain ⟨tl, eL⟩ := G.top
  refine F.ok scName (fun vs H Q E h => ?_) (fun cdv A outer s H vs Q E hr h => ?_)
  · obtain ⟨z, rfl, _⟩ := h
    rfl
  · obtain ⟨z, rfl, hz, q⟩ := h
    refine ⟨_, pss_one (ps_ret (pe_and (pe_callB call_isi (by rfl) B.isi PyProof.Rows.boot_isinstance (pa_cons (pv 0) (pa_cons (pe_bltn (v := .ty "str") (by rfl) B.str PyProof.Rows.boot_str rfl) pa_nil)))
      (pe_and (pe_chain op_le op_le pe_int (pe_callB call_len_str (by rfl) B.len PySem.boot_len (pa_cons (pv 0) pa_nil)) (pe_glob (v := .int 8) (by rfl) eL ⟨_, rfl⟩))
      (pe_one (pe_callB (cr_all rfl) (by rfl) B.all PyProof.Rows.boot_all (pa_cons (pe_lc (own := [("letter", 1)]) (g := gName 1) (tt := tYes) rfl scName.nd (pi_str (pv 0)) (blkOk_by (N := ["value", "letter"]) (sc := defScope s_is_name) (by decide +kernel))
        (fun _ _ _ _ _ => pg_name (i := 1) scName.nd rfl (Or.inl rfl)) (fun _ _ _ _ _ => pts_nil) (fun _ _ _ _ _ => pe_cmpR op_in_sign (pv 1) (pe_glob (v := .str abc) (by rfl) eA ⟨_, rfl⟩) rfl)) pa_nil)))))), ?_⟩
    refine ⟨.str z, rfl, .str z, .ty "str", _, _, true, rfl, .ty _, .base (.str z), kit_ty (by decide +kernel), true, rfl, iteT ?_⟩
    refine ⟨.str z, rfl, z, rfl, hz, 1, _, rfl, rfl, _, rfl, ite2 (fun e1 => ?_) (fun e1 => ?_)⟩
    · refine ⟨_, _, rfl, rfl, _, rfl, ite2 (fun e2 => ?_) (fun e2 => ?_)⟩
      · have e3 : isNm z = (z.cps.toList.map fun c => decide (c ∈ abc.cps.toList)).all id := by
          unfold isNm lettersOk
          have a1 := of_decide_eq_true e1
          have a2 := of_decide_eq_true e2
          rw [decide_eq_true (show 1 ≤ z.length by omega), decide_eq_true (show z.length ≤ 8 by omega), List.all_map]
          rfl
        have szl : z.cps.size = z.length := rfl
        refine ⟨.str z, rfl, z, rfl, fun D nD => lc_it (walk_str (z := z)) (fun i H' => Grow H D ((z.cps.toList.map fun c => V.bl (decide (c ∈ abc.cps.toList))).take i) H')
          (grow0 nD) (fun _ _ _ _ => trivial) (fun i x H2 H3 hi hP hY => ?_) (fun H2 hP => ?_)⟩
        · obtain ⟨rfl, c, hc, rfl⟩ := hY
          have hc' : z.cps.toList[i]? = some c := by rw [Array.getElem?_toList]; exact hc
          refine ⟨rfl, .str ⟨#[c]⟩, rfl, c, abc, rfl, rfl, grow1 nD hP ?_ (take_next hc')⟩
          rw [List.length_take, List.length_map, Array.length_toList]
          omega
        · obtain ⟨sm, hD⟩ := hP
          rw [List.take_of_length_le (by rw [List.length_map, Array.length_toList]; exact Nat.le_refl _)] at hD
          refine ⟨D, z.cps.toList.map fun c => decide (c ∈ abc.cps.toList), rfl, .inl (.inl (by rw [List.map_map]; exact hD)), ?_⟩
          rw [← e3]
          exact q _ sm
      · have e3 : isNm z = false := by
          unfold isNm
          rw [decide_eq_false (show ¬ z.length ≤ 8 from fun u => e2 (decide_eq_true (by omega)))]
          simp
        rw [e3] at q
        exact q _ (Same.refl H)
    · have e3 : isNm z = false := by
        unfold isNm
        rw [decide_eq_false (show ¬ 1 ≤ z.length from fun u => e1 (decide_eq_true (by omega)))]
        simp
      rw [e3] at q
      exact ⟨false, rfl, iteF (q _ (Same.refl H))⟩
/-! ### all_in -/
def spAllIn (K : PySem.W.Frag) : Sp := fun vs H Q _ => ∃ (a b : Addr) (zs ws : List Str), vs = [.ref a, .ref b] ∧ zs.length ≤ 1000 ∧ SqT K H a (zs.map V.str) ∧ Sq K H b (ws.map V.str) ∧ ∀ H', Same H H' → Q (.bl (zs.all fun z => decide (z ∈ ws))) H'
theorem scAllIn : FnScope ["names", "known", "name"] ["names", "known"] (defScope s_all_in) := ⟨rfl, rfl, rfl, by decide +kernel, rfl, by decide +kernel, by decide +kernel⟩
theorem ok_allIn {f : Addr} {fd : FuncData} {k : Nat} (F : Fun K "all_in" "all_in" s_all_in f fd) (B : Blt mg) : FnOk P w K mg base CX0 (k + 1) f fd ["names", "known"] (spAllIn K) := by
  refine F.ok scAllIn (fun vs H Q E h => ?_) (fun cdv A outer s H vs Q E hr h => ?_)
  · obtain ⟨a, b, zs, ws, rfl, _⟩ := h
    rfl
  · obtain ⟨a, b, zs, ws, rfl, len, ha, hb, q⟩ := h
    refine ⟨_, pss_one (ps_ret (pe_callB (cr_all rfl) (by rfl) B.all PyProof.Rows.boot_all (pa_cons (pe_lc (own := [("name", 2)]) (g := gName 2) (tt := tYes) rfl scAllIn.nd (pi_tup (pv 0))
      (blkOk_by (N := ["names", "known", "name"]) (sc := defScope s_all_in) (by decide +kernel)) (fun _ _ _ _ _ => pg_name (i := 2) scAllIn.nd rfl (Or.inl rfl)) (fun _ _ _ _ _ => pts_nil) (fun _ _ _ _ _ => pe_cmpR (r := rIn K false) op_in_seq (pv 2) (pv 1) rfl)) pa_nil))), ?_⟩
    refine ⟨.ref a, rfl, a, rfl, ⟨_, ha⟩, fun D nD => lc_it (walk_tup (xs := zs.map V.str)) (fun i H' => Grow H D ((zs.map fun z => V.bl (decide (z ∈ ws))).take i) H')
      (grow0 nD) (fun i H' _ hP => Same.tup hP.1 ha) (fun i x H2 H3 hi hP hY => ?_) (fun H2 hP => ?_)⟩
    · obtain ⟨rfl, hx⟩ := hY
      obtain ⟨z, hz, rfl⟩ := at_map hx
      refine ⟨rfl, .str z, rfl, .ref b, rfl, b, _, rfl, Same.sq hP.1 hb, rfl, flat_strs ws, grow1 nD hP ?_ ?_⟩
      · rw [List.length_take, List.length_map]
        exact Nat.lt_of_le_of_lt (Nat.min_le_right _ _) (small1000 len)
      · rw [take_next hz, inV_str]
        rfl
    · obtain ⟨sm, hD⟩ := hP
      rw [List.length_map, List.take_of_length_le (by rw [List.length_map]; exact Nat.le_refl _)] at hD
      refine ⟨D, zs.map fun z => decide (z ∈ ws), rfl, .inl (.inl (by rw [List.map_map]; exact hD)), ?_⟩
      rw [List.all_map]
      exact q _ sm
end
/-- the class Locks as the top has made it -/
structure LkC (K : PySem.W.Frag) (mg : Str → Option Value) (C : Addr) : Prop where
  cl : Cls K C
  mgC : mg "Locks" = some (.ref C)
  nK : NoAttr K C "kept_names"
  tyc : PySem.W.findIn K (.ref C) "__class__" = some (some (.builtin "object.__class__"))
  tyg : PySem.W.specialIn K (.builtin "object.__class__") "__get__" = some (some (.builtin "getset_descriptor.__get__"))
  tyt : PySem.W.takesIn K (.builtin "object.__class__") = some true
  tym : PySem.W.mroIn K C (.type "object") = some true
  kit : PySem.W.kitOne K (.ref C) (.ref C) = some true
  sf : PySem.W.selfFirst K C = true
  nb : PySem.W.findIn K (.ref C) "__bool__" = some none
/-- a Locks at a with these names -/
structure LkAt (C : Addr) (H : Hp) (a : Addr) (zs : List Str) : Prop where
  ob : ∃ dx t, H a = some (.ins C dx [("kept_names", .ref t)]) ∧ H t = some (.tup (zs.map V.str))
  asc : Asc zs
  nm : ∀ z ∈ zs, isNm z = true
theorem LkAt.same {C : Addr} {H H' : Hp} {a : Addr} {zs : List Str} (h : LkAt C H a zs) (s : Same H H') : LkAt C H' a zs := by
  obtain ⟨⟨dx, t, h1, h2⟩, h3, h4⟩ := h
  exact ⟨⟨dx, t, s _ _ h1, s _ _ h2⟩, h3, h4⟩
section
variable {P : Program} {w : World} {K : PySem.W.Frag} {mg : Str → Option Value} {base : Heap} {C : Addr}
/-! ### check_other -/
def spCheck (C : Addr) : Sp := fun vs H Q _ => ∃ (a dx : Addr) (fs : List (Str × V)), vs = [.ref a] ∧ H a = some (.ins C dx fs) ∧ Q .non H
theorem scCheck : FnScope ["other"] ["other"] (defScope s_check_other) := ⟨rfl, rfl, rfl, by decide +kernel, rfl, by decide +kernel, by decide +kernel⟩
theorem ok_check {f : Addr} {fd : FuncData} {k : Nat} (F : Fun K "check_other" "check_other" s_check_other f fd) (B : Blt mg) (T : LkC K mg C) : FnOk P w K mg base CX0 (k + 1) f fd ["other"] (spCheck C) := by
  refine F.ok scCheck (fun vs H Q E h => ?_) (fun cdv A outer s H vs Q E hr h => ?_)
  · obtain ⟨a, dx, fs, rfl, _⟩ := h
    rfl
  · obtain ⟨a, dx, fs, rfl, ha, q⟩ := h
    refine ⟨_, pss_one (ps_if (pt_not (pt_val (pe_callB call_isi (by rfl) B.isi PyProof.Rows.boot_isinstance (pa_cons (pv 0) (pa_cons (pe_glob (v := .ref C) (by rfl) T.mgC rfl) pa_nil))))) (pss_one ps_never) pss_nil), ?_⟩
    exact ⟨.ref a, rfl, .ref a, .ref C, _, _, true, rfl, .own C, .base (.ins ha T.cl T.tyc T.tyg T.tyt T.tym), T.kit, true, rfl, iteF q⟩
/-! ### Locks.__init__ -/
def spIn (K : PySem.W.Frag) (C : Addr) : Sp := fun vs H Q _ => ∃ (x dx p : Addr) (zs : List Str), vs = [.ref x, .ref p] ∧ H x = some (.ins C dx []) ∧ SqT K H p (zs.map V.str) ∧ (∀ z ∈ zs, isNm z = true) ∧ zs.length < 64 ∧
  ∀ H' t, (∀ b o, H b = some o → b ≠ x → H' b = some o) → H' x = some (.ins C dx [("kept_names", .ref t)]) → H' t = some (.tup ((srt zs).map V.str)) → Q .non H'
theorem scInit : FnScope ["self", "names", "name"] ((["self"] : List Str) ++ (["names"] : List Str)) (defScope s_Locks___init__) := ⟨rfl, rfl, rfl, by decide +kernel, rfl, by decide +kernel, by decide +kernel⟩
/-- Locks(..): the new instance, then its names -/
def spNew (C : Addr) : Sp := fun vs H Q _ => ∃ (x dx : Addr) (zs : List Str), vs = .ref x :: zs.map V.str ∧ H x = some (.ins C dx []) ∧ (∀ z ∈ zs, isNm z = true) ∧ zs.length < 64 ∧
  ∀ H' t, (∀ b o, H b = some o → b ≠ x → H' b = some o) → H' x = some (.ins C dx [("kept_names", .ref t)]) → H' t = some (.tup ((srt zs).map V.str)) → Q .non H'
theorem ok_init {f fN : Addr} {fd fdN : FuncData} (F : Fun K "__init__" "Locks.__init__" s_Locks___init__ f fd) (B : Blt mg) (T : LkC K mg C) (GN : FnOk P w K mg base CX0 1 fN fdN ["value"] spName) (bN : Binds K fdN ["value"] []) (mN : mg "is_name" = some (.ref fN)) (kN : PySem.W.keepIn K (.ref fN) = true) :
    FnR P w K mg base CX0 2 f (spNew C) := by
  obtain ⟨oc, od, kV, doc, pm, an, cdv, ct, osl, rfl, lk, hcd⟩ := F.ex
  have R := StX.fn_star (P := P) (w := w) (mg := mg) (base := base) (k := 1) (ps := ["self"]) (pv := "names") (sp := spIn K C) lk hcd scInit StX.cxUp_none (StX.bind_star1 (B := fun us => bindArgs (PySem.W.fnOf "__init__" "Locks.__init__" (defArgs s_Locks___init__) (defBody s_Locks___init__) (defScope s_Locks___init__) .none kV doc pm an cdv ct) ⟨us, []⟩) (fun a => rfl) (fun a r rs => rfl)) (fun A outer s H vs Q E hr h => ?_)
  · intro A outer s H us vs Q E hr e0 r h
    refine R A outer s H us vs Q E hr e0 r ?_
    obtain ⟨x, dx, zs, rfl, hx, nm, few, q⟩ := h
    refine ⟨[.ref x], zs.map V.str, rfl, rfl, by rw [List.length_map, sizeLine_eq]; omega, fun p np => ?_⟩
    have nxp : x ≠ p := ne_of_none hx np
    refine ⟨x, dx, p, zs, rfl, by rw [upd_ne nxp]; exact hx, .inl (.inl upd_same), nm, few, fun H' t kp h1 h2 => q H' t (fun b o e hb => kp b o ?_ hb) h1 h2⟩
    rw [upd_ne (ne_of_none e np)]
    exact e
  · obtain ⟨x, dx, p, zs, rfl, hx, hp, nm, few, q⟩ := h
    refine ⟨_, (pss_cons (ps_if (pt_not (pt_val (pe_callB (cr_all rfl) (by rfl) B.all PyProof.Rows.boot_all (pa_cons (pe_lc (own := [("name", 2)]) (g := gName 2) (tt := tYes) rfl scInit.nd (pi_tup (pv 1))
      (blkOk_by (N := ["self", "names", "name"]) (sc := defScope s_Locks___init__) (by decide +kernel)) (fun _ _ _ _ _ => pg_name (i := 2) scInit.nd rfl (Or.inl rfl)) (fun _ _ _ _ _ => pts_nil)
      (fun _ _ _ _ _ => pe_call GN hr (by rfl) mN kN bN .nil pass0 (pa_cons (pv 2) pa_nil))) pa_nil)))) (pss_one ps_never) pss_nil)
      (pss_one (ps_fld (pv 0) (pe_callTy call_tuple_of (by rfl) B.tup PyProof.Rows.boot_tuple (pa_cons (pe_callB (cr_sortX rfl) (by rfl) B.srt PyProof.Rows.boot_sorted (pa_cons (pe_callTy (cr_setX rfl) (by rfl) B.set PyProof.Rows.boot_set (pa_cons (pv 1) pa_nil)) pa_nil)) pa_nil)) rfl))), ?_⟩
    refine ⟨.ref p, rfl, p, rfl, ⟨_, hp⟩, fun D nD => lc_it (walk_tup (xs := zs.map V.str)) (fun i H' => Grow H D ((zs.map fun z => V.bl true).take i) H')
      (grow0 nD) (fun i H' _ hP => Same.tup hP.1 hp) (fun i y H2 H3 hi hP hY => ?_) (fun H2 hP => ?_)⟩
    · obtain ⟨rfl, hy⟩ := hY
      obtain ⟨z, hz, rfl⟩ := at_map hy
      have hn := nm z (List.mem_of_getElem? hz)
      refine ⟨rfl, .str z, rfl, z, rfl, nm_line hn, fun H4 s4 => grow1 nD (hP.more s4) ?_ ?_⟩
      · rw [List.length_take, List.length_map]
        exact Nat.lt_of_le_of_lt (Nat.min_le_right _ _) (small1000 (by omega))
      · rw [hn, take_next hz]
    · obtain ⟨sm, hD⟩ := hP
      rw [List.length_map, List.take_of_length_le (by rw [List.length_map]; exact Nat.le_refl _)] at hD
      refine ⟨D, zs.map fun z => true, rfl, .inl (.inl (by rw [List.map_map]; exact hD)), true, ?_, iteF ?_⟩
      · congr 1
        rw [List.all_map]
        exact List.all_eq_true.mpr fun _ _ => rfl
      · -- self.kept_names = tuple(sorted(set(names)))
        refine ⟨.ref p, rfl, p, zs, rfl, .inl (Same.tup sm hp), by (have : scanBound = 4096 := rfl); omega, fun l c hc nl => ?_⟩
        refine ⟨l, _, c, rfl, upd_same, by omega, fun ys u hA hm hy nu => ?_⟩
        have ey : ys = srt zs := srt_of hA fun z => by rw [hm z, decide_eq_true_eq]
        subst ey
        refine ⟨u, _, rfl, .inl ⟨.inl (.inl upd_same), fun t nt => ?_⟩⟩
        have st := sm.trans ((same_new nl).trans ((same_new nu).trans (same_new nt (o := .tup ((srt zs).map V.str)))))
        have nxt : x ≠ t := ne_of_none ((sm.trans ((same_new nl).trans (same_new nu))) _ _ hx) nt
        refine ⟨.ref x, rfl, x, C, dx, [], rfl, st _ _ hx, T.cl, T.nK, by show 0 < 1000; decide, q _ t (fun b o e hb => ?_) upd_same ?_⟩
        · rw [upd_ne hb]
          exact st _ _ e
        · rw [upd_ne nxt.symm, upd_same]
end
theorem look_kept (t : Addr) : List.lookup ("kept_names" : Str) ([(("kept_names" : Str), V.ref t)] : List (Str × V)) = some (V.ref t) := by
  rw [List.lookup_cons, beq_self_eq_true]
theorem LkAt.few {C : Addr} {H : Hp} {a : Addr} {zs : List Str} (h : LkAt C H a zs) : True := trivial
section
variable {P : Program} {w : World} {K : PySem.W.Frag} {mg : Str → Option Value} {base : Heap} {C : Addr}
/-- the made Locks, whatever else is new -/
theorem made_at {H H' : Hp} {x dx t : Addr} {zs : List Str} (nx : H x = none) (nd : H dx = none) (ne : dx ≠ x) (nm : ∀ z ∈ zs, isNm z = true)
    (kp : ∀ b o, (upd (upd H dx (.own x)) x (.ins C dx [])) b = some o → b ≠ x → H' b = some o) (h1 : H' x = some (.ins C dx [("kept_names", .ref t)])) (h2 : H' t = some (.tup ((srt zs).map V.str))) : Same H H' ∧ LkAt C H' x (srt zs) :=
  ⟨Same.made nx nd kp, ⟨⟨dx, t, h1, h2⟩, asc_srt zs, fun z hz => nm z ((mem_srt zs z).1 hz)⟩⟩
/-- two Locks in, a Locks out -/
def spBin (C : Addr) (g : List Str → List Str → List Str) : Sp := fun vs H Q _ => ∃ (a b : Addr) (zs ws : List Str), vs = [.ref a, .ref b] ∧ LkAt C H a zs ∧ LkAt C H b ws ∧ zs.length + ws.length < 64 ∧ ∀ H' c, Same H H' → LkAt C H' c (g zs ws) → Q (.ref c) H'
def gOr (zs ws : List Str) : List Str := srt (zs ++ ws)
def gAnd (zs ws : List Str) : List Str := zs.filter fun z => decide (z ∈ ws)
def gSub (zs ws : List Str) : List Str := zs.filter fun z => !decide (z ∈ ws)
theorem asc_filter {zs : List Str} (p : Str → Bool) (h : Asc zs) : Asc (zs.filter p) := h.sublist List.filter_sublist

/-! ### __eq__ -/
def spEqL (C : Addr) : Sp := fun vs H Q _ => ∃ (a b : Addr) (zs ws : List Str), vs = [.ref a, .ref b] ∧ LkAt C H a zs ∧ LkAt C H b ws ∧ Q (.bl (decide (zs = ws))) H
theorem scEq : FnScope ["self", "other"] ["self", "other"] (defScope s_Locks___eq__) := ⟨rfl, rfl, rfl, by decide +kernel, rfl, by decide +kernel, by decide +kernel⟩
theorem ok_eq {f : Addr} {fd : FuncData} {k : Nat} (F : Fun K "__eq__" "Locks.__eq__" s_Locks___eq__ f fd) (B : Blt mg) (T : LkC K mg C) : FnOk P w K mg base CX0 (k + 1) f fd ["self", "other"] (spEqL C) := by
  refine F.ok scEq (fun vs H Q E h => ?_) (fun cdv A outer s H vs Q E hr h => ?_)
  · obtain ⟨a, b, zs, ws, rfl, _⟩ := h
    rfl
  · obtain ⟨a, b, zs, ws, rfl, ha, hb, q⟩ := h
    refine ⟨_, pss_one (ps_ret (pe_and (pe_callB call_isi (by rfl) B.isi PyProof.Rows.boot_isinstance (pa_cons (pv 1) (pa_cons (pe_glob (v := .ref C) (by rfl) T.mgC rfl) pa_nil)))
      (pe_one (pe_cmpR (op_eqD hr.units) (pe_fld (pv 0) rfl) (pe_fld (pv 1) rfl) (nomark _))))), ?_⟩
    obtain ⟨⟨dx, t, h1, h2⟩, a1, n1⟩ := ha
    obtain ⟨⟨dy, u, g1, g2⟩, a2, n2⟩ := hb
    refine ⟨.ref b, rfl, .ref b, .ref C, _, _, true, rfl, .own C, .base (.ins g1 T.cl T.tyc T.tyg T.tyt T.tym), T.kit, true, rfl, iteT ?_⟩
    refine ⟨.ref a, rfl, a, C, dx, _, _, rfl, h1, T.cl, T.nK, look_kept t, .ref b, rfl, b, C, dy, _, _, rfl, g1, T.cl, T.nK, look_kept u, _, _, .tup (.inl (.inl h2)) (dp_strs zs), .tup (.inl (.inl g2)) (dp_strs ws),
      shaped_strsT fun z hz => nm_ok (n1 z hz), shaped_strsT fun z hz => nm_ok (n2 z hz), ?_⟩
    rw [PyData.eqv, eqvAll_strs]
    exact q
/-! ### __contains__, __len__, names -/
def spHas (C : Addr) : Sp := fun vs H Q _ => ∃ (a : Addr) (zs : List Str) (z : Str), vs = [.ref a, .str z] ∧ LkAt C H a zs ∧ Q (.bl (decide (z ∈ zs))) H
theorem scHas : FnScope ["self", "name"] ["self", "name"] (defScope s_Locks___contains__) := ⟨rfl, rfl, rfl, by decide +kernel, rfl, by decide +kernel, by decide +kernel⟩
theorem ok_has {f : Addr} {fd : FuncData} {k : Nat} (F : Fun K "__contains__" "Locks.__contains__" s_Locks___contains__ f fd) (T : LkC K mg C) : FnOk P w K mg base CX0 (k + 1) f fd ["self", "name"] (spHas C) := by
  refine F.ok scHas (fun vs H Q E h => ?_) (fun cdv A outer s H vs Q E hr h => ?_)
  · obtain ⟨a, zs, z, rfl, _⟩ := h
    rfl
  · obtain ⟨a, zs, z, rfl, ⟨⟨dx, t, h1, h2⟩, a1, n1⟩, q⟩ := h
    refine ⟨_, pss_one (ps_ret (pe_cmpR op_in_seq (pv 1) (pe_fld (pv 0) rfl) rfl)), ?_⟩
    refine ⟨.str z, rfl, .ref a, rfl, a, C, dx, _, _, rfl, h1, T.cl, T.nK, look_kept t, t, _, rfl, .inr (.inl (.inl h2)), rfl, flat_strs zs, ?_⟩
    rw [inV_str]
    exact q
def spLen (C : Addr) : Sp := fun vs H Q _ => ∃ (a : Addr) (zs : List Str), vs = [.ref a] ∧ LkAt C H a zs ∧ Q (.int zs.length) H
theorem scLen : FnScope ["self"] ["self"] (defScope s_Locks___len__) := ⟨rfl, rfl, rfl, by decide +kernel, rfl, by decide +kernel, by decide +kernel⟩
theorem ok_len {f : Addr} {fd : FuncData} {k : Nat} (F : Fun K "__len__" "Locks.__len__" s_Locks___len__ f fd) (B : Blt mg) (T : LkC K mg C) : FnOk P w K mg base CX0 (k + 1) f fd ["self"] (spLen C) := by
  refine F.ok scLen (fun vs H Q E h => ?_) (fun cdv A outer s H vs Q E hr h => ?_)
  · obtain ⟨a, zs, rfl, _⟩ := h
    rfl
  · obtain ⟨a, zs, rfl, ⟨⟨dx, t, h1, h2⟩, a1, n1⟩, q⟩ := h
    refine ⟨_, pss_one (ps_ret (pe_callB call_len_seq (by rfl) B.len PySem.boot_len (pa_cons (pe_fld (pv 0) rfl) pa_nil))), ?_⟩
    refine ⟨.ref a, rfl, a, C, dx, _, _, rfl, h1, T.cl, T.nK, look_kept t, t, _, rfl, .inr (.inl (.inl h2)), ?_⟩
    rw [List.length_map]
    exact q
def spNames (C : Addr) : Sp := fun vs H Q _ => ∃ (a : Addr) (zs : List Str), vs = [.ref a] ∧ LkAt C H a zs ∧ ∀ l, H l = none → Q (.ref l) (upd H l (.lst (zs.map V.str)))
theorem scNames : FnScope ["self"] ["self"] (defScope s_Locks_names) := ⟨rfl, rfl, rfl, by decide +kernel, rfl, by decide +kernel, by decide +kernel⟩
theorem ok_names {f : Addr} {fd : FuncData} {k : Nat} (F : Fun K "names" "Locks.names" s_Locks_names f fd) (B : Blt mg) (T : LkC K mg C) : FnOk P w K mg base CX0 (k + 1) f fd ["self"] (spNames C) := by
  refine F.ok scNames (fun vs H Q E h => ?_) (fun cdv A outer s H vs Q E hr h => ?_)
  · obtain ⟨a, zs, rfl, _⟩ := h
    rfl
  · obtain ⟨a, zs, rfl, ⟨⟨dx, t, h1, h2⟩, a1, n1⟩, q⟩ := h
    refine ⟨_, pss_one (ps_ret (pe_callTy call_list_of (by rfl) B.lst PyProof.Rows.boot_list (pa_cons (pe_fld (pv 0) rfl) pa_nil))), ?_⟩
    exact ⟨.ref a, rfl, a, C, dx, _, _, rfl, h1, T.cl, T.nK, look_kept t, t, _, rfl, .inr (.inl (.inl h2)), q⟩
/-! ### __or__, __and__, __sub__ -/
theorem scOr : FnScope ["self", "other", "names"] ["self", "other"] (defScope s_Locks___or__) := ⟨rfl, rfl, rfl, by decide +kernel, rfl, by decide +kernel, by decide +kernel⟩
theorem ok_or {f fC fI : Addr} {fd fdC : FuncData} (F : Fun K "__or__" "Locks.__or__" s_Locks___or__ f fd) (T : LkC K mg C)
    (GC : FnOk P w K mg base CX0 1 fC fdC ["other"] (spCheck C)) (bC : Binds K fdC ["other"] []) (mC : mg "check_other" = some (.ref fC)) (kC : PySem.W.keepIn K (.ref fC) = true)
    (M : Mk K C fI) (GI : FnR P w K mg base CX0 2 fI (spNew C)) : FnOk P w K mg base CX0 4 f fd ["self", "other"] (spBin C gOr) := by
  refine F.ok scOr (fun vs H Q E h => ?_) (fun cdv A outer s H vs Q E hr h => ?_)
  · obtain ⟨a, b, zs, ws, rfl, _⟩ := h
    rfl
  · obtain ⟨a, b, zs, ws, rfl, ⟨⟨dx, t, h1, h2⟩, a1, n1⟩, ⟨⟨dy, u, g1, g2⟩, a2, n2⟩, few, q⟩ := h
    refine ⟨_, pss_cons (ps_expr (pe_call GC (hr.mono (by decide)) (by rfl) mC kC bC .nil pass0 (pa_cons (pv 1) pa_nil)))
      (pss_cons (ps_set (i := 2) scOr.nd rfl (.inl rfl) (pe_op op_catA (pe_fld (pv 0) rfl) (pe_fld (pv 1) rfl)))
      (pss_one (ps_ret (pe_makeS (E := E0) M GI hr (by rfl) T.mgC pass0 (pv 2))))), ?_⟩
    refine ⟨.ref b, rfl, b, dy, _, rfl, g1, ?_⟩
    refine ⟨.ref a, rfl, a, C, dx, _, _, rfl, h1, T.cl, T.nK, look_kept t, .ref b, rfl, b, C, dy, _, _, rfl, g1, T.cl, T.nK, look_kept u, t, u, _, _, rfl, rfl, .inl (.inl h2), .inl (.inl g2), by rw [List.length_map, List.length_map, sizeLine_eq]; omega, ?_⟩
    have fin : ∀ (H1 : Hp) (p : Addr), Same H H1 → H1 p = some (.tup ((zs ++ ws).map V.str)) → ∃ v, ([some (V.ref a), some (V.ref b), some (V.ref p)] : L2.St)[2]? = some (some v) ∧ ∃ a' xs, v = V.ref a' ∧ (SqT K H1 a' xs ∨ SqL K H1 a' xs) ∧ ∀ x dx, H1 x = none → H1 dx = none → dx ≠ x →
        spNew C (V.ref x :: xs) (upd (upd H1 dx (.own x)) x (.ins C dx [])) (fun v H2 => v = .non ∧ Q (.ref x) H2) E0 := fun H1 p s1 hp => by
      refine ⟨_, rfl, p, _, rfl, .inl (.inl (.inl hp)), fun x ex nx ne hne => ⟨x, ex, zs ++ ws, rfl, upd_same, ?_, by rw [List.length_append]; omega, fun H2 t2 kp e1 e2 => ⟨rfl, ?_⟩⟩⟩
      · intro z hz
        rcases List.mem_append.mp hz with k | k
        · exact n1 z k
        · exact n2 z k
      · obtain ⟨s2, m2⟩ := made_at nx ne hne (fun z hz => (List.mem_append.mp hz).elim (n1 z) (n2 z)) kp e1 e2
        exact q H2 x (s1.trans s2) m2
    refine ⟨fun e => ?_, fun e e' => ?_, fun e e' p np => ?_⟩
    · have ez : zs = [] := List.map_eq_nil_iff.mp e
      subst ez
      exact fin H u (Same.refl H) g2
    · have ez : ws = [] := List.map_eq_nil_iff.mp e'
      subst ez
      exact fin H t (Same.refl H) (by rw [List.append_nil]; exact h2)
    · exact fin _ p (same_new np) (by rw [upd_same, List.map_append])
end
end Lk
set_option Elab.async false
set_option linter.all false
set_option maxRecDepth 100000
set_option maxHeartbeats 2000000
/-! Comprehensions that map and keep, dicts that stay, counts of sets. -/
namespace Lk
open PySem PySem.Spec PyProof.Rows L2 TxS LkO
/-- [f(x) for x in .. if p(x)], where a turn only makes objects -/
theorem lc_mf {J : It} {n : Nat} {G : Hp → Prop} {Y : Nat → Hp → V → Hp → Prop} (w : Walk J n G Y) {g : TG} {tt : TT} {te : TE} {vs : List Nat} {σ : L2.St} {H1 : Hp} {D : Addr} {Qd : Hp → Prop} {α : Type} (l : List α) (p : α → Bool) (f : α → V) (hn : n = l.length) (nD : H1 D = none) (few : l.length ≤ 1000)
    (hG : ∀ H', Same H1 H' → G H')
    (hs : ∀ i a x H2 H' (Kt : VK) (Kf : Hp → Prop), l[i]? = some a → Same H1 H2 → Y i H2 x H' → (p a = true → ∀ H5, Same H2 H5 → Kt (f a) H5) → (p a = false → ∀ H5, Same H2 H5 → Kf H5) →
      g x (wipe σ vs) H' fun σ2 H3 => wipe σ2 vs = wipe σ vs ∧ tt σ2 H3 fun b H4 => if b = true then te σ2 H4 Kt else Kf H4)
    (hd : ∀ H2, Same H1 H2 → H2 D = some (.lst ((l.filter p).map f)) → Qd H2) :
    ∃ W : Nat → Nat → Hp → Prop, (∃ m, W 0 m (upd H1 D (.lst []))) ∧ ∀ i m H, W i m H → (J.stop i H ∧ Qd H) ∨ (J.go i H ∧ ∃ Nx : Hp → Prop, (∀ H', Nx H' → ∃ m', m' < m ∧ W (i + 1) m' H') ∧
      ∀ x H', J.yld i H x H' → g x (wipe σ vs) H' fun σ2 H2 => wipe σ2 vs = wipe σ vs ∧ tt σ2 H2 fun b H3 => if b = true then te σ2 H3 fun y H4 => ∃ acc, H4 D = some (.lst acc) ∧ acc.length < sizeLine ∧ Nx (upd H4 D (.lst (acc ++ [y]))) else Nx H3) := by
  refine lc_it w (fun i H' => Grow H1 D (((l.take i).filter p).map f) H') (grow0 nD) (fun i H' _ hP => hG H' hP.1) (fun i x H2 H3 hi hP hY => ?_) (fun H2 hP => ?_)
  · have hl : i < l.length := hn ▸ hi
    have ha : l[i]? = some l[i] := List.getElem?_eq_getElem hl
    refine hs i l[i] x H2 H3 _ _ ha hP.1 hY (fun e H5 s5 => ?_) fun e H5 s5 => ?_
    · refine grow1 nD (hP.more s5) ?_ ?_
      · rw [List.length_map]
        refine Nat.lt_of_le_of_lt (Nat.le_trans (List.length_filter_le _ _) ?_) (small1000 few)
        rw [List.length_take]
        exact Nat.min_le_right _ _
      · rw [take_next1 ha, List.filter_append, List.map_append, List.filter_cons, if_pos e]
        rfl
    · have g5 := hP.more s5
      rw [show (l.take (i + 1)).filter p = (l.take i).filter p from by rw [take_next1 ha, List.filter_append, List.filter_cons, if_neg (by rw [e]; exact Bool.false_ne_true)]; exact List.append_nil _]
      exact g5
  · obtain ⟨sm, e⟩ := hP
    rw [hn, List.take_length] at e
    exact hd H2 sm e
/-- [f(x) for x in ..] -/
theorem lc_m {J : It} {n : Nat} {G : Hp → Prop} {Y : Nat → Hp → V → Hp → Prop} (w : Walk J n G Y) {g : TG} {te : TE} {vs : List Nat} {σ : L2.St} {H1 : Hp} {D : Addr} {Qd : Hp → Prop} {α : Type} (l : List α) (f : α → V) (hn : n = l.length) (nD : H1 D = none) (few : l.length ≤ 1000)
    (hG : ∀ H', Same H1 H' → G H')
    (hs : ∀ i a x H2 H' (Kt : VK), l[i]? = some a → Same H1 H2 → Y i H2 x H' → (∀ H5, Same H2 H5 → Kt (f a) H5) → g x (wipe σ vs) H' fun σ2 H3 => wipe σ2 vs = wipe σ vs ∧ te σ2 H3 Kt)
    (hd : ∀ H2, Same H1 H2 → H2 D = some (.lst (l.map f)) → Qd H2) :
    ∃ W : Nat → Nat → Hp → Prop, (∃ m, W 0 m (upd H1 D (.lst []))) ∧ ∀ i m H, W i m H → (J.stop i H ∧ Qd H) ∨ (J.go i H ∧ ∃ Nx : Hp → Prop, (∀ H', Nx H' → ∃ m', m' < m ∧ W (i + 1) m' H') ∧
      ∀ x H', J.yld i H x H' → g x (wipe σ vs) H' fun σ2 H2 => wipe σ2 vs = wipe σ vs ∧ tYes σ2 H2 fun b H3 => if b = true then te σ2 H3 fun y H4 => ∃ acc, H4 D = some (.lst acc) ∧ acc.length < sizeLine ∧ Nx (upd H4 D (.lst (acc ++ [y]))) else Nx H3) :=
  lc_mf w l (fun _ => true) f hn nD few hG (fun i a x H2 H' Kt Kf ha s1 hY k _ => hs i a x H2 H' Kt ha s1 hY (k rfl)) fun H2 s2 e => hd H2 s2 (by rw [e, List.filter_eq_self.mpr fun _ _ => rfl])
theorem ty_tup {K : PySem.W.Frag} {H : Hp} {a : Addr} {xs : List V} (h : SqT K H a xs) : TyX K H (.ref a) (.type "tuple") := by
  rcases h with (h | ⟨o, h⟩) | ⟨o, _, _, h, c, _⟩
  · exact .base (.tup h)
  · exact .fTuple h
  · exact .kTuple h c
theorem nodup_asc : ∀ {l : List Str}, Asc l → l.Nodup := fun {l} h => by
  unfold Asc at h
  refine List.Pairwise.imp (fun {a b} hab e => ?_) h
  rw [e] at hab
  exact sl_irr b hab
theorem len_same : ∀ {l m : List Str}, l.Nodup → m.Nodup → (∀ z, z ∈ l ↔ z ∈ m) → l.length = m.length := fun {l m} hl hm e => (List.perm_ext_iff_of_nodup hl hm |>.mpr e).length_eq
/-- len(set(..)) -/
theorem cr_lenZ {X : Cx} : CallR X (.builtin "len") (fun xs H Q => ∃ (a : Addr) (zs : List Str) (n : Nat), xs = [V.ref a] ∧ H a = some (SetXO X.w a (fun z => decide (z ∈ zs)) n) ∧ Q (.int (srt zs).length) H) := by
  intro pins s σ H vs us Q I r h
  obtain ⟨a, zs, n, rfl, ha, q⟩ := h
  refine cr_lenX pins s σ H _ us Q I r ⟨a, _, n, rfl, ha, ?_⟩
  obtain ⟨ob, es, ep, t, hob, ex, hd, T, hn⟩ := setXO_get I ha
  have e : n = (srt zs).length := by
    rw [← hn, ← Array.length_toList, ← List.length_map (f := txt)]
    exact len_same T.nd (nodup_asc (asc_srt zs)) fun z => by rw [← T.mem z, decide_eq_true_eq, mem_srt]
  rw [e]
  exact q
theorem srt_full (zs : List Str) : ((srt zs).length = zs.length) ↔ zs.Nodup := by
  constructor
  · intro e
    have k := full_len zs
    exact k e
  · intro h
    exact len_same (nodup_asc (asc_srt zs)) h fun z => mem_srt zs z
where
  full_len : ∀ zs : List Str, (srt zs).length = zs.length → zs.Nodup
    | [], _ => List.nodup_nil
    | z :: r, e => by
      have h1 : (ins z (srt r)).length ≤ (srt r).length + 1 := len_ins z _
      have h2 := len_srt r
      have h3 : (ins z (srt r)).length = r.length + 1 := e
      have h4 : (srt r).length = r.length := by omega
      refine List.nodup_cons.mpr ⟨fun hm => ?_, full_len r h4⟩
      have h5 : srt (z :: r) = srt r := srt_eq fun y => ⟨fun h => (List.mem_cons.mp h).elim (fun e => e ▸ hm) id, List.mem_cons_of_mem _⟩
      rw [h5] at e
      simp only [List.length_cons] at e
      omega
/-! ### dicts that are never changed again -/
def tFrz (t : TE) : TE := fun σ H Q => t σ H fun v H' => ∃ d u, v = .ref d ∧ H' d = some u ∧ Mut (some u) ∧ ∀ od, Q v (upd H' d (.frz od u))
theorem pe_frz {X : Cx} {e : Expr} {t : TE} (h : PE X e t) : PE X e (tFrz t) := by
  refine ⟨fun pins s σ H Q I hw => thn (h.run pins s σ H _ I hw) fun u s1 z => ?_⟩
  obtain ⟨v, H1, I1, rv, d, o, ev, hd, mu, q⟩ := z
  obtain ⟨od, I2⟩ := I1.lock hd mu
  exact ⟨v, _, I2, rv, q od⟩
/-- what stands at d is frozen ahead of the statement -/
def sFrz (t : TS) : TS := fun D σ H => ∃ d u, H d = some u ∧ Mut (some u) ∧ ∀ od, t D σ (upd H d (.frz od u))
theorem ps_frz {X : Cx} {st : Stmt} {t : TS} (h : PS X st t) : PS X st (sFrz t) := by
  refine ⟨fun pins s σ H D I hw => ?_⟩
  obtain ⟨d, u, hd, mu, q⟩ := hw
  obtain ⟨od, I2⟩ := I.lock hd mu
  exact h.run pins s σ _ D I2 (q od)
end Lk
set_option Elab.async false
set_option linter.all false
set_option maxRecDepth 100000
set_option maxHeartbeats 2000000
namespace Lk
open PySem PySem.Spec PyProof.Rows L2 TxS LkO
def areNm (zs : List Str) : Bool := zs.all isNm && decide zs.Nodup
section
variable {P : Program} {w : World} {K : PySem.W.Frag} {mg : Str → Option Value} {base : Heap} {C : Addr}
/-! ### are_names -/
def spAre (K : PySem.W.Frag) : Sp := fun vs H Q _ => ∃ (a : Addr) (zs : List Str), vs = [.ref a] ∧ zs.length ≤ 1000 ∧ (∀ z ∈ zs, z.length ≤ sizeLine) ∧ SqT K H a (zs.map V.str) ∧ ∀ H', Same H H' → Q (.bl (areNm zs)) H'
theorem scAre : FnScope ["values", "value"] ["values"] (defScope s_are_names) := ⟨rfl, rfl, rfl, by decide +kernel, rfl, by decide +kernel, by decide +kernel⟩
theorem ok_are {f fN : Addr} {fd fdN : FuncData} (F : Fun K "are_names" "are_names" s_are_names f fd) (B : Blt mg) (GN : FnOk P w K mg base CX0 1 fN fdN ["value"] spName) (bN : Binds K fdN ["value"] []) (mN : mg "is_name" = some (.ref fN)) (kN : PySem.W.keepIn K (.ref fN) = true) :
    FnOk P w K mg base CX0 2 f fd ["values"] (spAre K) := by
  refine F.ok scAre (fun vs H Q E h => ?_) (fun cdv A outer s H vs Q E hr h => ?_)
  · obtain ⟨a, zs, rfl, _⟩ := h
    rfl
  · obtain ⟨a, zs, rfl, few, lens, ha, q⟩ := h
    refine ⟨_, pss_one (ps_ret (pe_and (pe_callB call_isi (by rfl) B.isi PyProof.Rows.boot_isinstance (pa_cons (pv 0) (pa_cons (pe_bltn (v := .ty "tuple") (by rfl) B.tup PyProof.Rows.boot_tuple rfl) pa_nil)))
      (pe_and (pe_callB (cr_all rfl) (by rfl) B.all PyProof.Rows.boot_all (pa_cons (pe_lc (own := [("value", 1)]) (g := gName 1) (tt := tYes) rfl scAre.nd (pi_tup (pv 0)) (blkOk_by (N := ["values", "value"]) (sc := defScope s_are_names) (by decide +kernel))
        (fun _ _ _ _ _ => pg_name (i := 1) scAre.nd rfl (Or.inl rfl)) (fun _ _ _ _ _ => pts_nil) (fun _ _ _ _ _ => pe_call GN hr (by rfl) mN kN bN .nil pass0 (pa_cons (pv 1) pa_nil))) pa_nil))
      (pe_one (pe_cmpR op_eq (pe_callB cr_lenZ (by rfl) B.len PySem.boot_len (pa_cons (pe_callTy (cr_setX rfl) (by rfl) B.set PyProof.Rows.boot_set (pa_cons (pv 0) pa_nil)) pa_nil)) (pe_callB call_len_seq (by rfl) B.len PySem.boot_len (pa_cons (pv 0) pa_nil)) (nomark _)))))), ?_⟩
    refine ⟨.ref a, rfl, .ref a, .ty "tuple", _, _, true, rfl, .ty _, ty_tup ha, kit_ty (by decide +kernel), true, rfl, iteT ?_⟩
    refine ⟨.ref a, rfl, a, rfl, ⟨_, ha⟩, fun D nD => lc_m (walk_tup (xs := zs.map V.str)) zs (fun z => .bl (isNm z)) (by rw [List.length_map]) nD few (fun H' s => Same.tup s ha) (fun i z x H2 H3 Kt hz s2 hY k => ?_) (fun H2 s2 e => ?_)⟩
    · obtain ⟨rfl, hx⟩ := hY
      rw [List.getElem?_map, hz] at hx
      cases hx
      exact ⟨rfl, .str z, rfl, z, rfl, lens z (List.mem_of_getElem? hz), fun H4 s4 => k H4 s4⟩
    · refine ⟨D, zs.map isNm, rfl, .inl (.inl (by rw [List.map_map]; exact e)), _, rfl, ite2 (fun t => ?_) (fun t => ?_)⟩
      · have t1 : zs.all isNm = true := by
          rw [List.all_map] at t
          exact t
        refine ⟨.ref a, rfl, a, zs, rfl, .inl (Same.tup s2 ha), by (have : scanBound = 4096 := rfl); omega, fun l c hc nl => ?_⟩
        refine ⟨l, zs, c, rfl, upd_same, .ref a, rfl, a, _, rfl, .inr (Same.tup (s2.trans (same_new nl)) ha), ?_⟩
        have e2 : areNm zs = decide (V.int (srt zs).length = V.int (zs.map V.str).length) := by
          unfold areNm
          rw [t1, Bool.true_and, List.length_map]
          refine decide_eq_decide.mpr ⟨fun h => ?_, fun h => ?_⟩
          · rw [(srt_full zs).2 h]
          · exact (srt_full zs).1 (by have := V.int.inj h; omega)
        have q2 := q _ (s2.trans (same_new nl (o := SetXO w l (fun y => decide (y ∈ zs)) c)))
        rw [e2] at q2
        exact ⟨rfl, q2⟩
      · have e2 : areNm zs = false := by
          unfold areNm
          rw [List.all_map] at t
          rw [Bool.eq_false_iff.mpr (show ¬ (zs.all isNm = true) from t), Bool.false_and]
        rw [e2] at q
        exact q _ s2
/-! ### is_cost -/
def spCost : Sp := fun vs H Q _ => ∃ i : Int, vs = [.int i] ∧ Q (.bl (decide (1 ≤ i) && decide (i ≤ 9))) H
theorem scCost : FnScope ["value"] ["value"] (defScope s_is_cost) := ⟨rfl, rfl, rfl, by decide +kernel, rfl, by decide +kernel, by decide +kernel⟩
theorem ok_cost {f : Addr} {fd : FuncData} {k : Nat} (F : Fun K "is_cost" "is_cost" s_is_cost f fd) (B : Blt mg) (mH : ∃ t, mg "HIGHEST_COST" = some (.int 9 t)) : FnOk P w K mg base CX0 (k + 1) f fd ["value"] spCost := by
  obtain ⟨t9, e9⟩ := mH
  refine F.ok scCost (fun vs H Q E h => ?_) (fun cdv A outer s H vs Q E hr h => ?_)
  · obtain ⟨i, rfl, _⟩ := h
    rfl
  · obtain ⟨i, rfl, q⟩ := h
    refine ⟨_, pss_one (ps_ret (pe_and (pe_callB call_isi (by rfl) B.isi PyProof.Rows.boot_isinstance (pa_cons (pv 0) (pa_cons (pe_bltn (v := .ty "int") (by rfl) B.int PyProof.Rows.boot_int rfl) pa_nil)))
      (pe_and (pe_not (pe_callB call_isi (by rfl) B.isi PyProof.Rows.boot_isinstance (pa_cons (pv 0) (pa_cons (pe_bltn (v := .ty "bool") (by rfl) B.bl PyProof.Rows.boot_bool rfl) pa_nil))))
      (pe_one (pe_chain op_le op_le pe_int (pv 0) (pe_glob (v := .int 9) (by rfl) e9 ⟨_, rfl⟩)))))), ?_⟩
    refine ⟨.int i, rfl, .int i, .ty "int", _, _, true, rfl, .ty _, .base (.int i), kit_ty (by decide +kernel), true, rfl, iteT ?_⟩
    refine ⟨.int i, rfl, .int i, .ty "bool", _, _, false, rfl, .ty _, .base (.int i), kit_ty (by decide +kernel), false, rfl, true, rfl, iteT ?_⟩
    refine ⟨.int i, rfl, 1, i, rfl, rfl, _, rfl, ite2 (fun e => ?_) (fun e => ?_)⟩
    · refine ⟨i, 9, rfl, rfl, ?_⟩
      rw [show decide (1 ≤ i) = true from e, Bool.true_and] at q
      exact q
    · rw [show decide (1 ≤ i) = false from Bool.eq_false_iff.mpr e, Bool.false_and] at q
      exact q
/-! ### all_in: lists in lists, tuples in dicts -/
def spAllInL (K : PySem.W.Frag) : Sp := fun vs H Q _ => ∃ (a b : Addr) (zs ws : List Str), vs = [.ref a, .ref b] ∧ zs.length ≤ 1000 ∧ SqL K H a (zs.map V.str) ∧ Sq K H b (ws.map V.str) ∧ ∀ H', Same H H' → Q (.bl (zs.all fun z => decide (z ∈ ws))) H'
theorem ok_allInL {f : Addr} {fd : FuncData} {k : Nat} (F : Fun K "all_in" "all_in" s_all_in f fd) (B : Blt mg) : FnOk P w K mg base CX0 (k + 1) f fd ["names", "known"] (spAllInL K) := by
  refine F.ok scAllIn (fun vs H Q E h => ?_) (fun cdv A outer s H vs Q E hr h => ?_)
  · obtain ⟨a, b, zs, ws, rfl, _⟩ := h
    rfl
  · obtain ⟨a, b, zs, ws, rfl, len, ha, hb, q⟩ := h
    refine ⟨_, pss_one (ps_ret (pe_callB (cr_all rfl) (by rfl) B.all PyProof.Rows.boot_all (pa_cons (pe_lc (own := [("name", 2)]) (g := gName 2) (tt := tYes) rfl scAllIn.nd (pi_list (pv 0))
      (blkOk_by (N := ["names", "known", "name"]) (sc := defScope s_all_in) (by decide +kernel)) (fun _ _ _ _ _ => pg_name (i := 2) scAllIn.nd rfl (Or.inl rfl)) (fun _ _ _ _ _ => pts_nil) (fun _ _ _ _ _ => pe_cmpR (r := rIn K false) op_in_seq (pv 2) (pv 1) rfl)) pa_nil))), ?_⟩
    refine ⟨.ref a, rfl, a, rfl, ⟨_, ha⟩, fun D nD => lc_m (walk_list (xs := zs.map V.str)) zs (fun z => .bl (decide (z ∈ ws))) (by rw [List.length_map]) nD len (fun H' s => s.seq ha) (fun i z x H2 H3 Kt hz s2 hY k => ?_) (fun H2 s2 e => ?_)⟩
    · obtain ⟨rfl, hx⟩ := hY
      rw [List.getElem?_map, hz] at hx
      cases hx
      refine ⟨rfl, .str z, rfl, .ref b, rfl, b, _, rfl, Same.sq s2 hb, rfl, flat_strs ws, ?_⟩
      rw [inV_str]
      exact k _ (Same.refl _)
    · refine ⟨D, zs.map fun z => decide (z ∈ ws), rfl, .inl (.inl (by rw [List.map_map]; exact e)), ?_⟩
      rw [List.all_map]
      exact q _ s2
def spAllInD (K : PySem.W.Frag) : Sp := fun vs H Q _ => ∃ (a b : Addr) (zs : List Str) (kvs : List (Key × V)), vs = [.ref a, .ref b] ∧ zs.length ≤ 1000 ∧ SqT K H a (zs.map V.str) ∧ (∃ o, H b = some (.frz o (.dK kvs))) ∧ ∀ H', Same H H' → Q (.bl (zs.all fun z => (valV kvs (.inr z)).isSome)) H'
theorem ok_allInD {f : Addr} {fd : FuncData} {k : Nat} (F : Fun K "all_in" "all_in" s_all_in f fd) (B : Blt mg) : FnOk P w K mg base CX0 (k + 1) f fd ["names", "known"] (spAllInD K) := by
  refine F.ok scAllIn (fun vs H Q E h => ?_) (fun cdv A outer s H vs Q E hr h => ?_)
  · obtain ⟨a, b, zs, kvs, rfl, _⟩ := h
    rfl
  · obtain ⟨a, b, zs, kvs, rfl, len, ha, ⟨o, hb⟩, q⟩ := h
    refine ⟨_, pss_one (ps_ret (pe_callB (cr_all rfl) (by rfl) B.all PyProof.Rows.boot_all (pa_cons (pe_lc (own := [("name", 2)]) (g := gName 2) (tt := tYes) (te := tDIn (tVar 2) (tVar 1)) rfl scAllIn.nd (pi_tup (pv 0))
      (blkOk_by (N := ["names", "known", "name"]) (sc := defScope s_all_in) (by decide +kernel)) (fun _ _ _ _ _ => pg_name (i := 2) scAllIn.nd rfl (Or.inl rfl)) (fun _ _ _ _ _ => pts_nil) (fun _ _ _ _ _ => pe_cmp (pc_din (hu_of hr) (pv 2) (pv 1)) rfl)) pa_nil))), ?_⟩
    refine ⟨.ref a, rfl, a, rfl, ⟨_, ha⟩, fun D nD => lc_m (walk_tup (xs := zs.map V.str)) zs (fun z => .bl (valV kvs (.inr z)).isSome) (by rw [List.length_map]) nD len (fun H' s => Same.tup s ha) (fun i z x H2 H3 Kt hz s2 hY k => ?_) (fun H2 s2 e => ?_)⟩
    · obtain ⟨rfl, hx⟩ := hY
      rw [List.getElem?_map, hz] at hx
      cases hx
      exact ⟨rfl, .str z, rfl, .ref b, rfl, b, _, rfl, .inl ⟨kvs, .inr z, .inr ⟨o, s2 _ _ hb⟩, rfl, rfl⟩, k _ (Same.refl _)⟩
    · refine ⟨D, zs.map fun z => (valV kvs (.inr z)).isSome, rfl, .inl (.inl (by rw [List.map_map]; exact e)), ?_⟩
      rw [List.all_map]
      exact q _ s2
end
end Lk
set_option Elab.async false
set_option linter.all false
set_option maxRecDepth 100000
set_option maxHeartbeats 2000000
namespace Lk
open PySem PySem.Spec PyProof.Rows L2 TxS LkO LkG
/-! ### defs, methods, properties, classes, each in one piece -/
structure Fn (P : Program) (w : World) (K : PySem.W.Frag) (mg : Str → Option Value) (base : Heap) (k : Nat) (x : Str) (ps : List Str) (sp : Sp) : Prop where
  ex : ∃ f fd, mg x = some (.ref f) ∧ PySem.W.keepIn K (.ref f) = true ∧ Binds K fd ps [] ∧ FnOk P w K mg base CX0 k f fd ps sp
structure Mt (P : Program) (w : World) (K : PySem.W.Frag) (mg : Str → Option Value) (base : Heap) (k : Nat) (C : Addr) (x : Str) (ps : List Str) (sp : Sp) : Prop where
  ex : ∃ f fd, Meth K C x f ∧ Binds K fd ps [] ∧ FnOk P w K mg base CX0 k f fd ps sp
structure Pr (P : Program) (w : World) (K : PySem.W.Frag) (mg : Str → Option Value) (base : Heap) (k : Nat) (C : Addr) (x : Str) (sp : Sp) : Prop where
  ex : ∃ p f fd, PropOf K C x p f ∧ Binds K fd ["self"] [] ∧ FnOk P w K mg base CX0 k f fd ["self"] sp
structure OwnC (K : PySem.W.Frag) (mg : Str → Option Value) (C : Addr) (x : Str) (fs : List Str) : Prop where
  cl : Cls K C
  mgC : mg x = some (.ref C)
  nK : ∀ f ∈ fs, NoAttr K C f
  tyc : PySem.W.findIn K (.ref C) "__class__" = some (some (.builtin "object.__class__"))
  tyg : PySem.W.specialIn K (.builtin "object.__class__") "__get__" = some (some (.builtin "getset_descriptor.__get__"))
  tyt : PySem.W.takesIn K (.builtin "object.__class__") = some true
  tym : PySem.W.mroIn K C (.type "object") = some true
theorem OwnC.kit {K : PySem.W.Frag} {mg : Str → Option Value} {C : Addr} {x : Str} {fs : List Str} (_ : OwnC K mg C x fs) : PySem.W.kitOne K (.ref C) (.ref C) = some true := if_pos (beq_self_eq_true _)
section
variable {X : Cx} {k : Nat} {C : Addr} {x : Str} {ps : List Str} {sp : Sp} {e o : Expr} {es : List Expr} {t : TA} {ta : TE} {p pos apos : Pos}
theorem pe_fn (F : Fn X.prog X.w X.K X.mg X.base k x ps sp) (hr : Room k X.A) (hg : Gl X x) (ha : PA X (e :: es) t) (hdb : (x == ("__debug__" : Str)) = false := by decide) (he : starEach (e :: es) X.env = (false, eval e X.env) :: starEach es X.env := by rfl) (hpl : (backTo pos (starEach es X.env)).any (·.1) = false := by rfl) :
    PE X (.Call (.Name x p) (e :: es) [] pos) (tCall sp [] E0 t) := by
  obtain ⟨f, fd, m, kp, b, G⟩ := F.ex
  exact pe_call G hr hg m kp b .nil pass0 ha hdb he hpl
theorem pe_mt {pl : Sem Bool} (M : Mt X.prog X.w X.K X.mg X.base k C x ps sp) (hr : Room k X.A) (c : Cls X.K C) (ho : PE X o ta) (ha : PA X (e :: es) t)
    (hst : starEach (e :: es) X.env = (false, eval e X.env) :: starEach es X.env := by rfl) (hpl : (backTo pos (starEach es X.env)).any (·.1) = false := by rfl)
    (ht : eval (.Call (.Attribute o x apos) (e :: es) [] pos) X.env = (do
      let ov ← eval o X.env
      standAt apos.atName
      let (f, first) ← holding [ov] (getMethod ov x pl)
      callWith pos f first (backTo pos (starEach (e :: es) X.env)) (backToKw pos (keywordEach [] X.env))) := by rfl) : PE X (.Call (.Attribute o x apos) (e :: es) [] pos) (tMeth C x sp [] E0 ta t) := by
  obtain ⟨f, fd, m, b, G⟩ := M.ex
  exact pe_meth ho c m G hr b .nil pass0 ha (hst := hst) (hpl := hpl) (ht := ht)
theorem pe_pr (G : Pr X.prog X.w X.K X.mg X.base k C x sp) (hr : Room (k + 1) X.A) (c : Cls X.K C) (ho : PE X o ta) (hab : attributeBase o x X.env (eval o X.env) = eval o X.env) : PE X (.Attribute o x pos) (tProp C sp [] E0 ta) := by
  obtain ⟨q, f, fd, m, b, F⟩ := G.ex
  exact pe_prop ho c m F hr b .nil pass0 hab
end

/-! ### Door -/
structure DoorD where
  a : Str
  b : Str
  key : Option Str
  both : Bool
  cost : Int
  deriving DecidableEq
def oV : Option Str → V
  | none => .non
  | some z => .str z
structure DoorD.ok (d : DoorD) : Prop where
  a : isNm d.a = true
  b : isNm d.b = true
  ne : d.a ≠ d.b
  key : ∀ z, d.key = some z → isNm z = true
  c1 : 1 ≤ d.cost
  c9 : d.cost ≤ 9
def DoorD.fs (d : DoorD) : List (Str × V) := [("kept_start", .str d.a), ("kept_end", .str d.b), ("kept_key", oV d.key), ("kept_both", .bl d.both), ("kept_cost", .int d.cost)]
structure DoorAt (C : Addr) (H : Hp) (x : Addr) (d : DoorD) : Prop where
  ob : ∃ dx, H x = some (.ins C dx d.fs)
  ok : d.ok
theorem DoorAt.same {C x : Addr} {H H' : Hp} {d : DoorD} (h : DoorAt C H x d) (s : Same H H') : DoorAt C H' x d := ⟨h.ob.imp fun _ e => s _ _ e, h.ok⟩
abbrev doorF : List Str := ["kept_start", "kept_end", "kept_key", "kept_both", "kept_cost"]
theorem are_two {a b : Str} (ha : isNm a = true) (hb : isNm b = true) (ne : a ≠ b) : areNm [a, b] = true := by
  unfold areNm
  rw [List.all_cons, List.all_cons, List.all_nil, ha, hb]
  simp [ne]
section
variable {P : Program} {w : World} {K : PySem.W.Frag} {mg : Str → Option Value} {base : Heap} {C : Addr}
def spDoor (C : Addr) : Sp := fun vs H Q _ => ∃ (x dx : Addr) (d : DoorD), vs = [.ref x, .str d.a, .str d.b, oV d.key, .bl d.both, .int d.cost] ∧ H x = some (.ins C dx []) ∧ d.ok ∧
  ∀ H', (∀ b o, H b = some o → b ≠ x → H' b = some o) → H' x = some (.ins C dx d.fs) → Q .non H'
theorem scDoor : FnScope ["self", "start", "end", "key", "both", "cost"] ["self", "start", "end", "key", "both", "cost"] (defScope s_Door___init__) := ⟨rfl, rfl, rfl, by decide +kernel, rfl, by decide +kernel, by decide +kernel⟩
theorem ok_door {f : Addr} {fd : FuncData} (F : Fun K "__init__" "Door.__init__" s_Door___init__ f fd) (B : Blt mg) (T : OwnC K mg C "Door" doorF) (GA : Fn P w K mg base 2 "are_names" ["values"] (spAre K)) (GN : Fn P w K mg base 1 "is_name" ["value"] spName) (GC : Fn P w K mg base 1 "is_cost" ["value"] spCost) :
    FnOk P w K mg base CX0 3 f fd ["self", "start", "end", "key", "both", "cost"] (spDoor C) := by
  refine F.ok scDoor (fun vs H Q E h => ?_) (fun cdv A outer s H vs Q E hr h => ?_)
  · obtain ⟨x, dx, d, rfl, _⟩ := h
    rfl
  · obtain ⟨x, dx, d, rfl, hx, ok, q⟩ := h
    refine ⟨_, pss_cons (ps_if (pt_not (pt_val (pe_fn GA hr (by rfl) (pa_cons (pe_tup (pa_cons (pv 1) (pa_cons (pv 2) pa_nil))) pa_nil)))) (pss_one ps_never) pss_nil)
      (pss_cons (ps_if (pw_and (pt_cmp (pc_notN (pv 3))) (pw_and1 (pt_not (pt_val (pe_fn GN (hr.mono (by decide)) (by rfl) (pa_cons (pv 3) pa_nil)))))).pt (pss_one ps_never) pss_nil)
      (pss_cons (ps_if (pt_not (pt_val (pe_callB call_isi (by rfl) B.isi PyProof.Rows.boot_isinstance (pa_cons (pv 4) (pa_cons (pe_bltn (v := .ty "bool") (by rfl) B.bl PyProof.Rows.boot_bool rfl) pa_nil))))) (pss_one ps_never) pss_nil)
      (pss_cons (ps_if (pt_not (pt_val (pe_fn GC (hr.mono (by decide)) (by rfl) (pa_cons (pv 5) pa_nil)))) (pss_one ps_never) pss_nil)
      (pss_cons (ps_fld (pv 0) (pv 1) rfl) (pss_cons (ps_fld (pv 0) (pv 2) rfl) (pss_cons (ps_fld (pv 0) (pv 3) rfl) (pss_cons (ps_fld (pv 0) (pv 4) rfl) (pss_one (ps_fld (pv 0) (pv 5) rfl))))))))), ?_⟩
    refine ⟨.str d.a, rfl, .str d.b, rfl, by show 2 ≤ sizeLine; rw [sizeLine_eq]; decide, fun p np => ?_⟩
    refine ⟨p, [d.a, d.b], rfl, by show 2 ≤ 1000; decide, fun z hz => ?_, .inl (.inl upd_same), fun H1 s1 => ?_⟩
    · rcases List.mem_cons.mp hz with e | e
      · rw [e]
        exact nm_line ok.a
      · rw [List.mem_singleton.mp e]
        exact nm_line ok.b
    rw [are_two ok.a ok.b ok.ne]
    refine ⟨true, rfl, iteF ?_⟩
    have sm : Same H H1 := (same_new np).trans s1
    have cb : (decide (1 ≤ d.cost) && decide (d.cost ≤ 9)) = true := by rw [decide_eq_true ok.c1, decide_eq_true ok.c9]; rfl
    have nK : ∀ g, g ∈ doorF → NoAttr K C g := T.nK
    have fin : ∀ H2, Same H H2 → Q .non (upd (upd (upd (upd (upd H2 x (.ins C dx [("kept_start", .str d.a)])) x (.ins C dx [("kept_start", .str d.a), ("kept_end", .str d.b)])) x (.ins C dx [("kept_start", .str d.a), ("kept_end", .str d.b), ("kept_key", oV d.key)])) x
        (.ins C dx [("kept_start", .str d.a), ("kept_end", .str d.b), ("kept_key", oV d.key), ("kept_both", .bl d.both)])) x (.ins C dx d.fs)) := fun H2 s2 => q _ (fun b o e hb => by
      rw [upd_ne hb, upd_ne hb, upd_ne hb, upd_ne hb, upd_ne hb]
      exact s2 b o e) upd_same
    cases hk : d.key with
    | none =>
      rw [hk] at fin
      refine ⟨.non, rfl, false, rfl, iteF ?_⟩
      refine ⟨.bl d.both, rfl, .bl d.both, .ty "bool", _, _, true, rfl, .ty _, .base (.bl _), kit_ty (by decide +kernel), true, rfl, iteF ?_⟩
      refine ⟨.int d.cost, rfl, d.cost, rfl, true, by rw [cb], iteF ?_⟩
      refine ⟨.str d.a, rfl, .ref x, rfl, x, C, dx, [], rfl, sm _ _ hx, T.cl, nK _ (by simp), by show 0 < 1000; decide, ?_⟩
      refine ⟨.str d.b, rfl, .ref x, rfl, x, C, dx, _, rfl, upd_same, T.cl, nK _ (by simp), by show 1 < 1000; decide, ?_⟩
      refine ⟨.non, rfl, .ref x, rfl, x, C, dx, _, rfl, upd_same, T.cl, nK _ (by simp), by show 2 < 1000; decide, ?_⟩
      refine ⟨.bl d.both, rfl, .ref x, rfl, x, C, dx, _, rfl, upd_same, T.cl, nK _ (by simp), by show 3 < 1000; decide, ?_⟩
      refine ⟨.int d.cost, rfl, .ref x, rfl, x, C, dx, _, rfl, upd_same, T.cl, nK _ (by simp), by show 4 < 1000; decide, ?_⟩
      have f := fin H1 sm
      unfold DoorD.fs at f
      rw [hk] at f
      exact f
    | some z =>
      rw [hk] at fin
      have hz := ok.key z hk
      refine ⟨.str z, rfl, true, rfl, iteT ?_⟩
      refine ⟨.str z, rfl, z, rfl, nm_line hz, fun H2 s2 => ⟨true, by rw [hz], iteF ?_⟩⟩
      refine ⟨.bl d.both, rfl, .bl d.both, .ty "bool", _, _, true, rfl, .ty _, .base (.bl _), kit_ty (by decide +kernel), true, rfl, iteF ?_⟩
      refine ⟨.int d.cost, rfl, d.cost, rfl, true, by rw [cb], iteF ?_⟩
      refine ⟨.str d.a, rfl, .ref x, rfl, x, C, dx, [], rfl, (sm.trans s2) _ _ hx, T.cl, nK _ (by simp), by show 0 < 1000; decide, ?_⟩
      refine ⟨.str d.b, rfl, .ref x, rfl, x, C, dx, _, rfl, upd_same, T.cl, nK _ (by simp), by show 1 < 1000; decide, ?_⟩
      refine ⟨.str z, rfl, .ref x, rfl, x, C, dx, _, rfl, upd_same, T.cl, nK _ (by simp), by show 2 < 1000; decide, ?_⟩
      refine ⟨.bl d.both, rfl, .ref x, rfl, x, C, dx, _, rfl, upd_same, T.cl, nK _ (by simp), by show 3 < 1000; decide, ?_⟩
      refine ⟨.int d.cost, rfl, .ref x, rfl, x, C, dx, _, rfl, upd_same, T.cl, nK _ (by simp), by show 4 < 1000; decide, ?_⟩
      have f := fin H2 (sm.trans s2)
      unfold DoorD.fs at f
      rw [hk] at f
      exact f
end
end Lk
set_option Elab.async false
set_option linter.all false
set_option maxRecDepth 100000
set_option maxHeartbeats 2000000
namespace LkG
open PySem PySem.Spec PyProof.Rows L2 TxS LkO Lk GenW
def tGIf (tc : TT) (tb to : TGn) : TGn := fun D ys σ H => tc σ H fun b H1 => if b = true then tb D ys σ H1 else to D ys σ H1
theorem gs_if {X : Cx} {test : Expr} {body orelse : List Stmt} {pos : Pos} {tc : TT} {tb to : TGn} (hc : PT X test tc) (hb : GSs X body tb) (ho : GSs X orelse to) : GS X (.If test body orelse pos) (tGIf tc tb to) := by
  refine ⟨fun A S ip R n ys s₀ c fs K J gd lv s σ H D g hn k hI ht => ?_⟩
  obtain ⟨acc, cc, r, I⟩ := hI
  rw [exec_If]
  refine seg_bind_wrap (wpAny_standAt ?_)
  refine seg_bind_wrap ?_
  rw [g.over]
  refine wpAny_mono (hc.run _ s σ H _ I ht) (fun b s' hb' => ?_) fun x s' hx => k.exc n s₀ x s' hx
  obtain ⟨H1, I1, q⟩ := hb'
  cases b with
  | true => exact hb.run A S ip R n ys s₀ c fs K J gd lv s' σ H1 D g hn k ⟨acc, cc, r, I1⟩ q
  | false => exact ho.run A S ip R n ys s₀ c fs K J gd lv s' σ H1 D g hn k ⟨acc, cc, r, I1⟩ q
end LkG
namespace Lk
open PySem PySem.Spec PyProof.Rows L2 TxS LkO LkG GenW
section
variable {P : Program} {w : World} {K : PySem.W.Frag} {mg : Str → Option Value} {base : Heap} {C : Addr}
theorem kb_door {f : Addr} {fd : FuncData} (F : Fun K "__init__" "Door.__init__" s_Door___init__ f fd) : KBn K fd ["self", "start", "end", "key", "both", "cost"] 3 ["key", "both", "cost"] (fun us ws => us ++ ws) (fun vs zs => vs ++ zs) := by
  obtain ⟨oc, od, kV, doc, pm, an, cdv, ct, osl, rfl, lk, hcd⟩ := F.ex
  exact ⟨fun s us ws _ l1 l2 => match us, l1, ws, l2 with | [_, _, _], _, [_, _, _], _ => BindsTo.of_eq rfl, fun r1 r2 => r1.append r2⟩
theorem ok_getter {st : Stmt} {name qual g : Str} {f : Addr} {fd : FuncData} {k : Nat} (F : Fun K name qual st f fd) (S : FnScope ["self"] ["self"] (defScope st)) (hb : ∃ p1 p2 p3, defBody st = [.Return (some (.Attribute (.Name "self" p1) g p2)) p3]) (c : Cls K C) (n : NoAttr K C g) :
    FnOk P w K mg base CX0 (k + 1) f fd ["self"] (getSp C g) := by
  obtain ⟨oc, od, kV, doc, pm, an, cdv, ct, osl, rfl, lk, hcd⟩ := F.ex
  obtain ⟨p1, p2, p3, e⟩ := hb
  exact fn_getter lk hcd S rfl e c n
/-! ### Door.ways -/
def waysOf (d : DoorD) : List (Str × Str) := (d.a, d.b) :: if d.both = true then [(d.b, d.a)] else []
def strPairs (l : List (Str × Str)) : List (V × V) := l.map fun p => (.str p.1, .str p.2)
def spWays (C : Addr) : SpT := fun vs H outs => ∃ (x : Addr) (d : DoorD), vs = [.ref x] ∧ DoorAt C H x d ∧ outs = strPairs (waysOf d)
theorem scWays : GScope ["self"] ["self"] (defScope s_Door_ways) := ⟨rfl, rfl, rfl, by decide +kernel, rfl, by decide +kernel, by decide +kernel⟩
theorem look_door (d : DoorD) : List.lookup ("kept_start" : Str) d.fs = some (V.str d.a) ∧ List.lookup ("kept_end" : Str) d.fs = some (V.str d.b) ∧ List.lookup ("kept_key" : Str) d.fs = some (oV d.key) ∧ List.lookup ("kept_both" : Str) d.fs = some (V.bl d.both) ∧ List.lookup ("kept_cost" : Str) d.fs = some (V.int d.cost) := ⟨rfl, rfl, rfl, rfl, rfl⟩
theorem ok_ways {f : Addr} {fd : FuncData} {k : Nat} (F : Fun K "ways" "Door.ways" s_Door_ways f fd) (T : OwnC K mg C "Door" doorF) : GFt P w K mg base (k + 1) f fd ["self"] (spWays C) := by
  obtain ⟨oc, od, kV, doc, pm, an, cdv, ct, osl, rfl, lk, hcd⟩ := F.ex
  refine ⟨fun vs H outs h => ?_, fun A outer s H args us vs outs hr e0 hb r h => ?_⟩
  · obtain ⟨x, d, rfl, _⟩ := h
    rfl
  · obtain ⟨x, d, rfl, ⟨⟨dx, hx⟩, ok⟩, rfl⟩ := h
    refine call_gt lk hcd scWays hr e0 hb rfl r fun A2 L s1 hr2 hI => ?_
    have q : ∀ g v, g ∈ doorF → d.fs.lookup g = some v → ∀ (Q : VK), Q v H → tFld K (tVar 0) g (start ["self"] [.ref x]) H Q := fun g v hg l Q hq => ⟨.ref x, rfl, x, C, dx, _, v, rfl, hx, T.cl, T.nK g hg, l, hq⟩
    obtain ⟨l1, l2, _, l4, _⟩ := look_door d
    refine gq_cons (gq_yield (x := .str d.a) (y := .str d.b) (ta := tFld K (tVar 0) "kept_start") (tb := tFld K (tVar 0) "kept_end") over_func hI (fun _ => qe_fld (qe_var (i := 0) rfl (.inl rfl)) rfl) (fun _ => qe_fld (qe_var (i := 0) rfl (.inl rfl)) rfl) (q _ _ (by simp) l1 _ ⟨rfl, q _ _ (by simp) l2 _ rfl⟩) ⟨[], rfl⟩)
      (gq_cons (gq_if (d := d.both) (tc := tTest (tFld K (tVar 0) "kept_both")) over_func hI (fun _ => qt_val (qe_fld (qe_var (i := 0) rfl (.inl rfl)) rfl)) (q _ _ (by simp) l4 _ ⟨d.both, rfl, rfl⟩) ?_) gq_nil)
    cases hb : d.both with
    | true =>
      exact gq_cons (gq_yield (x := .str d.b) (y := .str d.a) (ta := tFld K (tVar 0) "kept_end") (tb := tFld K (tVar 0) "kept_start") over_func hI (fun _ => qe_fld (qe_var (i := 0) rfl (.inl rfl)) rfl) (fun _ => qe_fld (qe_var (i := 0) rfl (.inl rfl)) rfl) (q _ _ (by simp) l2 _ ⟨rfl, q _ _ (by simp) l1 _ rfl⟩) ⟨[(.str d.a, .str d.b)], by unfold strPairs waysOf; rw [hb]; rfl⟩) gq_nil
    | false => exact gq_nil
/-- all ways, for list(door.ways()) -/
def spWaysL (C : Addr) : SpG := fun vs H Q _ => ∃ (x : Addr) (d : DoorD), vs = [.ref x] ∧ DoorAt C H x d ∧ (d.both = false → ∀ p, H p = none → Q [.ref p] (upd H p (.tup [.str d.a, .str d.b]))) ∧
  (d.both = true → ∀ p p', H p = none → (upd H p (.tup [.str d.a, .str d.b])) p' = none → Q [.ref p, .ref p'] (upd (upd H p (.tup [.str d.a, .str d.b])) p' (.tup [.str d.b, .str d.a])))
theorem ok_waysL {f : Addr} {fd : FuncData} {k : Nat} (F : Fun K "ways" "Door.ways" s_Door_ways f fd) (T : OwnC K mg C "Door" doorF) : GFn P w K mg base (k + 1) f fd ["self"] (spWaysL C) := by
  obtain ⟨oc, od, kV, doc, pm, an, cdv, ct, osl, rfl, lk, hcd⟩ := F.ex
  refine gfn_of lk hcd scWays (fun vs H Q E h => ?_) fun A outer s H vs Q E pn hr h => ?_
  · obtain ⟨x, d, rfl, _⟩ := h
    rfl
  · obtain ⟨x, d, rfl, ⟨⟨dx, hx⟩, ok⟩, q0, q1⟩ := h
    refine ⟨_, gss_cons (gs_yield (pe_tup (pa_cons (pe_fld (pe_var (i := 0) rfl (.inl rfl)) rfl) (pa_cons (pe_fld (pe_var (i := 0) rfl (.inl rfl)) rfl) pa_nil))))
      (gss_cons (gs_if (pt_val (pe_fld (pe_var (i := 0) rfl (.inl rfl)) rfl)) (gss_cons (gs_yield (pe_tup (pa_cons (pe_fld (pe_var (i := 0) rfl (.inl rfl)) rfl) (pa_cons (pe_fld (pe_var (i := 0) rfl (.inl rfl)) rfl) pa_nil)))) gss_nil) gss_nil) gss_nil), ?_⟩
    obtain ⟨l1, l2, _, l4, _⟩ := look_door d
    have nK := T.nK
    have big : (2 : Nat) ≤ sizeLine := by rw [sizeLine_eq]; decide
    refine ⟨by show 0 < sizeLine; rw [sizeLine_eq]; decide, .ref x, rfl, x, C, dx, _, _, rfl, hx, T.cl, nK _ (by simp), l1, .ref x, rfl, x, C, dx, _, _, rfl, hx, T.cl, nK _ (by simp), l2, big, fun p np => ?_⟩
    have hx1 : (upd H p (.tup [.str d.a, .str d.b])) x = some (.ins C dx d.fs) := by rw [upd_ne (ne_of_none hx np)]; exact hx
    refine ⟨.ref x, rfl, x, C, dx, _, _, rfl, hx1, T.cl, nK _ (by simp), l4, _, rfl, ?_⟩
    cases hb : d.both with
    | false => exact q0 hb p np
    | true => exact ⟨by show 1 < sizeLine; rw [sizeLine_eq]; decide, .ref x, rfl, x, C, dx, _, _, rfl, hx1, T.cl, nK _ (by simp), l2, .ref x, rfl, x, C, dx, _, _, rfl, hx1, T.cl, nK _ (by simp), l1, big, fun p' np' => q1 hb p p' np np'⟩
/-! ### Door.__eq__ -/
def spEqDoor (C : Addr) : Sp := fun vs H Q _ => ∃ (x y : Addr) (d e : DoorD), vs = [.ref x, .ref y] ∧ DoorAt C H x d ∧ DoorAt C H y e ∧ Q (.bl (decide (d = e))) H
theorem scEqD : FnScope ["self", "other"] ["self", "other"] (defScope s_Door___eq__) := ⟨rfl, rfl, rfl, by decide +kernel, rfl, by decide +kernel, by decide +kernel⟩
theorem ov_scal (a b : Option Str) : scal (oV a) (oV b) = true := by cases a <;> cases b <;> rfl
theorem ov_inj (a b : Option Str) : decide (oV a = oV b) = decide (a = b) := by
  cases a <;> cases b <;> simp [oV]
theorem ok_eqDoor {f : Addr} {fd : FuncData} {k : Nat} (F : Fun K "__eq__" "Door.__eq__" s_Door___eq__ f fd) (B : Blt mg) (T : OwnC K mg C "Door" doorF) : FnOk P w K mg base CX0 (k + 1) f fd ["self", "other"] (spEqDoor C) := by
  refine F.ok scEqD (fun vs H Q E h => ?_) (fun cdv A outer s H vs Q E hr h => ?_)
  · obtain ⟨x, y, d, e, rfl, _⟩ := h
    rfl
  · obtain ⟨x, y, d, e, rfl, ⟨⟨dx, hx⟩, _⟩, ⟨⟨dy, hy⟩, _⟩, q⟩ := h
    refine ⟨_, pss_one (ps_ret (pe_and (pe_callB call_isi (by rfl) B.isi PyProof.Rows.boot_isinstance (pa_cons (pv 1) (pa_cons (pe_glob (v := .ref C) (by rfl) T.mgC rfl) pa_nil)))
      (pe_and (pe_cmpR op_eq (pe_fld (pv 0) rfl) (pe_fld (pv 1) rfl) (nomark _)) (pe_and (pe_cmpR op_eq (pe_fld (pv 0) rfl) (pe_fld (pv 1) rfl) (nomark _)) (pe_and (pe_cmpR op_eq (pe_fld (pv 0) rfl) (pe_fld (pv 1) rfl) (nomark _))
      (pe_and (pe_cmpR op_eq (pe_fld (pv 0) rfl) (pe_fld (pv 1) rfl) (nomark _)) (pe_one (pe_cmpR op_eq (pe_fld (pv 0) rfl) (pe_fld (pv 1) rfl) (nomark _))))))))), ?_⟩
    refine ⟨.ref y, rfl, .ref y, .ref C, _, _, true, rfl, .own C, .base (.ins hy T.cl T.tyc T.tyg T.tyt T.tym), T.kit, true, rfl, iteT ?_⟩
    obtain ⟨l1, l2, l3, l4, l5⟩ := look_door d
    obtain ⟨m1, m2, m3, m4, m5⟩ := look_door e
    have nK := T.nK
    obtain ⟨a, b, key, both, cost⟩ := d
    obtain ⟨a', b', key', both', cost'⟩ := e
    have no : ∀ z : DoorD, ∀ z', z ≠ z' → Q (.bl (decide (z = z'))) H → Q (.bl false) H := fun z z' n k => by rw [decide_eq_false n] at k; exact k
    refine ⟨.ref x, rfl, x, C, dx, _, _, rfl, hx, T.cl, nK _ (by simp), l1, .ref y, rfl, y, C, dy, _, _, rfl, hy, T.cl, nK _ (by simp), m1, rfl, _, rfl, ite2 (fun t1 => ?_) (fun t1 => ?_)⟩
    · refine ⟨.ref x, rfl, x, C, dx, _, _, rfl, hx, T.cl, nK _ (by simp), l2, .ref y, rfl, y, C, dy, _, _, rfl, hy, T.cl, nK _ (by simp), m2, rfl, _, rfl, ite2 (fun t2 => ?_) (fun t2 => ?_)⟩
      · refine ⟨.ref x, rfl, x, C, dx, _, _, rfl, hx, T.cl, nK _ (by simp), l3, .ref y, rfl, y, C, dy, _, _, rfl, hy, T.cl, nK _ (by simp), m3, ov_scal _ _, _, rfl, ite2 (fun t3 => ?_) (fun t3 => ?_)⟩
        · refine ⟨.ref x, rfl, x, C, dx, _, _, rfl, hx, T.cl, nK _ (by simp), l4, .ref y, rfl, y, C, dy, _, _, rfl, hy, T.cl, nK _ (by simp), m4, rfl, _, rfl, ite2 (fun t4 => ?_) (fun t4 => ?_)⟩
          · refine ⟨.ref x, rfl, x, C, dx, _, _, rfl, hx, T.cl, nK _ (by simp), l5, .ref y, rfl, y, C, dy, _, _, rfl, hy, T.cl, nK _ (by simp), m5, rfl, ?_⟩
            have e1 := V.str.inj (of_decide_eq_true t1)
            have e2 := V.str.inj (of_decide_eq_true t2)
            have e3 : key = key' := of_decide_eq_true ((ov_inj key key').symm.trans t3)
            have e4 := V.bl.inj (of_decide_eq_true t4)
            simp only at e1 e2 e4
            subst e1 e2 e3 e4
            have e5 : decide (DoorD.mk a b key both cost = DoorD.mk a b key both cost') = decide (V.int cost = V.int cost') := by
              refine decide_eq_decide.mpr ⟨fun h => ?_, fun h => ?_⟩
              · rw [(DoorD.mk.inj h).2.2.2.2]
              · rw [V.int.inj h]
            rw [e5] at q
            exact q
          · exact no _ _ (fun h => t4 (decide_eq_true (by rw [(DoorD.mk.inj h).2.2.2.1]))) q
        · exact no _ _ (fun h => t3 (decide_eq_true (by rw [(DoorD.mk.inj h).2.2.1]))) q
      · exact no _ _ (fun h => t2 (decide_eq_true (by rw [(DoorD.mk.inj h).2.1]))) q
    · exact no _ _ (fun h => t1 (decide_eq_true (by rw [(DoorD.mk.inj h).1]))) q
end
end Lk
set_option Elab.async false
set_option linter.all false
set_option maxRecDepth 100000
set_option maxHeartbeats 2000000
namespace Lk
open PySem PySem.Spec PyProof.Rows L2 TxS LkO LkG
/-! ### Person -/
structure PersonD where
  a : Str
  carried : List Str
  needs : List Str
  shuns : List Str
  deriving DecidableEq
structure PersonD.ok (p : PersonD) : Prop where
  a : isNm p.a = true
  carried : areNm p.carried = true
  needs : areNm p.needs = true
  shuns : areNm p.shuns = true
  apart : ∀ z ∈ p.needs, z ∉ p.shuns
  few1 : p.carried.length ≤ 100
  few2 : p.needs.length ≤ 100
  few3 : p.shuns.length ≤ 100
def personFs (a : Str) (t1 t2 t3 : Addr) : List (Str × V) := [("kept_start", .str a), ("kept_carried", .ref t1), ("kept_needs", .ref t2), ("kept_shuns", .ref t3)]
abbrev personF : List Str := ["kept_start", "kept_carried", "kept_needs", "kept_shuns"]
structure PersonAt (K : PySem.W.Frag) (C : Addr) (H : Hp) (x : Addr) (p : PersonD) : Prop where
  ob : ∃ dx t1 t2 t3, H x = some (.ins C dx (personFs p.a t1 t2 t3)) ∧ SqT K H t1 (p.carried.map V.str) ∧ SqT K H t2 (p.needs.map V.str) ∧ SqT K H t3 (p.shuns.map V.str)
  ok : p.ok
theorem PersonAt.same {K : PySem.W.Frag} {C x : Addr} {H H' : Hp} {p : PersonD} (h : PersonAt K C H x p) (s : Same H H') : PersonAt K C H' x p := by
  obtain ⟨⟨dx, t1, t2, t3, e, h1, h2, h3⟩, ok⟩ := h
  exact ⟨⟨dx, t1, t2, t3, s _ _ e, Same.tup s h1, Same.tup s h2, Same.tup s h3⟩, ok⟩
theorem are_nm {zs : List Str} (h : areNm zs = true) : ∀ z ∈ zs, isNm z = true := by
  unfold areNm at h
  rw [Bool.and_eq_true] at h
  exact List.all_eq_true.mp h.1
theorem are_nd {zs : List Str} (h : areNm zs = true) : zs.Nodup := by
  unfold areNm at h
  rw [Bool.and_eq_true] at h
  exact of_decide_eq_true h.2
theorem look_person (a : Str) (t1 t2 t3 : Addr) : List.lookup ("kept_start" : Str) (personFs a t1 t2 t3) = some (V.str a) ∧ List.lookup ("kept_carried" : Str) (personFs a t1 t2 t3) = some (V.ref t1) ∧ List.lookup ("kept_needs" : Str) (personFs a t1 t2 t3) = some (V.ref t2) ∧
  List.lookup ("kept_shuns" : Str) (personFs a t1 t2 t3) = some (V.ref t3) := ⟨rfl, rfl, rfl, rfl⟩
section
variable {P : Program} {w : World} {K : PySem.W.Frag} {mg : Str → Option Value} {base : Heap} {C : Addr}
def spPerson (K : PySem.W.Frag) (C : Addr) : Sp := fun vs H Q _ => ∃ (x dx t1 t2 t3 : Addr) (p : PersonD), vs = [.ref x, .str p.a, .ref t1, .ref t2, .ref t3] ∧ H x = some (.ins C dx []) ∧ p.ok ∧ SqT K H t1 (p.carried.map V.str) ∧ SqT K H t2 (p.needs.map V.str) ∧ SqT K H t3 (p.shuns.map V.str) ∧
  ∀ H', (∀ b o, H b = some o → b ≠ x → H' b = some o) → H' x = some (.ins C dx (personFs p.a t1 t2 t3)) → Q .non H'
theorem scPerson : FnScope ["self", "start", "carried", "needs", "shuns", "room"] ["self", "start", "carried", "needs", "shuns"] (defScope s_Person___init__) := ⟨rfl, rfl, rfl, by decide +kernel, rfl, by decide +kernel, by decide +kernel⟩
theorem ok_person {f : Addr} {fd : FuncData} (F : Fun K "__init__" "Person.__init__" s_Person___init__ f fd) (B : Blt mg) (T : OwnC K mg C "Person" personF) (GA : Fn P w K mg base 2 "are_names" ["values"] (spAre K)) (GN : Fn P w K mg base 1 "is_name" ["value"] spName) :
    FnOk P w K mg base CX0 3 f fd ["self", "start", "carried", "needs", "shuns"] (spPerson K C) := by
  refine F.ok scPerson (fun vs H Q E h => ?_) (fun cdv A outer s H vs Q E hr h => ?_)
  · obtain ⟨x, dx, t1, t2, t3, p, rfl, _⟩ := h
    rfl
  · obtain ⟨x, dx, t1, t2, t3, p, rfl, hx, ok, h1, h2, h3, q⟩ := h
    refine ⟨_, pss_cons (ps_if (pt_not (pt_val (pe_fn GN (hr.mono (by decide)) (by rfl) (pa_cons (pv 1) pa_nil)))) (pss_one ps_never) pss_nil)
      (pss_cons (ps_if (pt_not (pw_and (pt_val (pe_fn GA hr (by rfl) (pa_cons (pv 2) pa_nil))) (pw_and (pt_val (pe_fn GA hr (by rfl) (pa_cons (pv 3) pa_nil))) (pw_and1 (pt_val (pe_fn GA hr (by rfl) (pa_cons (pv 4) pa_nil)))))).pt) (pss_one ps_never) pss_nil)
      (pss_cons (ps_if (pt_val (pe_callB (cr_any rfl) (by rfl) B.any PyProof.Rows.boot_any (pa_cons (pe_lc (own := [("room", 5)]) (g := gName 5) (tt := tYes) rfl scPerson.nd (pi_tup (pv 3)) (blkOk_by (N := ["self", "start", "carried", "needs", "shuns", "room"]) (sc := defScope s_Person___init__) (by decide +kernel))
        (fun _ _ _ _ _ => pg_name (i := 5) scPerson.nd rfl (Or.inl rfl)) (fun _ _ _ _ _ => pts_nil) (fun _ _ _ _ _ => pe_cmpR (r := rIn K false) op_in_seq (pv 5) (pv 4) rfl)) pa_nil))) (pss_one ps_never) pss_nil)
      (pss_cons (ps_fld (pv 0) (pv 1) rfl) (pss_cons (ps_fld (pv 0) (pv 2) rfl) (pss_cons (ps_fld (pv 0) (pv 3) rfl) (pss_one (ps_fld (pv 0) (pv 4) rfl))))))), ?_⟩
    have nmA := nm_line ok.a
    refine ⟨.str p.a, rfl, p.a, rfl, nmA, fun H1 s1 => ⟨true, by rw [ok.a], iteF ?_⟩⟩
    refine ⟨.ref t1, rfl, t1, p.carried, rfl, by have := ok.few1; omega, fun z hz => nm_line (are_nm ok.carried z hz), Same.tup s1 h1, fun H2 s2 => ⟨true, by rw [ok.carried], iteT ?_⟩⟩
    have s12 := s1.trans s2
    refine ⟨.ref t2, rfl, t2, p.needs, rfl, by have := ok.few2; omega, fun z hz => nm_line (are_nm ok.needs z hz), Same.tup s12 h2, fun H3 s3 => ⟨true, by rw [ok.needs], iteT ?_⟩⟩
    have s13 := s12.trans s3
    refine ⟨.ref t3, rfl, t3, p.shuns, rfl, by have := ok.few3; omega, fun z hz => nm_line (are_nm ok.shuns z hz), Same.tup s13 h3, fun H4 s4 => ⟨true, by rw [ok.shuns], iteF ?_⟩⟩
    have s14 := s13.trans s4
    refine ⟨.ref t2, rfl, t2, rfl, ⟨_, Same.tup s14 h2⟩, fun D nD => lc_m (walk_tup (xs := p.needs.map V.str)) p.needs (fun z => .bl (decide (z ∈ p.shuns))) (by rw [List.length_map]) nD (by have := ok.few2; omega) (fun H' s => Same.tup (s14.trans s) h2) (fun i z x H2 H3 Kt hz s2 hY k => ?_) (fun H5 s5 e => ?_)⟩
    · obtain ⟨rfl, hx⟩ := hY
      rw [List.getElem?_map, hz] at hx
      cases hx
      refine ⟨rfl, .str z, rfl, .ref t3, rfl, t3, _, rfl, .inr (Same.tup (s14.trans s2) h3), rfl, flat_strs p.shuns, ?_⟩
      rw [inV_str]
      exact k _ (Same.refl _)
    · have no : (p.needs.map fun z => decide (z ∈ p.shuns)).any id = false := by
        rw [List.any_map]
        refine List.any_eq_false.mpr fun z hz => ?_
        simp [ok.apart z hz]
      have s15 := s14.trans s5
      refine ⟨D, p.needs.map fun z => decide (z ∈ p.shuns), rfl, .inl (.inl (by rw [List.map_map]; exact e)), false, by rw [no], iteF ?_⟩
      have nK := T.nK
      refine ⟨.str p.a, rfl, .ref x, rfl, x, C, dx, [], rfl, s15 _ _ hx, T.cl, nK _ (by simp), by show 0 < 1000; decide, ?_⟩
      refine ⟨.ref t1, rfl, .ref x, rfl, x, C, dx, _, rfl, upd_same, T.cl, nK _ (by simp), by show 1 < 1000; decide, ?_⟩
      refine ⟨.ref t2, rfl, .ref x, rfl, x, C, dx, _, rfl, upd_same, T.cl, nK _ (by simp), by show 2 < 1000; decide, ?_⟩
      refine ⟨.ref t3, rfl, .ref x, rfl, x, C, dx, _, rfl, upd_same, T.cl, nK _ (by simp), by show 3 < 1000; decide, ?_⟩
      refine q _ (fun b o e hb => ?_) upd_same
      rw [upd_ne hb, upd_ne hb, upd_ne hb, upd_ne hb]
      exact s15 b o e
theorem kb_person {f : Addr} {fd : FuncData} (F : Fun K "__init__" "Person.__init__" s_Person___init__ f fd) : KBn K fd ["self", "start", "carried", "needs", "shuns"] 2 ["carried", "needs", "shuns"] (fun us ws => us ++ ws) (fun vs zs => vs ++ zs) := by
  obtain ⟨oc, od, kV, doc, pm, an, cdv, ct, osl, rfl, lk, hcd⟩ := F.ex
  exact ⟨fun s us ws _ l1 l2 => match us, l1, ws, l2 with | [_, _], _, [_, _, _], _ => BindsTo.of_eq rfl, fun r1 r2 => r1.append r2⟩
/-! ### Person.__eq__ -/
def spEqPerson (K : PySem.W.Frag) (C : Addr) : Sp := fun vs H Q _ => ∃ (x y : Addr) (d e : PersonD), vs = [.ref x, .ref y] ∧ PersonAt K C H x d ∧ PersonAt K C H y e ∧ Q (.bl (decide (d = e))) H
theorem scEqP : FnScope ["self", "other"] ["self", "other"] (defScope s_Person___eq__) := ⟨rfl, rfl, rfl, by decide +kernel, rfl, by decide +kernel, by decide +kernel⟩
theorem eqv_tups (zs ws : List Str) : PyData.eqv (.tuple (zs.map PyData.str)) (.tuple (ws.map PyData.str)) = decide (zs = ws) := by
  rw [PyData.eqv, eqvAll_strs]
theorem ok_eqPerson {f : Addr} {fd : FuncData} {k : Nat} (F : Fun K "__eq__" "Person.__eq__" s_Person___eq__ f fd) (B : Blt mg) (T : OwnC K mg C "Person" personF) : FnOk P w K mg base CX0 (k + 1) f fd ["self", "other"] (spEqPerson K C) := by
  refine F.ok scEqP (fun vs H Q E h => ?_) (fun cdv A outer s H vs Q E hr h => ?_)
  · obtain ⟨x, y, d, e, rfl, _⟩ := h
    rfl
  · obtain ⟨x, y, d, e, rfl, ⟨⟨dx, t1, t2, t3, hx, h1, h2, h3⟩, okd⟩, ⟨⟨dy, u1, u2, u3, hy, g1, g2, g3⟩, oke⟩, q⟩ := h
    refine ⟨_, pss_one (ps_ret (pe_and (pe_callB call_isi (by rfl) B.isi PyProof.Rows.boot_isinstance (pa_cons (pv 1) (pa_cons (pe_glob (v := .ref C) (by rfl) T.mgC rfl) pa_nil)))
      (pe_and (pe_cmpR op_eq (pe_fld (pv 0) rfl) (pe_fld (pv 1) rfl) (nomark _)) (pe_and (pe_cmpR (op_eqD hr.units) (pe_fld (pv 0) rfl) (pe_fld (pv 1) rfl) (nomark _)) (pe_and (pe_cmpR (op_eqD hr.units) (pe_fld (pv 0) rfl) (pe_fld (pv 1) rfl) (nomark _))
      (pe_one (pe_cmpR (op_eqD hr.units) (pe_fld (pv 0) rfl) (pe_fld (pv 1) rfl) (nomark _)))))))), ?_⟩
    refine ⟨.ref y, rfl, .ref y, .ref C, _, _, true, rfl, .own C, .base (.ins hy T.cl T.tyc T.tyg T.tyt T.tym), T.kit, true, rfl, iteT ?_⟩
    have nK := T.nK
    obtain ⟨l1, l2, l3, l4⟩ := look_person d.a t1 t2 t3
    obtain ⟨m1, m2, m3, m4⟩ := look_person e.a u1 u2 u3
    have sh : ∀ {zs : List Str}, areNm zs = true → SeqAt.shaped (.tuple (zs.map PyData.str)) = true := fun {zs} h => shaped_strsT fun z hz => nm_ok (are_nm h z hz)
    have o1 := okd.carried
    have o2 := okd.needs
    have o3 := okd.shuns
    have p1 := oke.carried
    have p2 := oke.needs
    have p3 := oke.shuns
    obtain ⟨a, ca, ne, su⟩ := d
    obtain ⟨a', ca', ne', su'⟩ := e
    have no : ∀ z : PersonD, ∀ z', z ≠ z' → Q (.bl (decide (z = z'))) H → Q (.bl false) H := fun z z' n k => by rw [decide_eq_false n] at k; exact k
    refine ⟨.ref x, rfl, x, C, dx, _, _, rfl, hx, T.cl, nK _ (by simp), l1, .ref y, rfl, y, C, dy, _, _, rfl, hy, T.cl, nK _ (by simp), m1, rfl, _, rfl, ite2 (fun c1 => ?_) (fun c1 => ?_)⟩
    · refine ⟨.ref x, rfl, x, C, dx, _, _, rfl, hx, T.cl, nK _ (by simp), l2, .ref y, rfl, y, C, dy, _, _, rfl, hy, T.cl, nK _ (by simp), m2, _, _, .tup h1 (dp_strs ca), .tup g1 (dp_strs ca'), sh o1, sh p1, _, rfl, ?_⟩
      rw [eqv_tups]
      refine ite2 (fun c2 => ?_) (fun c2 => ?_)
      · refine ⟨.ref x, rfl, x, C, dx, _, _, rfl, hx, T.cl, nK _ (by simp), l3, .ref y, rfl, y, C, dy, _, _, rfl, hy, T.cl, nK _ (by simp), m3, _, _, .tup h2 (dp_strs ne), .tup g2 (dp_strs ne'), sh o2, sh p2, _, rfl, ?_⟩
        rw [eqv_tups]
        refine ite2 (fun c3 => ?_) (fun c3 => ?_)
        · refine ⟨.ref x, rfl, x, C, dx, _, _, rfl, hx, T.cl, nK _ (by simp), l4, .ref y, rfl, y, C, dy, _, _, rfl, hy, T.cl, nK _ (by simp), m4, _, _, .tup h3 (dp_strs su), .tup g3 (dp_strs su'), sh o3, sh p3, ?_⟩
          rw [eqv_tups]
          have e1 := V.str.inj (of_decide_eq_true c1)
          have e2 := of_decide_eq_true c2
          have e3 := of_decide_eq_true c3
          simp only at e1
          subst e1 e2 e3
          have e5 : decide (PersonD.mk a ca ne su = PersonD.mk a ca ne su') = decide (su = su') := decide_eq_decide.mpr ⟨fun h => (PersonD.mk.inj h).2.2.2, fun h => by rw [h]⟩
          rw [e5] at q
          exact q
        · exact no _ _ (fun h => c3 (decide_eq_true (PersonD.mk.inj h).2.2.1)) q
      · exact no _ _ (fun h => c2 (decide_eq_true (PersonD.mk.inj h).2.1)) q
    · exact no _ _ (fun h => c1 (decide_eq_true (by rw [(PersonD.mk.inj h).1]))) q
end
end Lk
set_option Elab.async false
set_option linter.all false
set_option maxRecDepth 100000
set_option maxHeartbeats 2000000
/-! Dicts: tuple(d), len(d) of a frozen one, d == d by the items' own ==, tables of names. -/
namespace Lk
open PySem PySem.Spec PyProof.Rows L2 TxS LkO
section
variable {prog : Program} {w : World} {A : Around} {E : Value → Shared → Prop} {s : Shared} {T : String} {r d : Addr} {n : Nat} {P : Nat → Value → Prop} {OK : Heap → Prop}
theorem new_tup {Q : Value → Shared → Prop} (K : PySem.W.KdlSrc prog w T r d n P OK) (hh : A.handled = none) (hok : OK s.heap) (hn : n ≤ sizeLine) (hT : T = "dict")
    (q : ∀ (h' : Heap) (tk : Nat) (acc : Array Value), (∀ b o, s.heap.get? b = some o → h'.get? b = some o) → ItemsOf P acc n → Q (.ref h'.objs.size) { s with heap := h'.push { cls := .type "tuple", data := .seq acc }, toks := tk }) :
    codeAny (model prog w) A (.call (.builtin "tuple.__new__") ⟨[.type "tuple", .ref r], []⟩) (wants Q E) s := by
  refine codeAny_of_tree ?_
  show wpAny _ A.in1 (do
    checkBuiltinCall "tuple.__new__" ⟨[.type "tuple", .ref r], []⟩
    again (.builtin "tuple.__new__" ⟨[.type "tuple", .ref r], []⟩)) _ _ s
  refine wpAny_bind (wpAny_of_eq (F.newCall_tuple_1 _) (wpAny_pure ⟨plainId_quiet F.plain_tuple_new _, codeAny_builtin F.entry_tuple_new ?_⟩))
  rw [Around.under_plainId F.plain_tuple_new _]
  have z1 := sub_tuple_self
  have z2 := init_tuple_lookup
  have z3 := madeHere_tuple
  have ty : s.TypeIs (.ref r) "dict" := by rw [← hT]; exact K.type s hok
  have hh1 : A.in1.handled = none := hh
  wp_walk using wpAny_typeOf ty, PySem.W.kdu_collect (A := A.in1) K hh1 hok hn
  intro h' tk acc kp hacc
  show wpAny _ _ (Builtin.Tuple.tupleExact acc.toList.toArray >>= fun v => ret v) _ _ _
  unfold Builtin.Tuple.tupleExact
  refine wpAny_bind (wpAny_newObj_type (wpAny_pure ?_) ?_)
  · rw [show acc.toList.toArray = acc from by simp]
    exact q h' tk acc kp hacc
  · show acc.toList.toArray.size ≤ sizeLine
    rw [show acc.toList.toArray = acc from by simp, hacc.1]
    exact hn
theorem call_tupK {Q : Value → Shared → Prop} (K : PySem.W.KdlSrc prog w T r d n P OK) (hh : A.handled = none) (hok : OK s.heap) (hn : n ≤ sizeLine) (hT : T = "dict")
    (q : ∀ (h' : Heap) (tk : Nat) (acc : Array Value), (∀ b o, s.heap.get? b = some o → h'.get? b = some o) → ItemsOf P acc n → Q (.ref h'.objs.size) { s with heap := h'.push { cls := .type "tuple", data := .seq acc }, toks := tk }) :
    wpAny (model prog w) A (call (.type "tuple") [.ref r]) Q E s := by
  refine callType_codes (Q₁ := fun obj s1 => s1.TypeIs obj "tuple" ∧ Q obj s1) F.called_tuple (F.typeCall_tuple_1 _) F.entry_object_init
    (new_tup (A := A.in1) K hh hok hn hT fun h' tk acc kp hacc => ⟨⟨_, Heap.get?_push_size _ rfl, rfl⟩, q h' tk acc kp hacc⟩) fun obj s1 z => ?_
  exact ⟨z.1, F.args_object_init_2 obj _, object_init_meets F.called_tuple.init.lookup F.called_tuple.made (by decide) prog w A.in1 _ s1 ⟨z.1, rfl, z.2⟩⟩
end
section
variable {X : Cx}
/-- tuple(d): its keys -/
theorem cr_tupleD (calm : X.calm = true) : CallR X (.type "tuple") (fun xs H Q => ∃ (a : Addr) (kvs : List (Key × V)), xs = [.ref a] ∧ Rd H a (.dK kvs) ∧ ∀ p, H p = none → Q (.ref p) (upd H p (.tup (kvs.map fun kv => kV kv.1)))) := by
  intro pins s σ H xs us Q I r q
  obtain ⟨a, kvs, rfl, hd, q⟩ := q
  rw [Vals.ref1 r]
  obtain ⟨z, lo, vs, rel, dd⟩ := dk_rd I.hok hd
  obtain ⟨ep, at_⟩ := dd.dictAt
  have ek : (kvs.map fun kv => kV kv.1) = vs.map fun p => kV p.1 := by
    have e := congrArg (List.map kV) rel.keys
    rw [List.map_map, List.map_map] at e
    exact e
  refine call_tupK (PySem.W.kdl_dict (knd := mixKind X.prog X.w) (kvs := vs) (ep := ep) lo) (I.ok.hd calm) at_ (by rw [← rel.length]; exact z) rfl fun h' tk acc kp hacc => ?_
  have hv : Vals (vs.map fun p => kV p.1) acc.toList := keys_at (by rw [Array.length_toList]; exact hacc.1) fun j v e => hacc.2 j v (by rw [← Array.getElem?_toList]; exact e)
  have I1 : Inv X pins σ H { s with heap := h', toks := tk } := I.kept kp
  have I2 : Inv X pins σ (upd H h'.objs.size (.tup (kvs.map fun kv => kV kv.1))) { s with heap := h'.push { cls := .type "tuple", data := .seq acc }, toks := tk } :=
    I1.laid (t' := tk) (fun b o e => Heap.get?_push_of_some _ e) (Nat.le_refl _) ⟨by rw [List.length_map]; exact z, acc.toList, by rw [ek]; exact hv, ⟨_, Heap.get?_push_size _ rfl, rfl, 0, by simp⟩⟩
  exact ⟨.ref h'.objs.size, _, I2, rfl, q _ (I1.hok.fresh (Nat.le_refl _))⟩
theorem cr_lenR : CallR X (.builtin "len") (fun xs H Q => ∃ a kvs, xs = [V.ref a] ∧ Rd H a (.dK kvs) ∧ Q (.int kvs.length) H) := by
  intro pins s σ H xs us Q I r h
  obtain ⟨a, kvs, rfl, ha, q⟩ := h
  rw [Vals.ref1 r]
  exact d_len I ha fun t s' J => ⟨.int kvs.length, H, J, ⟨t, rfl⟩, q⟩
end
/-! ### d == d, item by item -/
section
variable {prog : Program} {w : World} {κ : Type} [DecidableEq κ] {knd : KeyKind prog w κ} {A : Around} {E : Value → Shared → Prop} {s : Shared}
theorem same_pairs {nm : String} {a b : Addr} {oa ob : Obj} {es es' : Array DictEntry} {ep ep' : Nat} {Q : Bool → Shared → Prop} (na : (a == sysModules) = false) (nb : (b == sysModules) = false) (L : Shared → Prop) (la : ∀ s', L s' → s'.heap.get? a = some oa) (lb : ∀ s', L s' → s'.heap.get? b = some ob)
    (da : oa.data = .dict es ep) (db : ob.data = .dict es' ep') (kb : KeysOf knd es') (sz : es.size = es'.size)
    (turn : ∀ (i : Nat) (hi : i < es.size), ∃ k j, ∃ hj : j < es'.size, knd.is k es[i].key = true ∧ es[i].hash = knd.hash k ∧ es'.findIdx? (fun e => knd.is k e.key) = some j ∧ ∀ s', L s' → wpAny (model prog w) A (eqBool es[i].val es'[j].val) (fun r s2 => r = true ∧ L s2) E s')
    (l0 : L s) (q : ∀ s', L s' → Q true s') : wpAny (model prog w) A (Builtin.Dict.samePairs nm a b) Q E s := by
  unfold Builtin.Dict.samePairs Builtin.Dict.showsAll
  rw [na, nb]
  simp only [Bool.false_eq_true, if_false]
  refine wpAny_bind (wpAny_pure (wpAny_bind (wpAny_pure ?_)))
  refine wpAny_bind (wpAny_dictEntries (la s l0) da ?_)
  refine wpAny_bind (wpAny_dictEntries (lb s l0) db ?_)
  rw [if_neg (show ¬ ((es.size != es'.size) = true) from by rw [sz]; simp)]
  refine wpAny_bind (wpAny_dictEpoch (la s l0) da ?_)
  refine wpAny_bind ?_
  rw [Std.Legacy.Range.forIn_eq_forIn_range']
  simp only [Std.Legacy.Range.size, Nat.sub_zero, Nat.add_sub_cancel, Nat.div_one]
  refine wpAny_forIn_list _ (fun rest p s' => L s' ∧ p = (none, ()) ∧ ∃ i, rest = List.range' i (es.size - i) ∧ i ≤ es.size) _ ?_ ?_ _ _ ⟨l0, rfl, 0, by simp, Nat.zero_le _⟩
  · rintro x rest p s' ⟨ls, rfl, i, hr, hi⟩
    have lt : i < es.size := by
      rcases Nat.lt_or_ge i es.size with z | z
      · exact z
      · rw [Nat.sub_eq_zero_of_le z] at hr
        cases hr
    rw [show es.size - i = (es.size - (i + 1)) + 1 from by omega, List.range'_succ] at hr
    injection hr with e1 e2
    subst e1
    obtain ⟨k, j, hj, hk, hh, hf, tn⟩ := turn x lt
    refine wpAny_bind (wpAny_dictEntries (la s' ls) da ?_)
    rw [Array.getElem?_eq_getElem lt]
    show wpAny _ _ (holding [es[x].key, es[x].val] _ >>= _) _ _ _
    rw [hh]
    refine wpAny_bind (wpAny_holding (wpAny_bind (wpAny_dictFind_of hk (lb s' ls) db kb ?_)))
    rw [hf]
    refine wpAny_bind (wpAny_dictEntries (lb s' ls) db ?_)
    rw [Array.getElem?_eq_getElem hj]
    refine wpAny_holding (wpAny_mono (tn s' ls) (fun r s2 z => ?_) fun _ _ z => z)
    obtain ⟨rfl, l2⟩ := z
    show wpAny _ _ (if (!true) = true then _ else _) _ _ _
    rw [if_neg (by decide)]
    refine wpAny_bind (wpAny_dictEpoch (la s2 l2) da ?_)
    rw [if_neg (by simp)]
    exact wpAny_pure ⟨l2, rfl, x + 1, e2, lt⟩
  · rintro p s' ⟨ls, rfl, _⟩
    exact wpAny_pure (q s' ls)
theorem rc_same {a b : Addr} {oa ob : Obj} {es es' : Array DictEntry} {ep ep' : Nat} {Q : Value → Shared → Prop} (na : (a == sysModules) = false) (nb : (b == sysModules) = false) (L : Shared → Prop) (la : ∀ s', L s' → s'.heap.get? a = some oa) (lb : ∀ s', L s' → s'.heap.get? b = some ob)
    (xa : oa.ExactDict) (xb : ob.ExactDict) (da : oa.data = .dict es ep) (db : ob.data = .dict es' ep') (kb : KeysOf knd es') (sz : es.size = es'.size) (hu : A.units < cLine)
    (turn : ∀ (i : Nat) (hi : i < es.size), ∃ k j, ∃ hj : j < es'.size, knd.is k es[i].key = true ∧ es[i].hash = knd.hash k ∧ es'.findIdx? (fun e => knd.is k e.key) = some j ∧ ∀ s', L s' → wpAny (model prog w) A.in1 (eqBool es[i].val es'[j].val) (fun r s2 => r = true ∧ L s2) E s')
    (l0 : L s) (q : ∀ s', L s' → Q (.bool true) s') : wpAny (model prog w) A (richCompare .Eq (.ref a) (.ref b)) Q E s := by
  have ta : s.TypeIs (.ref a) "dict" := ⟨oa, la s l0, xa.1⟩
  have tb : s.TypeIs (.ref b) "dict" := ⟨ob, lb s l0, xb.1⟩
  refine wpAny_richCompare_same_room (op := .Eq) ta tb PySem.F.slot_dict_eq (wpAny_call_entry PySem.F.slot_dict_eq ta PySem.F.entry_dict_eq ?_ (PySem.F.args_dict_eq_2 _ _)) hu
  show wpAny _ _ (Builtin.Dict.dictSlotArgs "__eq__" ⟨[.ref a, .ref b], []⟩ >>= _) _ _ s
  refine wpAny_bind ?_
  unfold Builtin.Dict.dictSlotArgs
  refine wpAny_bind (wpAny_notOrdered_dict ta (wpAny_pure ?_))
  refine wpAny_bind (wpAny_isInstance (T := "dict") tb PySem.F.sub_dict_dict ?_)
  simp only [Bool.not_true, Bool.false_eq_true, if_false]
  refine wpAny_bind (wpAny_pure (wpAny_bind (wpAny_pure ?_)))
  refine wpAny_bind (same_pairs (knd := knd) na nb L la lb da db kb sz turn l0 fun s' ls => ?_)
  exact wpAny_pure ⟨_, rfl, (fun x => nomatch x), q s' ls⟩
end
/-- two frozen dicts whose items D sees to be equal -/
def DDict (D : Eqv) : Eqv := fun x y H => ∃ a b oa ob ks ls, x = .ref a ∧ y = .ref b ∧ H a = some (.frz oa (.dK ks)) ∧ H b = some (.frz ob (.dK ls)) ∧ ks.length = ls.length ∧ ∀ p ∈ ks, ∃ v, valV ls p.1 = some v ∧ D p.2 v H
theorem rcG_dict {X : Cx} {n : Nat} {D : Eqv} (mon : Mon D) (h : EqG X n D) : RcG X (n + 1) (DDict D) := by
  intro A pins s σ H x y u v sb I rx ry d
  obtain ⟨a, b, oa, ob, ks, ls, rfl, rfl, ha, hb, len, each⟩ := d
  cases rx
  cases ry
  obtain ⟨ga, _, na, va, ra, oa', es, ep, ga', xa, da, ka, pa, _⟩ := (show ObjOk X.prog X.w H s.heap a (.frz oa (.dK ks)) from I.hok a _ ha)
  obtain ⟨gb, _, nb, vb, rb, ob', es', ep', gb', xb, db, kb, pb, _⟩ := (show ObjOk X.prog X.w H s.heap b (.frz ob (.dK ls)) from I.hok b _ hb)
  rw [ga] at ga'
  rw [gb] at gb'
  cases ga'
  cases gb'
  have la : es.size = ks.length := by rw [ra.length, ← pa.length, Array.length_toList]
  have lb : es'.size = ls.length := by rw [rb.length, ← pb.length, Array.length_toList]
  refine rc_same (knd := mixKind X.prog X.w) na nb (fun s' => LoopI X pins σ H s') (fun s' q => ?_) (fun s' q => ?_) xa xb da db kb (by rw [la, lb, len]) sb.room.units0 (fun i hi => ?_) ⟨H, I, Ext.rfl'⟩ (fun s' q => ⟨rfl, q⟩)
  · obtain ⟨H1, I1, e1⟩ := q
    exact (show ObjOk X.prog X.w H1 s'.heap a (.frz oa (.dK ks)) from I1.hok a _ (e1 _ _ ha)).1
  · obtain ⟨H1, I1, e1⟩ := q
    exact (show ObjOk X.prog X.w H1 s'.heap b (.frz ob (.dK ls)) from I1.hok b _ (e1 _ _ hb)).1
  · have hik : i < ks.length := la ▸ hi
    have hiv : i < va.length := ra.length ▸ hik
    obtain ⟨hkey, hval⟩ := pa.get? (i := i) (e := es[i]) (k := va[i].1) (v := va[i].2) (by rw [Array.getElem?_toList]; exact Array.getElem?_eq_getElem hi) (by rw [List.getElem?_eq_getElem hiv])
    have rk : ks[i].1 = va[i].1 ∧ RelV ks[i].2 va[i].2 := by
      have g : ∀ {l : List (Key × V)} {m : List (Key × Value)}, KV l m → ∀ (i : Nat) (h1 : i < l.length) (h2 : i < m.length), l[i].1 = m[i].1 ∧ RelV l[i].2 m[i].2 := fun {l m} r => by
        unfold KV at r
        induction r with
        | nil => intro i h1; cases h1
        | cons z _ ih =>
          intro i h1 h2
          cases i with
          | zero => exact z
          | succ i => exact ih i (Nat.lt_of_succ_lt_succ h1) (Nat.lt_of_succ_lt_succ h2)
      exact g ra i hik hiv
    obtain ⟨k', hk', hh⟩ := ka es[i] (Array.getElem_mem hi)
    have ek : k' = va[i].1 := (mixKind X.prog X.w).inj _ _ _ hk' hkey
    rw [ek] at hh
    obtain ⟨v, hv, dv⟩ := each ks[i] (List.getElem_mem hik)
    rw [rk.1] at hv
    have rel := rb.val va[i].1
    rw [hv] at rel
    obtain ⟨y, hy, ry⟩ := RelO.some_of rel
    have fb : findBy (mixKind X.prog X.w).is es' va[i].1 = some y := by
      rw [← hy, ← pb.find va[i].1]
      unfold findBy
      rw [← Array.find?_toList]
    rw [findBy_of_findIdx?] at fb
    cases hj : es'.findIdx? fun e => (mixKind X.prog X.w).is va[i].1 e.key with
    | none =>
      rw [hj] at fb
      cases fb
    | some j =>
      rw [hj] at fb
      obtain ⟨hjl, _, _⟩ := Array.findIdx?_eq_some_iff_getElem.mp hj
      have ey : es'[j].val = y := by
        have fb : (es'[j]?).map (·.val) = some y := fb
        rw [Array.getElem?_eq_getElem hjl] at fb
        exact Option.some.inj fb
      refine ⟨va[i].1, j, hjl, hkey, hh, hj, fun s' q => ?_⟩
      obtain ⟨H1, I1, e1⟩ := q
      rw [hval, ey]
      refine wpAny_mono (h A.in1 pins s' σ H1 ks[i].2 v va[i].2 y sb.in1 I1 rk.2 ry (mon _ _ _ _ e1 dv)) (fun r s2 z => ?_) fun _ _ z => z
      obtain ⟨er, H2, I2, e2⟩ := z
      exact ⟨er, H2, I2, e1.trans e2⟩
/-! ### tables by names -/
def Tab {α : Type} (R : V → α → Prop) (kvs : List (Key × V)) (l : List (Str × α)) : Prop := Paired (fun (kv : Key × V) (p : Str × α) => kv.1 = .inr p.1 ∧ R kv.2 p.2) kvs l
theorem Tab.mono {α : Type} {R R' : V → α → Prop} {kvs : List (Key × V)} {l : List (Str × α)} (t : Tab R kvs l) (h : ∀ v a, R v a → R' v a) : Tab R' kvs l := Paired.mono (fun _ _ z => ⟨z.1, h _ _ z.2⟩) t
theorem Tab.len {α : Type} {R : V → α → Prop} {kvs : List (Key × V)} {l : List (Str × α)} (t : Tab R kvs l) : kvs.length = l.length := Paired.length t
theorem Tab.keys {α : Type} {R : V → α → Prop} : ∀ {kvs : List (Key × V)} {l : List (Str × α)}, Tab R kvs l → kvs.map (·.1) = (l.map (·.1)).map Sum.inr
  | _, _, .nil => rfl
  | _, _, .cons z t => by rw [List.map_cons, List.map_cons, List.map_cons, z.1, Tab.keys t]
theorem Tab.kV {α : Type} {R : V → α → Prop} {kvs : List (Key × V)} {l : List (Str × α)} (t : Tab R kvs l) : (kvs.map fun kv => L2.kV kv.1) = (l.map (·.1)).map V.str := by
  have e := congrArg (List.map L2.kV) t.keys
  rw [List.map_map, List.map_map] at e
  exact e
theorem Tab.val {α : Type} {R : V → α → Prop} {z : Str} : ∀ {kvs : List (Key × V)} {l : List (Str × α)}, Tab R kvs l → ∀ {a : α}, l.lookup z = some a → ∃ v, valV kvs (.inr z) = some v ∧ R v a
  | _, _, .nil, a, h => by cases h
  | (k, v) :: _, (y, b) :: _, .cons e t, a, h => by
    obtain ⟨rfl, hr⟩ := (show k = Sum.inr y ∧ R v b from e)
    by_cases hy : z = y
    · subst hy
      rw [List.lookup_cons, beq_self_eq_true] at h
      cases h
      exact ⟨v, valV_pos rfl, hr⟩
    · rw [List.lookup_cons, beq_eq_false_iff_ne.mpr hy] at h
      obtain ⟨u, e1, e2⟩ := Tab.val t h
      refine ⟨u, ?_, e2⟩
      rw [← e1]
      unfold valV
      rw [List.find?_cons, decide_eq_false (fun q => hy (Sum.inr.inj q).symm)]
theorem Tab.none {α : Type} {R : V → α → Prop} {z : Str} : ∀ {kvs : List (Key × V)} {l : List (Str × α)}, Tab R kvs l → l.lookup z = Option.none → valV kvs (.inr z) = Option.none
  | _, _, .nil, _ => rfl
  | (k, v) :: _, (y, b) :: _, .cons e t, h => by
    obtain ⟨rfl, hr⟩ := (show k = Sum.inr y ∧ R v b from e)
    by_cases hy : z = y
    · subst hy
      rw [List.lookup_cons, beq_self_eq_true] at h
      cases h
    · rw [List.lookup_cons, beq_eq_false_iff_ne.mpr hy] at h
      have e1 := Tab.none t h
      rw [← e1]
      unfold valV
      rw [List.find?_cons, decide_eq_false (fun q => hy (Sum.inr.inj q).symm)]
theorem Tab.get {α : Type} {R : V → α → Prop} : ∀ {kvs : List (Key × V)} {l : List (Str × α)} {i : Nat} {p : Str × α}, Tab R kvs l → l[i]? = some p → ∃ v, kvs[i]? = some (.inr p.1, v) ∧ R v p.2
  | _, _, _, _, .nil, h => by simp at h
  | (k, v) :: _, (y, b) :: _, 0, p, .cons e _, h => by
    obtain ⟨rfl, hr⟩ := (show k = Sum.inr y ∧ R v b from e)
    cases h
    exact ⟨v, rfl, hr⟩
  | _ :: _, _ :: _, i + 1, p, .cons _ t, h => by
    obtain ⟨u, e1, e2⟩ := Tab.get (i := i) t h
    exact ⟨u, e1, e2⟩
/-- names that differ: what stands at a place is what is found -/
theorem look_at {α : Type} : ∀ {l : List (Str × α)} {p : Str × α}, (l.map (·.1)).Nodup → p ∈ l → l.lookup p.1 = some p.2
  | [], _, _, h => by cases h
  | (y, b) :: r, p, nd, h => by
    rw [List.map_cons, List.nodup_cons] at nd
    rcases List.mem_cons.mp h with e | e
    · subst e
      rw [List.lookup_cons, beq_self_eq_true]
    · have ny : p.1 ≠ y := fun z => nd.1 (by rw [← z]; exact List.mem_map_of_mem (f := (·.1)) e)
      rw [List.lookup_cons, beq_eq_false_iff_ne.mpr ny]
      exact look_at nd.2 e
theorem look_mem {α : Type} {z : Str} {a : α} : ∀ {l : List (Str × α)}, l.lookup z = some a → (z, a) ∈ l
  | [], h => by cases h
  | (y, b) :: r, h => by
    by_cases hy : z = y
    · subst hy
      rw [List.lookup_cons, beq_self_eq_true] at h
      cases h
      exact List.mem_cons_self
    · rw [List.lookup_cons, beq_eq_false_iff_ne.mpr hy] at h
      exact List.mem_cons_of_mem _ (look_mem h)
theorem look_name {α : Type} {z : Str} : ∀ {l : List (Str × α)}, z ∈ l.map (·.1) → ∃ a, l.lookup z = some a
  | [], h => by cases h
  | (y, b) :: r, h => by
    by_cases hy : z = y
    · subst hy
      exact ⟨b, by rw [List.lookup_cons, beq_self_eq_true]⟩
    · rw [List.lookup_cons, beq_eq_false_iff_ne.mpr hy]
      exact look_name ((List.mem_cons.mp h).resolve_left hy)
theorem look_no {α : Type} {z : Str} {l : List (Str × α)} (h : z ∉ l.map (·.1)) : l.lookup z = Option.none := by
  cases e : l.lookup z with
  | none => rfl
  | some a => exact absurd (List.mem_map_of_mem (f := (·.1)) (look_mem e)) h
end Lk
set_option Elab.async false
set_option linter.all false
set_option maxRecDepth 100000
set_option maxHeartbeats 2000000
namespace Lk
open PySem PySem.Spec PyProof.Rows L2 TxS LkO
theorem putK_new {kvs : List (Key × V)} {k : Key} {v : V} (h : k ∉ kvs.map (·.1)) : putK kvs k v = kvs ++ [(k, v)] := by
  unfold putK
  rw [if_neg]
  intro e
  obtain ⟨p, hp, q⟩ := List.any_eq_true.mp e
  exact h (List.mem_map.mpr ⟨p, hp, of_decide_eq_true q⟩)
/-- {k(x): f(x) for x in ..}, the keys differ, a turn only makes objects -/
theorem dc_m {J : It} {n : Nat} {G : Hp → Prop} {Y : Nat → Hp → V → Hp → Prop} (w : Walk J n G Y) {g : TG} {tk tv : TE} {vs : List Nat} {σ : L2.St} {H1 : Hp} {D : Addr} {Qd : Hp → Prop} {α : Type} (l : List α) (kf : α → Key) (f : α → V) (hn : n = l.length) (nd : (l.map kf).Nodup) (nD : H1 D = none) (few : l.length ≤ 1000)
    (hG : ∀ H', Same H1 H' → G H')
    (hs : ∀ i a x H2 H' (Kt : V → V → Hp → Prop), l[i]? = some a → Same H1 H2 → Y i H2 x H' → (∀ H5, Same H2 H5 → Kt (kV (kf a)) (f a) H5) → g x (wipe σ vs) H' fun σ2 H3 => wipe σ2 vs = wipe σ vs ∧ tk σ2 H3 fun y H4 => tv σ2 H4 fun z H5 => Kt y z H5)
    (hd : ∀ H2, Same H1 H2 → H2 D = some (.dK (l.map fun a => (kf a, f a))) → Qd H2) :
    ∃ W : Nat → Nat → Hp → Prop, (∃ m, W 0 m (upd H1 D (.dK []))) ∧ ∀ i m H, W i m H → (J.stop i H ∧ Qd H) ∨ (J.go i H ∧ ∃ Nx : Hp → Prop, (∀ H', Nx H' → ∃ m', m' < m ∧ W (i + 1) m' H') ∧
      ∀ x H', J.yld i H x H' → g x (wipe σ vs) H' fun σ2 H2 => wipe σ2 vs = wipe σ vs ∧ tYes σ2 H2 fun b H3 => if b = true then tk σ2 H3 fun y H4 => tv σ2 H4 fun z H5 => ∃ kvs k, y = kV k ∧ H5 D = some (.dK kvs) ∧ kvs.length < sizeLine ∧ Nx (upd H5 D (.dK (putK kvs k z))) else Nx H3) := by
  refine ⟨fun i m H => m = n - i ∧ i ≤ n ∧ Same H1 H ∧ H D = some (.dK ((l.take i).map fun a => (kf a, f a))), ⟨n, by simp, Nat.zero_le _, same_new nD, upd_same⟩, ?_⟩
  rintro i m H ⟨rfl, hi, sm, eD⟩
  by_cases lt : i < n
  · have hl : i < l.length := hn ▸ lt
    have ha : l[i]? = some l[i] := List.getElem?_eq_getElem hl
    refine .inr ⟨w.goes i H lt (hG H sm), fun H' => Same H1 H' ∧ H' D = some (.dK ((l.take (i + 1)).map fun a => (kf a, f a))), fun H' z => ⟨n - (i + 1), by omega, rfl, lt, z⟩, fun x H' y => ?_⟩
    refine hs i l[i] x H H' _ ha sm (w.yields i H x H' lt (hG H sm) y) fun H5 s5 => ?_
    refine ⟨_, kf l[i], rfl, s5 _ _ eD, ?_, Same.up (sm.trans s5) nD, ?_⟩
    · rw [List.length_map, List.length_take]
      exact Nat.lt_of_le_of_lt (Nat.min_le_right _ _) (small1000 few)
    · rw [upd_same, putK_new, take_next1 ha, List.map_append]
      · rfl
      · rw [List.map_map]
        intro hm
        have nd2 : ((l.take (i + 1)).map kf).Nodup := by
          rw [List.map_take]
          exact nd.sublist (List.take_sublist _ _)
        rw [take_next1 ha, List.map_append, List.nodup_append] at nd2
        exact nd2.2.2 _ hm _ (by simp) rfl
  · have e : i = n := Nat.le_antisymm hi (Nat.le_of_not_lt lt)
    subst e
    refine .inl ⟨w.stops H (hG H sm), hd H sm ?_⟩
    rw [eD, hn, List.take_length]
end Lk
set_option Elab.async false
set_option linter.all false
set_option maxRecDepth 100000
set_option maxHeartbeats 2000000
namespace Lk
open PySem PySem.Spec PyProof.Rows L2 TxS LkO LkG
structure BldD where
  rooms : List Str
  keys : List (Str × Str)
  doors : List (Str × DoorD)
  people : List (Str × PersonD)
structure BldD.ok (b : BldD) : Prop where
  rooms : areNm b.rooms = true
  r2 : 2 ≤ b.rooms.length
  r6 : b.rooms.length ≤ 6
  k3 : b.keys.length ≤ 3
  knd : (b.keys.map (·.1)).Nodup
  keys : ∀ p ∈ b.keys, isNm p.1 = true ∧ p.1 ∉ b.rooms ∧ p.2 ∈ b.rooms
  d1 : 1 ≤ b.doors.length
  d8 : b.doors.length ≤ 8
  dnd : (b.doors.map (·.1)).Nodup
  doors : ∀ p ∈ b.doors, isNm p.1 = true ∧ p.2.ok ∧ p.2.a ∈ b.rooms ∧ p.2.b ∈ b.rooms ∧ ∀ z, p.2.key = some z → z ∈ b.keys.map (·.1)
  p1 : 1 ≤ b.people.length
  p4 : b.people.length ≤ 4
  pnd : (b.people.map (·.1)).Nodup
  people : ∀ p ∈ b.people, isNm p.1 = true ∧ p.2.ok ∧ p.2.a ∈ b.rooms ∧ (∀ z ∈ p.2.carried, z ∈ b.keys.map (·.1)) ∧ (∀ z ∈ p.2.needs, z ∈ b.rooms) ∧ ∀ z ∈ p.2.shuns, z ∈ b.rooms
def keyR : V → Str → Prop := fun v z => v = .str z
def doorR (C : Addr) (H : Hp) : V → DoorD → Prop := fun v d => ∃ x, v = .ref x ∧ DoorAt C H x d
def persR (K : PySem.W.Frag) (C : Addr) (H : Hp) : V → PersonD → Prop := fun v d => ∃ x, v = .ref x ∧ PersonAt K C H x d
theorem doorR.same {C : Addr} {H H' : Hp} (s : Same H H') (v : V) (d : DoorD) (h : doorR C H v d) : doorR C H' v d := let ⟨x, e, a⟩ := h; ⟨x, e, a.same s⟩
theorem persR.same {K : PySem.W.Frag} {C : Addr} {H H' : Hp} (s : Same H H') (v : V) (d : PersonD) (h : persR K C H v d) : persR K C H' v d := let ⟨x, e, a⟩ := h; ⟨x, e, a.same s⟩
/-- the program's limits -/
structure Lim (mg : Str → Option Value) : Prop where
  fr : ∃ t, mg "FEWEST_ROOMS" = some (.int 2 t)
  mr : ∃ t, mg "MOST_ROOMS" = some (.int 6 t)
  mks : ∃ t, mg "MOST_KEYS" = some (.int 3 t)
  md : ∃ t, mg "MOST_DOORS" = some (.int 8 t)
  mp : ∃ t, mg "MOST_PEOPLE" = some (.int 4 t)
theorem bl_yes {p : Prop} [Decidable p] (h : p) : V.bl (decide p) = V.bl true := by rw [decide_eq_true h]
theorem all_yes {α : Type} {l : List α} {f : α → Bool} (h : ∀ z ∈ l, f z = true) : (l.map f).all id = true := by
  rw [List.all_map]
  exact List.all_eq_true.mpr fun z hz => h z hz
section
variable {P : Program} {w : World} {K : PySem.W.Frag} {mg : Str → Option Value} {base : Heap} {C : Addr}
/-- Door, with what is read of it -/
structure DoorT (P : Program) (w : World) (K : PySem.W.Frag) (mg : Str → Option Value) (base : Heap) (C : Addr) : Prop where
  c : OwnC K mg C "Door" doorF
  start : Pr P w K mg base 1 C "start" (getSp C "kept_start")
  end_ : Pr P w K mg base 1 C "end" (getSp C "kept_end")
  key : Pr P w K mg base 1 C "key" (getSp C "kept_key")
structure PersT (P : Program) (w : World) (K : PySem.W.Frag) (mg : Str → Option Value) (base : Heap) (C : Addr) : Prop where
  c : OwnC K mg C "Person" personF
  start : Pr P w K mg base 1 C "start" (getSp C "kept_start")
  carried : Pr P w K mg base 1 C "carried" (getSp C "kept_carried")
  needs : Pr P w K mg base 1 C "needs" (getSp C "kept_needs")
  shuns : Pr P w K mg base 1 C "shuns" (getSp C "kept_shuns")
/-! ### is_table -/
def spTable : Sp := fun vs H Q _ => ∃ (d : Addr) (o : Obj) (kvs : List (Key × V)) (names : List Str) (lo hi : Int), vs = [.ref d, .int lo, .int hi] ∧ H d = some (.frz o (.dK kvs)) ∧ kvs.map (·.1) = names.map Sum.inr ∧ names.length ≤ 1000 ∧ (∀ z ∈ names, isNm z = true) ∧ lo ≤ names.length ∧ names.length ≤ hi ∧
  ∀ H', Same H H' → Q (.bl true) H'
theorem scTable : FnScope ["value", "fewest", "most", "name"] ["value", "fewest", "most"] (defScope s_is_table) := ⟨rfl, rfl, rfl, by decide +kernel, rfl, by decide +kernel, by decide +kernel⟩
theorem key_at {kvs : List (Key × V)} {names : List Str} (e : kvs.map (·.1) = names.map Sum.inr) {i : Nat} {z : Str} {k : Key} {v : V} (hz : names[i]? = some z) (hk : kvs[i]? = some (k, v)) : kV k = .str z := by
  have h1 : (kvs.map (·.1))[i]? = some k := by rw [List.getElem?_map, hk]; rfl
  rw [e, List.getElem?_map, hz] at h1
  cases h1
  rfl
theorem ok_table {f : Addr} {fd : FuncData} (F : Fun K "is_table" "is_table" s_is_table f fd) (B : Blt mg) (GN : Fn P w K mg base 1 "is_name" ["value"] spName) : FnOk P w K mg base CX0 2 f fd ["value", "fewest", "most"] spTable := by
  refine F.ok scTable (fun vs H Q E h => ?_) (fun cdv A outer s H vs Q E hr h => ?_)
  · obtain ⟨d, o, kvs, names, lo, hi, rfl, _⟩ := h
    rfl
  · obtain ⟨d, o, kvs, names, lo, hi, rfl, hd, hk, few, nm, l1, l2, q⟩ := h
    have len : kvs.length = names.length := by
      have := congrArg List.length hk
      rw [List.length_map, List.length_map] at this
      exact this
    refine ⟨_, pss_one (ps_ret (pe_and (pe_callB call_isi (by rfl) B.isi PyProof.Rows.boot_isinstance (pa_cons (pv 0) (pa_cons (pe_bltn (v := .ty "dict") (by rfl) B.dct PyProof.Rows.boot_dict rfl) pa_nil)))
      (pe_and (pe_chain op_le op_le (pv 1) (pe_callB cr_lenR (by rfl) B.len PySem.boot_len (pa_cons (pv 0) pa_nil)) (pv 2))
      (pe_one (pe_callB (cr_all rfl) (by rfl) B.all PyProof.Rows.boot_all (pa_cons (pe_lc (own := [("name", 3)]) (g := gName 3) (tt := tYes) rfl scTable.nd (pi_keys (pv 0)) (blkOk_by (N := ["value", "fewest", "most", "name"]) (sc := defScope s_is_table) (by decide +kernel))
        (fun _ _ _ _ _ => pg_name (i := 3) scTable.nd rfl (Or.inl rfl)) (fun _ _ _ _ _ => pts_nil) (fun _ _ _ _ _ => pe_fn GN hr (by rfl) (pa_cons (pv 3) pa_nil))) pa_nil)))))), ?_⟩
    refine ⟨.ref d, rfl, .ref d, .ty "dict", _, _, true, rfl, .ty _, .fDict hd, kit_ty (by decide +kernel), true, rfl, iteT ?_⟩
    refine ⟨.int lo, rfl, .ref d, rfl, d, kvs, rfl, .inr ⟨o, hd⟩, lo, _, rfl, rfl, true, bl_yes (by omega), iteT ⟨.int hi, rfl, _, hi, rfl, rfl, ?_⟩⟩
    refine ⟨true, bl_yes (by omega), iteT ?_⟩
    refine ⟨.ref d, rfl, d, o, rfl, .inl ⟨kvs, hd, fun D nD => lc_m (walk_keys (kvs := kvs)) names (fun z => .bl (isNm z)) len nD few (fun H' s => s _ _ hd) (fun i z x H2 H3 Kt hz s2 hY k => ?_) (fun H2 s2 e => ?_)⟩⟩
    · obtain ⟨rfl, k0, v0, hx, rfl⟩ := hY
      rw [key_at hk hz hx]
      exact ⟨rfl, .str z, rfl, z, rfl, nm_line (nm z (List.mem_of_getElem? hz)), fun H4 s4 => k H4 s4⟩
    · refine ⟨D, names.map isNm, rfl, .inl (.inl (by rw [List.map_map]; exact e)), ?_⟩
      rw [all_yes nm]
      exact q _ s2
/-! ### are_rooms -/
def spRooms (K : PySem.W.Frag) : Sp := fun vs H Q _ => ∃ (r : Addr) (zs : List Str), vs = [.ref r] ∧ SqT K H r (zs.map V.str) ∧ areNm zs = true ∧ 2 ≤ zs.length ∧ zs.length ≤ 6 ∧ ∀ H', Same H H' → Q (.bl true) H'
theorem scRooms : FnScope ["rooms"] ["rooms"] (defScope s_are_rooms) := ⟨rfl, rfl, rfl, by decide +kernel, rfl, by decide +kernel, by decide +kernel⟩
theorem ok_rooms {f : Addr} {fd : FuncData} (F : Fun K "are_rooms" "are_rooms" s_are_rooms f fd) (B : Blt mg) (L : Lim mg) (GA : Fn P w K mg base 2 "are_names" ["values"] (spAre K)) : FnOk P w K mg base CX0 3 f fd ["rooms"] (spRooms K) := by
  obtain ⟨t2, e2⟩ := L.fr
  obtain ⟨t6, e6⟩ := L.mr
  refine F.ok scRooms (fun vs H Q E h => ?_) (fun cdv A outer s H vs Q E hr h => ?_)
  · obtain ⟨r, zs, rfl, _⟩ := h
    rfl
  · obtain ⟨r, zs, rfl, hz, nm, l2, l6, q⟩ := h
    refine ⟨_, pss_one (ps_ret (pe_and (pe_fn GA hr (by rfl) (pa_cons (pv 0) pa_nil)) (pe_one (pe_chain op_le op_le (pe_glob (v := .int 2) (by rfl) e2 ⟨_, rfl⟩) (pe_callB call_len_seq (by rfl) B.len PySem.boot_len (pa_cons (pv 0) pa_nil)) (pe_glob (v := .int 6) (by rfl) e6 ⟨_, rfl⟩))))), ?_⟩
    refine ⟨.ref r, rfl, r, zs, rfl, by omega, fun z h => nm_line (are_nm nm z h), hz, fun H1 s1 => ⟨true, by rw [nm], iteT ?_⟩⟩
    refine ⟨.ref r, rfl, r, _, rfl, .inr (Same.tup s1 hz), 2, _, rfl, rfl, true, bl_yes (by rw [List.length_map]; omega), iteT ⟨_, 6, rfl, rfl, ?_⟩⟩
    show Q (V.bl (decide _)) _
    rw [List.length_map, bl_yes (by omega)]
    exact q _ s1
/-! ### is_key, are_keys -/
def spIsKey (K : PySem.W.Frag) : Sp := fun vs H Q _ => ∃ (n z : Str) (r : Addr) (zs : List Str), vs = [.str n, .str z, .ref r] ∧ SqT K H r (zs.map V.str) ∧ n ∉ zs ∧ z ∈ zs ∧ isNm z = true ∧ ∀ H', Same H H' → Q (.bl true) H'
theorem scIsKey : FnScope ["name", "room", "rooms"] ["name", "room", "rooms"] (defScope s_is_key) := ⟨rfl, rfl, rfl, by decide +kernel, rfl, by decide +kernel, by decide +kernel⟩
theorem ok_isKey {f : Addr} {fd : FuncData} (F : Fun K "is_key" "is_key" s_is_key f fd) (GN : Fn P w K mg base 1 "is_name" ["value"] spName) : FnOk P w K mg base CX0 2 f fd ["name", "room", "rooms"] (spIsKey K) := by
  refine F.ok scIsKey (fun vs H Q E h => ?_) (fun cdv A outer s H vs Q E hr h => ?_)
  · obtain ⟨n, z, r, zs, rfl, _⟩ := h
    rfl
  · obtain ⟨n, z, r, zs, rfl, hr', hn, hz, nm, q⟩ := h
    refine ⟨_, pss_one (ps_ret (pe_and (pe_cmpR (r := rIn K true) op_notIn_seq (pv 0) (pv 2) rfl) (pe_and (pe_fn GN hr (by rfl) (pa_cons (pv 1) pa_nil)) (pe_one (pe_cmpR (r := rIn K false) op_in_seq (pv 1) (pv 2) rfl))))), ?_⟩
    refine ⟨.str n, rfl, .ref r, rfl, r, _, rfl, .inr hr', rfl, flat_strs zs, true, by rw [inV_str]; simp [hn], iteT ?_⟩
    refine ⟨.str z, rfl, z, rfl, nm_line nm, fun H1 s1 => ⟨true, by rw [nm], iteT ?_⟩⟩
    refine ⟨.str z, rfl, .ref r, rfl, r, _, rfl, .inr (Same.tup s1 hr'), rfl, flat_strs zs, ?_⟩
    rw [inV_str, if_neg Bool.false_ne_true, decide_eq_true hz]
    exact q _ s1
def spKeys (K : PySem.W.Frag) : Sp := fun vs H Q _ => ∃ (d r : Addr) (o : Obj) (kvs : List (Key × V)) (keys : List (Str × Str)) (zs : List Str), vs = [.ref d, .ref r] ∧ H d = some (.frz o (.dK kvs)) ∧ Tab keyR kvs keys ∧ SqT K H r (zs.map V.str) ∧ (keys.map (·.1)).Nodup ∧ keys.length ≤ 3 ∧ (∀ z ∈ zs, isNm z = true) ∧
  (∀ p ∈ keys, isNm p.1 = true ∧ p.1 ∉ zs ∧ p.2 ∈ zs) ∧ ∀ H', Same H H' → Q (.bl true) H'
theorem scKeys : FnScope ["keys", "rooms", "name"] ["keys", "rooms"] (defScope s_are_keys) := ⟨rfl, rfl, rfl, by decide +kernel, rfl, by decide +kernel, by decide +kernel⟩
theorem ok_keys {f : Addr} {fd : FuncData} (F : Fun K "are_keys" "are_keys" s_are_keys f fd) (B : Blt mg) (L : Lim mg) (GT : Fn P w K mg base 2 "is_table" ["value", "fewest", "most"] spTable) (GK : Fn P w K mg base 2 "is_key" ["name", "room", "rooms"] (spIsKey K)) : FnOk P w K mg base CX0 3 f fd ["keys", "rooms"] (spKeys K) := by
  obtain ⟨t3, e3⟩ := L.mks
  refine F.ok scKeys (fun vs H Q E h => ?_) (fun cdv A outer s H vs Q E hr h => ?_)
  · obtain ⟨d, r, o, kvs, keys, zs, rfl, _⟩ := h
    rfl
  · obtain ⟨d, r, o, kvs, keys, zs, rfl, hd, tab, hr', nd, k3, nmz, each, q⟩ := h
    refine ⟨_, pss_one (ps_ret (pe_and (pe_fn GT hr (by rfl) (pa_cons (pv 0) (pa_cons pe_int (pa_cons (pe_glob (v := .int 3) (by rfl) e3 ⟨_, rfl⟩) pa_nil))))
      (pe_one (pe_callB (cr_all rfl) (by rfl) B.all PyProof.Rows.boot_all (pa_cons (pe_lc (own := [("name", 2)]) (g := gName 2) (tt := tYes) (te := tCall (spIsKey K) [] E0 (tCons (tVar 2) (tCons (tDGet (tVar 0) (tVar 2)) (tCons (tVar 1) tNil)))) rfl scKeys.nd (pi_keys (pv 0)) (blkOk_by (N := ["keys", "rooms", "name"]) (sc := defScope s_are_keys) (by decide +kernel))
        (fun _ _ _ _ _ => pg_name (i := 2) scKeys.nd rfl (Or.inl rfl)) (fun _ _ _ _ _ => pts_nil) (fun _ _ _ _ _ => pe_fn GK hr (by rfl) (pa_cons (pv 2) (pa_cons (pe_dget (hu_of hr) (pv 0) (pv 2) (fun _ _ => rfl)) (pa_cons (pv 1) pa_nil))))) pa_nil))))), ?_⟩
    refine ⟨.ref d, rfl, d, o, kvs, keys.map (·.1), 0, 3, rfl, hd, tab.keys, by rw [List.length_map]; omega, fun z hz => ?_, by omega, by rw [List.length_map]; omega, fun H1 s1 => ⟨true, rfl, iteT ?_⟩⟩
    · obtain ⟨p, hp, rfl⟩ := List.mem_map.mp hz
      exact (each p hp).1
    refine ⟨.ref d, rfl, d, o, rfl, .inl ⟨kvs, s1 _ _ hd, fun D nD => lc_m (walk_keys (kvs := kvs)) keys (fun _ => .bl true) tab.len nD (by omega) (fun H' s => s _ _ (s1 _ _ hd)) (fun i p x H2 H3 Kt hz s2 hY k => ?_) (fun H2 s2 e => ?_)⟩⟩
    · obtain ⟨rfl, k0, v0, hx, rfl⟩ := hY
      obtain ⟨v, hv, hr2⟩ := tab.get hz
      rw [hv] at hx
      cases hx
      have hp := List.mem_of_getElem? hz
      obtain ⟨u, hu, hr3⟩ := tab.val (look_at nd hp)
      have eu : u = .str p.2 := hr3
      subst eu
      obtain ⟨a1, a2, a3⟩ := each p hp
      have sH := s1.trans s2
      exact ⟨rfl, .str p.1, rfl, .ref d, rfl, .str p.1, rfl, d, .str p.2, rfl, .inl ⟨kvs, .inr p.1, .inr ⟨o, sH _ _ hd⟩, rfl, hu.symm⟩, .ref r, rfl, p.1, p.2, r, zs, rfl, Same.tup sH hr', a2, a3, nmz _ a3, fun H4 s4 => k H4 s4⟩
    · refine ⟨D, keys.map fun _ => true, rfl, .inl (.inl (by rw [List.map_map]; exact e)), ?_⟩
      rw [all_yes fun _ _ => rfl]
      exact q _ (s1.trans s2)
end
end Lk
set_option Elab.async false
set_option linter.all false
set_option maxRecDepth 100000
set_option maxHeartbeats 2000000
namespace Lk
open PySem PySem.Spec PyProof.Rows L2 TxS LkO LkG
theorem all_in_yes {zs ws : List Str} (h : ∀ z ∈ zs, z ∈ ws) : (zs.all fun z => decide (z ∈ ws)) = true := List.all_eq_true.mpr fun z hz => decide_eq_true (h z hz)
theorem all_key_yes {α : Type} {R : V → α → Prop} {kvs : List (Key × V)} {l : List (Str × α)} (t : Tab R kvs l) {zs : List Str} (h : ∀ z ∈ zs, z ∈ l.map (·.1)) : (zs.all fun z => (valV kvs (.inr z)).isSome) = true := List.all_eq_true.mpr fun z hz => by
  obtain ⟨a, e⟩ := look_name (h z hz)
  obtain ⟨v, e2, _⟩ := t.val e
  rw [e2]
  rfl
section
variable {P : Program} {w : World} {K : PySem.W.Frag} {mg : Str → Option Value} {base : Heap} {C : Addr}
/-! ### fits_door, are_doors -/
def spFitsD (K : PySem.W.Frag) (C : Addr) : Sp := fun vs H Q _ => ∃ (x r k : Addr) (d : DoorD) (o : Obj) (kvs : List (Key × V)) (keys : List (Str × Str)) (zs : List Str), vs = [.ref x, .ref r, .ref k] ∧ DoorAt C H x d ∧ SqT K H r (zs.map V.str) ∧ H k = some (.frz o (.dK kvs)) ∧ Tab keyR kvs keys ∧
  d.a ∈ zs ∧ d.b ∈ zs ∧ (∀ z, d.key = some z → z ∈ keys.map (·.1)) ∧ ∀ H', Same H H' → Q (.bl true) H'
theorem scFitsD : FnScope ["door", "rooms", "keys"] ["door", "rooms", "keys"] (defScope s_fits_door) := ⟨rfl, rfl, rfl, by decide +kernel, rfl, by decide +kernel, by decide +kernel⟩
theorem ok_fitsD {f : Addr} {fd : FuncData} (F : Fun K "fits_door" "fits_door" s_fits_door f fd) (B : Blt mg) (T : DoorT P w K mg base C) (GI : Fn P w K mg base 1 "all_in" ["names", "known"] (spAllIn K)) : FnOk P w K mg base CX0 3 f fd ["door", "rooms", "keys"] (spFitsD K C) := by
  refine F.ok scFitsD (fun vs H Q E h => ?_) (fun cdv A outer s H vs Q E hr h => ?_)
  · obtain ⟨x, r, k, d, o, kvs, keys, zs, rfl, _⟩ := h
    rfl
  · obtain ⟨x, r, k, d, o, kvs, keys, zs, rfl, ⟨⟨dx, hx⟩, ok⟩, hr', hk, tab, m1, m2, m3, q⟩ := h
    refine ⟨_, pss_one (ps_ret (pe_and (pe_callB call_isi (by rfl) B.isi PyProof.Rows.boot_isinstance (pa_cons (pv 0) (pa_cons (pe_glob (v := .ref C) (by rfl) T.c.mgC rfl) pa_nil)))
      (pe_and (pe_fn GI (hr.mono (by decide)) (by rfl) (pa_cons (pe_tup (pa_cons (pe_pr T.start hr T.c.cl (pv 0) rfl) (pa_cons (pe_pr T.end_ hr T.c.cl (pv 0) rfl) pa_nil))) (pa_cons (pv 1) pa_nil)))
      (pe_one (pe_or (pe_cmp (pc_isN (pe_pr T.key hr T.c.cl (pv 0) rfl))) (pe_one (pe_cmp (pc_din (hu_of hr) (pe_pr T.key hr T.c.cl (pv 0) rfl) (pv 2)) rfl))))))), ?_⟩
    obtain ⟨l1, l2, l3, _, _⟩ := look_door d
    refine ⟨.ref x, rfl, .ref x, .ref C, _, _, true, rfl, .own C, .base (.ins hx T.c.cl T.c.tyc T.c.tyg T.c.tyt T.c.tym), T.c.kit, true, rfl, iteT ?_⟩
    refine ⟨.ref x, rfl, x, dx, _, rfl, hx, x, dx, _, _, rfl, hx, l1, .ref x, rfl, x, dx, _, rfl, hx, x, dx, _, _, rfl, hx, l2, by show 2 ≤ sizeLine; rw [sizeLine_eq]; decide, fun p np => ?_⟩
    refine ⟨.ref r, rfl, p, r, [d.a, d.b], zs, rfl, by show 2 ≤ 1000; decide, .inl (.inl upd_same), .inr (Same.tup (same_new np) hr'), fun H1 s1 => ⟨true, ?_, iteT ?_⟩⟩
    · rw [all_in_yes fun z hz => ?_]
      rcases List.mem_cons.mp hz with e | e
      · rw [e]
        exact m1
      · rw [List.mem_singleton.mp e]
        exact m2
    have sm := (same_new np).trans s1
    have hx1 := sm _ _ hx
    refine ⟨.ref x, rfl, x, dx, _, rfl, hx1, x, dx, _, _, rfl, hx1, l3, ?_⟩
    cases hkey : d.key with
    | none => exact ⟨true, rfl, iteT (q _ sm)⟩
    | some z =>
      refine ⟨false, rfl, iteF ?_⟩
      obtain ⟨a, ha⟩ := look_name (m3 z hkey)
      obtain ⟨v, hv, _⟩ := tab.val ha
      have l3' : List.lookup ("kept_key" : Str) d.fs = some (V.str z) := by rw [l3, hkey]; rfl
      exact ⟨.ref x, rfl, x, dx, _, rfl, hx1, x, dx, _, _, rfl, hx1, l3', .ref k, rfl, k, _, rfl, .inl ⟨kvs, .inr z, .inr ⟨o, sm _ _ hk⟩, rfl, hv.symm⟩, q _ sm⟩
def spDoors (K : PySem.W.Frag) (C : Addr) : Sp := fun vs H Q _ => ∃ (a r k : Addr) (oa o : Obj) (ds kvs : List (Key × V)) (doors : List (Str × DoorD)) (keys : List (Str × Str)) (zs : List Str), vs = [.ref a, .ref r, .ref k] ∧ H a = some (.frz oa (.dK ds)) ∧ Tab (doorR C H) ds doors ∧ SqT K H r (zs.map V.str) ∧
  H k = some (.frz o (.dK kvs)) ∧ Tab keyR kvs keys ∧ (doors.map (·.1)).Nodup ∧ 1 ≤ doors.length ∧ doors.length ≤ 8 ∧ (∀ p ∈ doors, isNm p.1 = true ∧ p.2.a ∈ zs ∧ p.2.b ∈ zs ∧ ∀ z, p.2.key = some z → z ∈ keys.map (·.1)) ∧ ∀ H', Same H H' → Q (.bl true) H'
theorem scDoors : FnScope ["doors", "rooms", "keys", "name"] ["doors", "rooms", "keys"] (defScope s_are_doors) := ⟨rfl, rfl, rfl, by decide +kernel, rfl, by decide +kernel, by decide +kernel⟩
theorem ok_doors {f : Addr} {fd : FuncData} (F : Fun K "are_doors" "are_doors" s_are_doors f fd) (B : Blt mg) (L : Lim mg) (GT : Fn P w K mg base 2 "is_table" ["value", "fewest", "most"] spTable) (GF : Fn P w K mg base 3 "fits_door" ["door", "rooms", "keys"] (spFitsD K C)) :
    FnOk P w K mg base CX0 4 f fd ["doors", "rooms", "keys"] (spDoors K C) := by
  obtain ⟨t8, e8⟩ := L.md
  refine F.ok scDoors (fun vs H Q E h => ?_) (fun cdv A outer s H vs Q E hr h => ?_)
  · obtain ⟨a, r, k, oa, o, ds, kvs, doors, keys, zs, rfl, _⟩ := h
    rfl
  · obtain ⟨a, r, k, oa, o, ds, kvs, doors, keys, zs, rfl, ha, td, hr', hk, tk, nd, d1, d8, each, q⟩ := h
    refine ⟨_, pss_one (ps_ret (pe_and (pe_fn GT (hr.mono (by decide)) (by rfl) (pa_cons (pv 0) (pa_cons pe_int (pa_cons (pe_glob (v := .int 8) (by rfl) e8 ⟨_, rfl⟩) pa_nil))))
      (pe_one (pe_callB (cr_all rfl) (by rfl) B.all PyProof.Rows.boot_all (pa_cons (pe_lc (own := [("name", 3)]) (g := gName 3) (tt := tYes) (te := tCall (spFitsD K C) [] E0 (tCons (tDGet (tVar 0) (tVar 3)) (tCons (tVar 1) (tCons (tVar 2) tNil)))) rfl scDoors.nd (pi_keys (pv 0)) (blkOk_by (N := ["doors", "rooms", "keys", "name"]) (sc := defScope s_are_doors) (by decide +kernel))
        (fun _ _ _ _ _ => pg_name (i := 3) scDoors.nd rfl (Or.inl rfl)) (fun _ _ _ _ _ => pts_nil) (fun _ _ _ _ _ => pe_fn GF hr (by rfl) (pa_cons (pe_dget (hu_of hr) (pv 0) (pv 3) (fun _ _ => rfl)) (pa_cons (pv 1) (pa_cons (pv 2) pa_nil))))) pa_nil))))), ?_⟩
    refine ⟨.ref a, rfl, a, oa, ds, doors.map (·.1), 1, 8, rfl, ha, td.keys, by rw [List.length_map]; omega, fun z hz => ?_, by rw [List.length_map]; omega, by rw [List.length_map]; omega, fun H1 s1 => ⟨true, rfl, iteT ?_⟩⟩
    · obtain ⟨p, hp, rfl⟩ := List.mem_map.mp hz
      exact (each p hp).1
    refine ⟨.ref a, rfl, a, oa, rfl, .inl ⟨ds, s1 _ _ ha, fun D nD => lc_m (walk_keys (kvs := ds)) doors (fun _ => .bl true) td.len nD (by omega) (fun H' s => s _ _ (s1 _ _ ha)) (fun i p x H2 H3 Kt hz s2 hY kk => ?_) (fun H2 s2 e => ?_)⟩⟩
    · obtain ⟨rfl, k0, v0, hx, rfl⟩ := hY
      obtain ⟨v, hv, _⟩ := td.get hz
      rw [hv] at hx
      cases hx
      have hp := List.mem_of_getElem? hz
      obtain ⟨u, hu, ⟨y, rfl, hy⟩⟩ := td.val (look_at nd hp)
      obtain ⟨a1, a2, a3, a4⟩ := each p hp
      have sH := s1.trans s2
      exact ⟨rfl, .ref a, rfl, .str p.1, rfl, a, .ref y, rfl, .inl ⟨ds, .inr p.1, .inr ⟨oa, sH _ _ ha⟩, rfl, hu.symm⟩, .ref r, rfl, .ref k, rfl, y, r, k, p.2, o, kvs, keys, zs, rfl, hy.same sH, Same.tup sH hr', sH _ _ hk, tk, a2, a3, a4, fun H4 s4 => kk H4 s4⟩
    · refine ⟨D, doors.map fun _ => true, rfl, .inl (.inl (by rw [List.map_map]; exact e)), ?_⟩
      rw [all_yes fun _ _ => rfl]
      exact q _ (s1.trans s2)
/-! ### fits_person, are_people -/
def spFitsP (K : PySem.W.Frag) (C : Addr) : Sp := fun vs H Q _ => ∃ (x r k : Addr) (d : PersonD) (o : Obj) (kvs : List (Key × V)) (keys : List (Str × Str)) (zs : List Str), vs = [.ref x, .ref r, .ref k] ∧ PersonAt K C H x d ∧ SqT K H r (zs.map V.str) ∧ H k = some (.frz o (.dK kvs)) ∧ Tab keyR kvs keys ∧
  d.a ∈ zs ∧ (∀ z ∈ d.carried, z ∈ keys.map (·.1)) ∧ (∀ z ∈ d.needs, z ∈ zs) ∧ (∀ z ∈ d.shuns, z ∈ zs) ∧ ∀ H', Same H H' → Q (.bl true) H'
theorem scFitsP : FnScope ["person", "rooms", "keys"] ["person", "rooms", "keys"] (defScope s_fits_person) := ⟨rfl, rfl, rfl, by decide +kernel, rfl, by decide +kernel, by decide +kernel⟩
theorem ok_fitsP {f : Addr} {fd : FuncData} (F : Fun K "fits_person" "fits_person" s_fits_person f fd) (B : Blt mg) (T : PersT P w K mg base C) (GI : Fn P w K mg base 1 "all_in" ["names", "known"] (spAllIn K)) (GD : Fn P w K mg base 1 "all_in" ["names", "known"] (spAllInD K)) :
    FnOk P w K mg base CX0 3 f fd ["person", "rooms", "keys"] (spFitsP K C) := by
  refine F.ok scFitsP (fun vs H Q E h => ?_) (fun cdv A outer s H vs Q E hr h => ?_)
  · obtain ⟨x, r, k, d, o, kvs, keys, zs, rfl, _⟩ := h
    rfl
  · obtain ⟨x, r, k, d, o, kvs, keys, zs, rfl, ⟨⟨dx, t1, t2, t3, hx, h1, h2, h3⟩, ok⟩, hr', hk, tab, m1, m2, m3, m4, q⟩ := h
    have hr1 := hr.mono (show 1 ≤ 2 by decide)
    refine ⟨_, pss_one (ps_ret (pe_and (pe_callB call_isi (by rfl) B.isi PyProof.Rows.boot_isinstance (pa_cons (pv 0) (pa_cons (pe_glob (v := .ref C) (by rfl) T.c.mgC rfl) pa_nil)))
      (pe_and (pe_cmpR (r := rIn K false) op_in_seq (pe_pr T.start hr T.c.cl (pv 0) rfl) (pv 1) rfl) (pe_and (pe_fn GD hr1 (by rfl) (pa_cons (pe_pr T.carried hr T.c.cl (pv 0) rfl) (pa_cons (pv 2) pa_nil)))
      (pe_and (pe_fn GI hr1 (by rfl) (pa_cons (pe_pr T.needs hr T.c.cl (pv 0) rfl) (pa_cons (pv 1) pa_nil))) (pe_one (pe_fn GI hr1 (by rfl) (pa_cons (pe_pr T.shuns hr T.c.cl (pv 0) rfl) (pa_cons (pv 1) pa_nil))))))))), ?_⟩
    obtain ⟨l1, l2, l3, l4⟩ := look_person d.a t1 t2 t3
    refine ⟨.ref x, rfl, .ref x, .ref C, _, _, true, rfl, .own C, .base (.ins hx T.c.cl T.c.tyc T.c.tyg T.c.tyt T.c.tym), T.c.kit, true, rfl, iteT ?_⟩
    refine ⟨.ref x, rfl, x, dx, _, rfl, hx, x, dx, _, _, rfl, hx, l1, .ref r, rfl, r, _, rfl, .inr hr', rfl, flat_strs zs, true, by rw [inV_str, decide_eq_true m1]; rfl, iteT ?_⟩
    refine ⟨.ref x, rfl, x, dx, _, rfl, hx, x, dx, _, _, rfl, hx, l2, .ref k, rfl, t1, k, d.carried, kvs, rfl, by have := ok.few1; omega, h1, ⟨o, hk⟩, fun H1 s1 => ⟨true, by rw [all_key_yes tab m2], iteT ?_⟩⟩
    have hx1 := s1 _ _ hx
    refine ⟨.ref x, rfl, x, dx, _, rfl, hx1, x, dx, _, _, rfl, hx1, l3, .ref r, rfl, t2, r, d.needs, zs, rfl, by have := ok.few2; omega, Same.tup s1 h2, .inr (Same.tup s1 hr'), fun H2 s2 => ⟨true, by rw [all_in_yes m3], iteT ?_⟩⟩
    have s12 := s1.trans s2
    have hx2 := s12 _ _ hx
    refine ⟨.ref x, rfl, x, dx, _, rfl, hx2, x, dx, _, _, rfl, hx2, l4, .ref r, rfl, t3, r, d.shuns, zs, rfl, by have := ok.few3; omega, Same.tup s12 h3, .inr (Same.tup s12 hr'), fun H3 s3 => ?_⟩
    rw [all_in_yes m4]
    exact q _ (s12.trans s3)
def spPeople (K : PySem.W.Frag) (C : Addr) : Sp := fun vs H Q _ => ∃ (a r k : Addr) (oa o : Obj) (ds kvs : List (Key × V)) (people : List (Str × PersonD)) (keys : List (Str × Str)) (zs : List Str), vs = [.ref a, .ref r, .ref k] ∧ H a = some (.frz oa (.dK ds)) ∧ Tab (persR K C H) ds people ∧ SqT K H r (zs.map V.str) ∧
  H k = some (.frz o (.dK kvs)) ∧ Tab keyR kvs keys ∧ (people.map (·.1)).Nodup ∧ 1 ≤ people.length ∧ people.length ≤ 4 ∧ (∀ p ∈ people, isNm p.1 = true ∧ p.2.a ∈ zs ∧ (∀ z ∈ p.2.carried, z ∈ keys.map (·.1)) ∧ (∀ z ∈ p.2.needs, z ∈ zs) ∧ ∀ z ∈ p.2.shuns, z ∈ zs) ∧ ∀ H', Same H H' → Q (.bl true) H'
theorem scPeople : FnScope ["people", "rooms", "keys", "name"] ["people", "rooms", "keys"] (defScope s_are_people) := ⟨rfl, rfl, rfl, by decide +kernel, rfl, by decide +kernel, by decide +kernel⟩
theorem ok_people {f : Addr} {fd : FuncData} (F : Fun K "are_people" "are_people" s_are_people f fd) (B : Blt mg) (L : Lim mg) (GT : Fn P w K mg base 2 "is_table" ["value", "fewest", "most"] spTable) (GF : Fn P w K mg base 3 "fits_person" ["person", "rooms", "keys"] (spFitsP K C)) :
    FnOk P w K mg base CX0 4 f fd ["people", "rooms", "keys"] (spPeople K C) := by
  obtain ⟨t4, e4⟩ := L.mp
  refine F.ok scPeople (fun vs H Q E h => ?_) (fun cdv A outer s H vs Q E hr h => ?_)
  · obtain ⟨a, r, k, oa, o, ds, kvs, people, keys, zs, rfl, _⟩ := h
    rfl
  · obtain ⟨a, r, k, oa, o, ds, kvs, people, keys, zs, rfl, ha, td, hr', hk, tk, nd, d1, d8, each, q⟩ := h
    refine ⟨_, pss_one (ps_ret (pe_and (pe_fn GT (hr.mono (by decide)) (by rfl) (pa_cons (pv 0) (pa_cons pe_int (pa_cons (pe_glob (v := .int 4) (by rfl) e4 ⟨_, rfl⟩) pa_nil))))
      (pe_one (pe_callB (cr_all rfl) (by rfl) B.all PyProof.Rows.boot_all (pa_cons (pe_lc (own := [("name", 3)]) (g := gName 3) (tt := tYes) (te := tCall (spFitsP K C) [] E0 (tCons (tDGet (tVar 0) (tVar 3)) (tCons (tVar 1) (tCons (tVar 2) tNil)))) rfl scPeople.nd (pi_keys (pv 0)) (blkOk_by (N := ["people", "rooms", "keys", "name"]) (sc := defScope s_are_people) (by decide +kernel))
        (fun _ _ _ _ _ => pg_name (i := 3) scPeople.nd rfl (Or.inl rfl)) (fun _ _ _ _ _ => pts_nil) (fun _ _ _ _ _ => pe_fn GF hr (by rfl) (pa_cons (pe_dget (hu_of hr) (pv 0) (pv 3) (fun _ _ => rfl)) (pa_cons (pv 1) (pa_cons (pv 2) pa_nil))))) pa_nil))))), ?_⟩
    refine ⟨.ref a, rfl, a, oa, ds, people.map (·.1), 1, 4, rfl, ha, td.keys, by rw [List.length_map]; omega, fun z hz => ?_, by rw [List.length_map]; omega, by rw [List.length_map]; omega, fun H1 s1 => ⟨true, rfl, iteT ?_⟩⟩
    · obtain ⟨p, hp, rfl⟩ := List.mem_map.mp hz
      exact (each p hp).1
    refine ⟨.ref a, rfl, a, oa, rfl, .inl ⟨ds, s1 _ _ ha, fun D nD => lc_m (walk_keys (kvs := ds)) people (fun _ => .bl true) td.len nD (by omega) (fun H' s => s _ _ (s1 _ _ ha)) (fun i p x H2 H3 Kt hz s2 hY kk => ?_) (fun H2 s2 e => ?_)⟩⟩
    · obtain ⟨rfl, k0, v0, hx, rfl⟩ := hY
      obtain ⟨v, hv, _⟩ := td.get hz
      rw [hv] at hx
      cases hx
      have hp := List.mem_of_getElem? hz
      obtain ⟨u, hu, ⟨y, rfl, hy⟩⟩ := td.val (look_at nd hp)
      obtain ⟨a1, a2, a3, a4, a5⟩ := each p hp
      have sH := s1.trans s2
      exact ⟨rfl, .ref a, rfl, .str p.1, rfl, a, .ref y, rfl, .inl ⟨ds, .inr p.1, .inr ⟨oa, sH _ _ ha⟩, rfl, hu.symm⟩, .ref r, rfl, .ref k, rfl, y, r, k, p.2, o, kvs, keys, zs, rfl, hy.same sH, Same.tup sH hr', sH _ _ hk, tk, a2, a3, a4, a5, fun H4 s4 => kk H4 s4⟩
    · refine ⟨D, people.map fun _ => true, rfl, .inl (.inl (by rw [List.map_map]; exact e)), ?_⟩
      rw [all_yes fun _ _ => rfl]
      exact q _ (s1.trans s2)
end
end Lk
set_option Elab.async false
set_option linter.all false
set_option maxRecDepth 100000
set_option maxHeartbeats 2000000
namespace Lk
open PySem PySem.Spec PyProof.Rows L2 TxS LkO LkG
/-- the keys by name -/
def sortKeys (keys : List (Str × Str)) : List (Str × Str) := (srt (keys.map (·.1))).map fun n => (n, (keys.lookup n).getD ⟨#[]⟩)
theorem sortKeys_names (keys : List (Str × Str)) : (sortKeys keys).map (·.1) = srt (keys.map (·.1)) := by
  unfold sortKeys
  rw [List.map_map]
  exact List.map_id _
theorem sortKeys_look (keys : List (Str × Str)) (z : Str) : (sortKeys keys).lookup z = keys.lookup z := by
  have go : ∀ l : List Str, (∀ y ∈ l, ∃ a, keys.lookup y = some a) → (l.map fun n => (n, (keys.lookup n).getD ⟨#[]⟩)).lookup z = if z ∈ l then keys.lookup z else none := by
    intro l
    induction l with
    | nil => intro _; rfl
    | cons y r ih =>
      intro h
      rw [List.map_cons, List.lookup_cons]
      by_cases e : z = y
      · subst e
        obtain ⟨a, ha⟩ := h z List.mem_cons_self
        rw [beq_self_eq_true, ha]
        simp
      · rw [beq_eq_false_iff_ne.mpr e]
        show List.lookup z (r.map fun n => (n, (keys.lookup n).getD ⟨#[]⟩)) = _
        rw [ih fun u hu => h u (List.mem_cons_of_mem _ hu)]
        simp [e]
  unfold sortKeys
  rw [go _ fun y hy => look_name ((mem_srt _ _).1 hy)]
  by_cases e : z ∈ srt (keys.map (·.1))
  · rw [if_pos e]
  · rw [if_neg e, look_no fun h => e ((mem_srt _ _).2 h)]
theorem sortKeys_len {keys : List (Str × Str)} (nd : (keys.map (·.1)).Nodup) : (sortKeys keys).length = keys.length := by
  have := congrArg List.length (sortKeys_names keys)
  rw [List.length_map, (srt_full _).2 nd, List.length_map] at this
  exact this
def bldFs (r k dn dd pn pd : Addr) : List (Str × V) := [("kept_rooms", .ref r), ("kept_keys", .ref k), ("door_names", .ref dn), ("kept_doors", .ref dd), ("person_names", .ref pn), ("kept_people", .ref pd)]
abbrev bldF : List Str := ["kept_rooms", "kept_keys", "door_names", "kept_doors", "person_names", "kept_people"]
theorem look_bld (r k dn dd pn pd : Addr) : List.lookup ("kept_rooms" : Str) (bldFs r k dn dd pn pd) = some (V.ref r) ∧ List.lookup ("kept_keys" : Str) (bldFs r k dn dd pn pd) = some (V.ref k) ∧ List.lookup ("door_names" : Str) (bldFs r k dn dd pn pd) = some (V.ref dn) ∧
  List.lookup ("kept_doors" : Str) (bldFs r k dn dd pn pd) = some (V.ref dd) ∧ List.lookup ("person_names" : Str) (bldFs r k dn dd pn pd) = some (V.ref pn) ∧ List.lookup ("kept_people" : Str) (bldFs r k dn dd pn pd) = some (V.ref pd) := ⟨rfl, rfl, rfl, rfl, rfl, rfl⟩
structure BldIn (K : PySem.W.Frag) (CD CP CB : Addr) (H : Hp) (x : Addr) (b : BldD) (dx r k dn dd pn pd : Addr) (ok od op : Obj) (kvs ds ps : List (Key × V)) : Prop where
  ob : H x = some (.ins CB dx (bldFs r k dn dd pn pd))
  rooms : SqT K H r (b.rooms.map V.str)
  keys : H k = some (.frz ok (.dK kvs))
  keysT : Tab keyR kvs (sortKeys b.keys)
  dn : SqT K H dn ((b.doors.map (·.1)).map V.str)
  doors : H dd = some (.frz od (.dK ds))
  doorsT : Tab (doorR CD H) ds b.doors
  pn : SqT K H pn ((b.people.map (·.1)).map V.str)
  people : H pd = some (.frz op (.dK ps))
  peopleT : Tab (persR K CP H) ps b.people
structure BldAt (K : PySem.W.Frag) (CD CP CB : Addr) (H : Hp) (x : Addr) (b : BldD) : Prop where
  ob : ∃ dx r k dn dd pn pd ok od op kvs ds ps, BldIn K CD CP CB H x b dx r k dn dd pn pd ok od op kvs ds ps
  ok : b.ok
theorem BldIn.same {K : PySem.W.Frag} {CD CP CB : Addr} {H H' : Hp} {x : Addr} {b : BldD} {dx r k dn dd pn pd : Addr} {ok od op : Obj} {kvs ds ps : List (Key × V)} (h : BldIn K CD CP CB H x b dx r k dn dd pn pd ok od op kvs ds ps) (s : Same H H') : BldIn K CD CP CB H' x b dx r k dn dd pn pd ok od op kvs ds ps :=
  ⟨s _ _ h.ob, Same.tup s h.rooms, s _ _ h.keys, h.keysT, Same.tup s h.dn, s _ _ h.doors, h.doorsT.mono (doorR.same s), Same.tup s h.pn, s _ _ h.people, h.peopleT.mono (persR.same s)⟩
theorem BldAt.same {K : PySem.W.Frag} {CD CP CB : Addr} {H H' : Hp} {x : Addr} {b : BldD} (h : BldAt K CD CP CB H x b) (s : Same H H') : BldAt K CD CP CB H' x b := by
  obtain ⟨⟨dx, r, k, dn, dd, pn, pd, ok, od, op, kvs, ds, ps, i⟩, hok⟩ := h
  exact ⟨⟨dx, r, k, dn, dd, pn, pd, ok, od, op, kvs, ds, ps, i.same s⟩, hok⟩
/-- all but x stands -/
def But (x : Addr) (H H' : Hp) : Prop := ∀ b o, H b = some o → b ≠ x → H' b = some o
theorem But.of {x : Addr} {H H' : Hp} (s : Same H H') : But x H H' := fun b o e _ => s b o e
theorem But.trans {x : Addr} {H H1 H2 : Hp} (a : But x H H1) (b : But x H1 H2) : But x H H2 := fun c o e n => b c o (a c o e n) n
theorem But.put {x : Addr} {H : Hp} {o : HO} : But x H (upd H x o) := fun c u e n => by rw [upd_ne n]; exact e
theorem But.new {x p : Addr} {H : Hp} {o : HO} (h : H p = none) : But x H (upd H p o) := But.of (same_new h)
/-- an empty instance is none of these -/
theorem But.tup {K : PySem.W.Frag} {x a C dx : Addr} {fs : List (Str × V)} {H H' : Hp} {xs : List V} (s : But x H H') (hx : H x = some (.ins C dx fs)) (h : SqT K H a xs) : SqT K H' a xs := by
  rcases h with (h | ⟨o, h⟩) | h
  · exact .inl (.inl (s _ _ h (ne_of h hx (by intro z; cases z))))
  · exact .inl (.inr ⟨o, s _ _ h (ne_of h hx (by intro z; cases z))⟩)
  · exact .inr h
theorem But.frz {x a C dx : Addr} {fs : List (Str × V)} {H H' : Hp} {o : Obj} {u : HO} (s : But x H H') (hx : H x = some (.ins C dx fs)) (h : H a = some (.frz o u)) : H' a = some (.frz o u) := s _ _ h (ne_of h hx (by intro z; cases z))
theorem But.door {x C CB dx y : Addr} {H H' : Hp} {d : DoorD} (s : But x H H') (hx : H x = some (.ins CB dx [])) (h : DoorAt C H y d) : DoorAt C H' y d := by
  obtain ⟨⟨dy, e⟩, ok⟩ := h
  exact ⟨⟨dy, s _ _ e (ne_of e hx (by intro z; cases z))⟩, ok⟩
theorem But.pers {K : PySem.W.Frag} {x C CB dx y : Addr} {H H' : Hp} {d : PersonD} (s : But x H H') (hx : H x = some (.ins CB dx [])) (h : PersonAt K C H y d) : PersonAt K C H' y d := by
  obtain ⟨⟨dy, t1, t2, t3, e, h1, h2, h3⟩, ok⟩ := h
  exact ⟨⟨dy, t1, t2, t3, s _ _ e (ne_of e hx (by intro z; cases z)), s.tup hx h1, s.tup hx h2, s.tup hx h3⟩, ok⟩
section
variable {P : Program} {w : World} {K : PySem.W.Frag} {mg : Str → Option Value} {base : Heap} {CD CP CB : Addr}
def spBld (K : PySem.W.Frag) (CD CP CB : Addr) : Sp := fun vs H Q _ => ∃ (x dx r k a p : Addr) (b : BldD) (ok oa op : Obj) (kvs ds ps : List (Key × V)), vs = [.ref x, .ref r, .ref k, .ref a, .ref p] ∧ H x = some (.ins CB dx []) ∧ b.ok ∧ SqT K H r (b.rooms.map V.str) ∧ H k = some (.frz ok (.dK kvs)) ∧ Tab keyR kvs b.keys ∧
  H a = some (.frz oa (.dK ds)) ∧ Tab (doorR CD H) ds b.doors ∧ H p = some (.frz op (.dK ps)) ∧ Tab (persR K CP H) ps b.people ∧ ∀ H', But x H H' → BldAt K CD CP CB H' x b → Q .non H'
theorem scBld : FnScope ["self", "rooms", "keys", "doors", "people", "name"] ["self", "rooms", "keys", "doors", "people"] (defScope s_Building___init__) := ⟨rfl, rfl, rfl, by decide +kernel, rfl, by decide +kernel, by decide +kernel⟩
theorem ok_bld {f : Addr} {fd : FuncData} (F : Fun K "__init__" "Building.__init__" s_Building___init__ f fd) (B : Blt mg) (T : OwnC K mg CB "Building" bldF) (GR : Fn P w K mg base 3 "are_rooms" ["rooms"] (spRooms K)) (GK : Fn P w K mg base 3 "are_keys" ["keys", "rooms"] (spKeys K))
    (GD : Fn P w K mg base 4 "are_doors" ["doors", "rooms", "keys"] (spDoors K CD)) (GP : Fn P w K mg base 4 "are_people" ["people", "rooms", "keys"] (spPeople K CP)) : FnOk P w K mg base CX0 5 f fd ["self", "rooms", "keys", "doors", "people"] (spBld K CD CP CB) := by
  refine F.ok scBld (fun vs H Q E h => ?_) (fun cdv A outer s H vs Q E hr h => ?_)
  · obtain ⟨x, dx, r, k, a, p, b, ok, oa, op, kvs, ds, ps, rfl, _⟩ := h
    rfl
  · obtain ⟨x, dx, r, k, a, p, b, ok, oa, op, kvs, ds, ps, rfl, hx, bok, hr', hk, tk, ha, td, hp, tp, q⟩ := h
    have hr3 := hr.mono (show 3 ≤ 4 by decide)
    refine ⟨_, pss_cons (ps_if (pt_not (pt_val (pe_fn GR hr3 (by rfl) (pa_cons (pv 1) pa_nil)))) (pss_one ps_never) pss_nil)
      (pss_cons (ps_if (pt_not (pt_val (pe_fn GK hr3 (by rfl) (pa_cons (pv 2) (pa_cons (pv 1) pa_nil))))) (pss_one ps_never) pss_nil)
      (pss_cons (ps_if (pt_not (pt_val (pe_fn GD hr (by rfl) (pa_cons (pv 3) (pa_cons (pv 1) (pa_cons (pv 2) pa_nil)))))) (pss_one ps_never) pss_nil)
      (pss_cons (ps_if (pt_not (pt_val (pe_fn GP hr (by rfl) (pa_cons (pv 4) (pa_cons (pv 1) (pa_cons (pv 2) pa_nil)))))) (pss_one ps_never) pss_nil)
      (pss_cons (ps_fld (pv 0) (pv 1) rfl)
      (pss_cons (ps_fld (pv 0) (pe_frz (pe_dc (own := [("name", 5)]) (g := gName 5) (tt := tYes) (tk := tVar 5) (tv := tDGet (tVar 2) (tVar 5)) rfl scBld.nd (pi_list (pe_callB (call_sortedD rfl) (by rfl) B.srt PyProof.Rows.boot_sorted (pa_cons (pv 2) pa_nil))) (blkOk_by (N := ["self", "rooms", "keys", "doors", "people", "name"]) (sc := defScope s_Building___init__) (by decide +kernel))
        (fun _ _ _ _ _ => pg_name (i := 5) scBld.nd rfl (Or.inl rfl)) (fun _ _ _ _ _ => pts_nil) (fun _ _ _ _ _ => pv 5) (fun _ _ _ _ _ => pe_dget (hu_of hr) (pv 2) (pv 5) (fun _ _ => rfl)))) rfl)
      (pss_cons (ps_fld (pv 0) (pe_callTy (cr_tupleD rfl) (by rfl) B.tup PyProof.Rows.boot_tuple (pa_cons (pv 3) pa_nil)) rfl)
      (pss_cons (ps_fld (pv 0) (pe_frz (pe_callTy call_dictD (by rfl) B.dct PyProof.Rows.boot_dict (pa_cons (pv 3) pa_nil))) rfl)
      (pss_cons (ps_fld (pv 0) (pe_callTy (cr_tupleD rfl) (by rfl) B.tup PyProof.Rows.boot_tuple (pa_cons (pv 4) pa_nil)) rfl)
      (pss_one (ps_fld (pv 0) (pe_frz (pe_callTy call_dictD (by rfl) B.dct PyProof.Rows.boot_dict (pa_cons (pv 4) pa_nil))) rfl)))))))))), ?_⟩
    have nmz : ∀ z ∈ b.rooms, isNm z = true := are_nm bok.rooms
    refine ⟨.ref r, rfl, r, b.rooms, rfl, hr', bok.rooms, bok.r2, bok.r6, fun H1 s1 => ⟨true, rfl, iteF ?_⟩⟩
    refine ⟨.ref k, rfl, .ref r, rfl, k, r, ok, kvs, b.keys, b.rooms, rfl, s1 _ _ hk, tk, Same.tup s1 hr', bok.knd, bok.k3, nmz, bok.keys, fun H2 s2 => ⟨true, rfl, iteF ?_⟩⟩
    have s12 := s1.trans s2
    refine ⟨.ref a, rfl, .ref r, rfl, .ref k, rfl, a, r, k, oa, ok, ds, kvs, b.doors, b.keys, b.rooms, rfl, s12 _ _ ha, td.mono (doorR.same s12), Same.tup s12 hr', s12 _ _ hk, tk, bok.dnd, bok.d1, bok.d8, fun u hu => ?_, fun H3 s3 => ⟨true, rfl, iteF ?_⟩⟩
    · obtain ⟨z1, z2, z3, z4, z5⟩ := bok.doors u hu
      exact ⟨z1, z3, z4, z5⟩
    have s13 := s12.trans s3
    refine ⟨.ref p, rfl, .ref r, rfl, .ref k, rfl, p, r, k, op, ok, ps, kvs, b.people, b.keys, b.rooms, rfl, s13 _ _ hp, tp.mono (persR.same s13), Same.tup s13 hr', s13 _ _ hk, tk, bok.pnd, bok.p1, bok.p4, fun u hu => ?_, fun H4 s4 => ⟨true, rfl, iteF ?_⟩⟩
    · obtain ⟨z1, z2, z3, z4, z5, z6⟩ := bok.people u hu
      exact ⟨z1, z3, z4, z5, z6⟩
    have s14 := s13.trans s4
    have nK := T.nK
    have b0 : But x H H4 := But.of s14
    refine ⟨.ref r, rfl, .ref x, rfl, x, CB, dx, [], rfl, s14 _ _ hx, T.cl, nK _ (by simp), by show 0 < 1000; decide, ?_⟩
    generalize e5 : upd H4 x (.ins CB dx (putF "kept_rooms" (.ref r) [])) = H5
    have hx5 : H5 x = some (.ins CB dx [("kept_rooms", .ref r)]) := by rw [← e5]; exact upd_same
    have b5 : But x H H5 := by rw [← e5]; exact b0.trans But.put
    -- the keys
    refine ⟨.ref k, rfl, k, kvs, b.keys.map (·.1), rfl, .inr ⟨ok, b5.frz hx hk⟩, tk.keys, by rw [List.length_map]; have := bok.k3; omega, fun ys l pm so nl => ?_⟩
    have ey : ys = srt (b.keys.map (·.1)) := srt_of (asc_of so (pm.nodup_iff.mpr bok.knd)) fun z => pm.mem_iff
    subst ey
    generalize e6 : upd H5 l (.lst ((srt (b.keys.map (·.1))).map V.str)) = H6
    have s56 : Same H5 H6 := by rw [← e6]; exact same_new nl
    have hl6 : H6 l = some (.lst ((srt (b.keys.map (·.1))).map V.str)) := by rw [← e6]; exact upd_same
    have b6 : But x H H6 := b5.trans (But.of s56)
    have hk6 : H6 k = some (.frz ok (.dK kvs)) := b6.frz hx hk
    refine ⟨l, rfl, ⟨_, .inl (.inl hl6)⟩, fun D nD => dc_m (walk_list (xs := (srt (b.keys.map (·.1))).map V.str)) (sortKeys b.keys) (fun q => .inr q.1) (fun q => .str q.2) (by unfold sortKeys; rw [List.length_map, List.length_map]) ?_ nD ?_ (fun H' s => .inl (.inl (s _ _ hl6))) (fun i u v H7 H8 Kt hz s7 hY kk => ?_) (fun H7 s7 eD => ?_)⟩
    · have e : (sortKeys b.keys).map (fun q => (Sum.inr q.1 : Key)) = ((sortKeys b.keys).map (·.1)).map Sum.inr := by rw [List.map_map]; rfl
      rw [e, sortKeys_names]
      exact List.Pairwise.map Sum.inr (fun _ _ h e => h (Sum.inr.inj e)) (nodup_asc (asc_srt (b.keys.map (·.1))))
    · rw [sortKeys_len bok.knd]
      have := bok.k3
      omega
    · obtain ⟨rfl, hx⟩ := hY
      have en : ((sortKeys b.keys).map (·.1))[i]? = some u.1 := by rw [List.getElem?_map, hz]; rfl
      rw [sortKeys_names] at en
      rw [List.getElem?_map, en] at hx
      cases hx
      have hm : u.1 ∈ srt (b.keys.map (·.1)) := List.mem_of_getElem? en
      obtain ⟨w0, hw⟩ := look_name ((mem_srt _ _).1 hm)
      have e2 : u.2 = w0 := by
        have l2 := look_at (l := sortKeys b.keys) (p := u) (by rw [sortKeys_names]; exact nodup_asc (asc_srt _)) (List.mem_of_getElem? hz)
        rw [sortKeys_look, hw] at l2
        exact (Option.some.inj l2).symm
      obtain ⟨v, hv, hr3⟩ := tk.val hw
      have ev : v = .str w0 := hr3
      subst ev
      refine ⟨rfl, .str u.1, rfl, .ref k, rfl, .str u.1, rfl, k, .str w0, rfl, .inl ⟨kvs, .inr u.1, .inr ⟨ok, s7 _ _ hk6⟩, rfl, hv.symm⟩, ?_⟩
      rw [← e2]
      exact kk _ (Same.refl _)
    · refine ⟨D, _, rfl, eD, trivial, fun ok2 => ?_⟩
      have nHD : H D = none := by
        cases z : H D with
        | none => rfl
        | some o =>
          by_cases ex : D = x
          · subst ex
            rw [s56 _ _ hx5] at nD
            cases nD
          · have := b6 D o z ex
            rw [nD] at this
            cases this
      generalize e8 : upd H7 D (.frz ok2 (.dK ((sortKeys b.keys).map fun q => (Sum.inr q.1, V.str q.2)))) = H8
      have b7 : But x H H7 := b6.trans (But.of s7)
      have b8 : But x H H8 := by
        rw [← e8]
        intro c o hc nc
        rw [upd_ne (ne_of_none hc nHD)]
        exact b7 c o hc nc
      have nxD : x ≠ D := fun z => by
        rw [← z, s56 _ _ hx5] at nD
        cases nD
      have hx8 : H8 x = some (.ins CB dx [("kept_rooms", .ref r)]) := by
        rw [← e8, upd_ne nxD]
        exact s7 _ _ (s56 _ _ hx5)
      have hD8 : H8 D = some (.frz ok2 (.dK ((sortKeys b.keys).map fun q => (Sum.inr q.1, V.str q.2)))) := by rw [← e8]; exact upd_same
      refine ⟨.ref x, rfl, x, CB, dx, _, rfl, hx8, T.cl, nK _ (by simp), by show 1 < 1000; decide, ?_⟩
      generalize e9 : upd H8 x (.ins CB dx (putF "kept_keys" (.ref D) [("kept_rooms", .ref r)])) = H9
      have hx9 : H9 x = some (.ins CB dx [("kept_rooms", .ref r), ("kept_keys", .ref D)]) := by rw [← e9]; exact upd_same
      have hD9 : H9 D = some (.frz ok2 (.dK ((sortKeys b.keys).map fun q => (Sum.inr q.1, V.str q.2)))) := by rw [← e9, upd_ne nxD.symm]; exact hD8
      have b9 : But x H H9 := by rw [← e9]; exact b8.trans But.put
      -- the doors
      refine ⟨.ref a, rfl, a, ds, rfl, .inr ⟨oa, b9.frz hx ha⟩, fun dn ndn => ?_⟩
      rw [td.kV]
      have n1 : x ≠ dn := ne_of_none hx9 ndn
      refine ⟨.ref x, rfl, x, CB, dx, _, rfl, (by rw [upd_ne n1]; exact hx9), T.cl, nK _ (by simp), by show 2 < 1000; decide, ?_⟩
      generalize e10 : upd (upd H9 dn (.tup ((b.doors.map (·.1)).map V.str))) x (.ins CB dx (putF "door_names" (.ref dn) [("kept_rooms", .ref r), ("kept_keys", .ref D)])) = H10
      have hx10 : H10 x = some (.ins CB dx [("kept_rooms", .ref r), ("kept_keys", .ref D), ("door_names", .ref dn)]) := by rw [← e10]; exact upd_same
      have c10 : But x H9 H10 := by rw [← e10]; exact (But.new ndn).trans But.put
      have hdn10 : H10 dn = some (.tup ((b.doors.map (·.1)).map V.str)) := by rw [← e10, upd_ne n1.symm]; exact upd_same
      have b10 := b9.trans c10
      refine ⟨.ref a, rfl, a, ds, rfl, .inr ⟨oa, b10.frz hx ha⟩, fun dd ndd => ⟨dd, _, rfl, upd_same, trivial, fun od2 => ?_⟩⟩
      rw [upd_upd]
      have n2 : x ≠ dd := ne_of_none hx10 ndd
      refine ⟨.ref x, rfl, x, CB, dx, _, rfl, (by rw [upd_ne n2]; exact hx10), T.cl, nK _ (by simp), by show 3 < 1000; decide, ?_⟩
      generalize e11 : upd (upd H10 dd (.frz od2 (.dK ds))) x (.ins CB dx (putF "kept_doors" (.ref dd) [("kept_rooms", .ref r), ("kept_keys", .ref D), ("door_names", .ref dn)])) = H11
      have hx11 : H11 x = some (.ins CB dx [("kept_rooms", .ref r), ("kept_keys", .ref D), ("door_names", .ref dn), ("kept_doors", .ref dd)]) := by rw [← e11]; exact upd_same
      have c11 : But x H10 H11 := by rw [← e11]; exact (But.new ndd).trans But.put
      have hdd11 : H11 dd = some (.frz od2 (.dK ds)) := by rw [← e11, upd_ne n2.symm]; exact upd_same
      have b11 := b10.trans c11
      -- the people
      refine ⟨.ref p, rfl, p, ps, rfl, .inr ⟨op, b11.frz hx hp⟩, fun pn npn => ?_⟩
      rw [tp.kV]
      have n3 : x ≠ pn := ne_of_none hx11 npn
      refine ⟨.ref x, rfl, x, CB, dx, _, rfl, (by rw [upd_ne n3]; exact hx11), T.cl, nK _ (by simp), by show 4 < 1000; decide, ?_⟩
      generalize e12 : upd (upd H11 pn (.tup ((b.people.map (·.1)).map V.str))) x (.ins CB dx (putF "person_names" (.ref pn) [("kept_rooms", .ref r), ("kept_keys", .ref D), ("door_names", .ref dn), ("kept_doors", .ref dd)])) = H12
      have hx12 : H12 x = some (.ins CB dx [("kept_rooms", .ref r), ("kept_keys", .ref D), ("door_names", .ref dn), ("kept_doors", .ref dd), ("person_names", .ref pn)]) := by rw [← e12]; exact upd_same
      have c12 : But x H11 H12 := by rw [← e12]; exact (But.new npn).trans But.put
      have hpn12 : H12 pn = some (.tup ((b.people.map (·.1)).map V.str)) := by rw [← e12, upd_ne n3.symm]; exact upd_same
      have b12 := b11.trans c12
      refine ⟨.ref p, rfl, p, ps, rfl, .inr ⟨op, b12.frz hx hp⟩, fun pd npd => ⟨pd, _, rfl, upd_same, trivial, fun op2 => ?_⟩⟩
      rw [upd_upd]
      have n4 : x ≠ pd := ne_of_none hx12 npd
      refine ⟨.ref x, rfl, x, CB, dx, _, rfl, (by rw [upd_ne n4]; exact hx12), T.cl, nK _ (by simp), by show 5 < 1000; decide, ?_⟩
      generalize e13 : upd (upd H12 pd (.frz op2 (.dK ps))) x (.ins CB dx (putF "kept_people" (.ref pd) [("kept_rooms", .ref r), ("kept_keys", .ref D), ("door_names", .ref dn), ("kept_doors", .ref dd), ("person_names", .ref pn)])) = H13
      have hx13 : H13 x = some (.ins CB dx (bldFs r D dn dd pn pd)) := by rw [← e13]; exact upd_same
      have c13 : But x H12 H13 := by rw [← e13]; exact (But.new npd).trans But.put
      have hpd13 : H13 pd = some (.frz op2 (.dK ps)) := by rw [← e13, upd_ne n4.symm]; exact upd_same
      have b13 := b12.trans c13
      refine q H13 b13 ⟨⟨dx, r, D, dn, dd, pn, pd, ok2, od2, op2, (sortKeys b.keys).map fun q => (Sum.inr q.1, V.str q.2), ds, ps, hx13, b13.tup hx hr', ?_, ?_, ?_, ?_, ?_, ?_, hpd13, ?_⟩, bok⟩
      · exact c13 _ _ (c12 _ _ (c11 _ _ (c10 _ _ hD9 nxD.symm) nxD.symm) nxD.symm) nxD.symm
      · have go : ∀ l : List (Str × Str), Tab keyR (l.map fun q => ((Sum.inr q.1 : Key), V.str q.2)) l := fun l => by
          induction l with
          | nil => exact .nil
          | cons q r ih => exact .cons ⟨rfl, rfl⟩ ih
        exact go _
      · exact .inl (.inl (c13 _ _ (c12 _ _ (c11 _ _ hdn10 n1.symm) n1.symm) n1.symm))
      · exact c13 _ _ (c12 _ _ hdd11 n2.symm) n2.symm
      · exact td.mono fun v d ⟨y, ev, hy⟩ => ⟨y, ev, b13.door hx hy⟩
      · exact .inl (.inl (c13 _ _ hpn12 n3.symm))
      · exact tp.mono fun v d ⟨y, ev, hy⟩ => ⟨y, ev, b13.pers hx hy⟩
end
end Lk
set_option Elab.async false
set_option linter.all false
set_option maxRecDepth 100000
set_option maxHeartbeats 2000000
namespace Lk
open PySem PySem.Spec PyProof.Rows L2 TxS LkO LkG
theorem nm_of {b : BldD} (ok : b.ok) {n : Str} {d : DoorD} (h : b.doors.lookup n = some d) : isNm n = true := (ok.doors _ (look_mem h)).1
section
variable {P : Program} {w : World} {K : PySem.W.Frag} {mg : Str → Option Value} {base : Heap} {CD CP CB CL : Addr}
/-! ### properties -/
def spKeyRooms (K : PySem.W.Frag) (CD CP CB : Addr) : Sp := fun vs H Q _ => ∃ (x : Addr) (b : BldD), vs = [.ref x] ∧ BldAt K CD CP CB H x b ∧ ∀ p kvs, Tab keyR kvs (sortKeys b.keys) → H p = none → Q (.ref p) (upd H p (.dK kvs))
theorem scKR : FnScope ["self"] ["self"] (defScope s_Building_key_rooms) := ⟨rfl, rfl, rfl, by decide +kernel, rfl, by decide +kernel, by decide +kernel⟩
theorem ok_keyRooms {f : Addr} {fd : FuncData} {k : Nat} (F : Fun K "key_rooms" "Building.key_rooms" s_Building_key_rooms f fd) (B : Blt mg) (T : OwnC K mg CB "Building" bldF) : FnOk P w K mg base CX0 (k + 1) f fd ["self"] (spKeyRooms K CD CP CB) := by
  refine F.ok scKR (fun vs H Q E h => ?_) (fun cdv A outer s H vs Q E hr h => ?_)
  · obtain ⟨x, b, rfl, _⟩ := h
    rfl
  · obtain ⟨x, b, rfl, ⟨⟨dx, r, k, dn, dd, pn, pd, ok, od, op, kvs, ds, ps, I⟩, bok⟩, q⟩ := h
    refine ⟨_, pss_one (ps_ret (pe_callTy call_dictD (by rfl) B.dct PyProof.Rows.boot_dict (pa_cons (pe_fld (pv 0) rfl) pa_nil))), ?_⟩
    exact ⟨.ref x, rfl, x, CB, dx, _, _, rfl, I.ob, T.cl, T.nK _ (by simp), (look_bld r k dn dd pn pd).2.1, k, kvs, rfl, .inr ⟨ok, I.keys⟩, fun p np => q p kvs I.keysT np⟩
def spBDoors (K : PySem.W.Frag) (CD CP CB : Addr) : Sp := fun vs H Q _ => ∃ (x : Addr) (b : BldD), vs = [.ref x] ∧ BldAt K CD CP CB H x b ∧ ∀ p, H p = none → Q (.ref p) (upd H p (.lst ((b.doors.map (·.1)).map V.str)))
theorem scBD : FnScope ["self"] ["self"] (defScope s_Building_doors) := ⟨rfl, rfl, rfl, by decide +kernel, rfl, by decide +kernel, by decide +kernel⟩
theorem ok_bDoors {f : Addr} {fd : FuncData} {k : Nat} (F : Fun K "doors" "Building.doors" s_Building_doors f fd) (B : Blt mg) (T : OwnC K mg CB "Building" bldF) : FnOk P w K mg base CX0 (k + 1) f fd ["self"] (spBDoors K CD CP CB) := by
  refine F.ok scBD (fun vs H Q E h => ?_) (fun cdv A outer s H vs Q E hr h => ?_)
  · obtain ⟨x, b, rfl, _⟩ := h
    rfl
  · obtain ⟨x, b, rfl, ⟨⟨dx, r, k, dn, dd, pn, pd, ok, od, op, kvs, ds, ps, I⟩, bok⟩, q⟩ := h
    refine ⟨_, pss_one (ps_ret (pe_callTy call_list_of (by rfl) B.lst PyProof.Rows.boot_list (pa_cons (pe_fld (pv 0) rfl) pa_nil))), ?_⟩
    exact ⟨.ref x, rfl, x, CB, dx, _, _, rfl, I.ob, T.cl, T.nK _ (by simp), (look_bld r k dn dd pn pd).2.2.1, dn, _, rfl, .inr I.dn, q⟩
def spBPeople (K : PySem.W.Frag) (CD CP CB : Addr) : Sp := fun vs H Q _ => ∃ (x : Addr) (b : BldD), vs = [.ref x] ∧ BldAt K CD CP CB H x b ∧ ∀ p, H p = none → Q (.ref p) (upd H p (.lst ((b.people.map (·.1)).map V.str)))
theorem scBP : FnScope ["self"] ["self"] (defScope s_Building_people) := ⟨rfl, rfl, rfl, by decide +kernel, rfl, by decide +kernel, by decide +kernel⟩
theorem ok_bPeople {f : Addr} {fd : FuncData} {k : Nat} (F : Fun K "people" "Building.people" s_Building_people f fd) (B : Blt mg) (T : OwnC K mg CB "Building" bldF) : FnOk P w K mg base CX0 (k + 1) f fd ["self"] (spBPeople K CD CP CB) := by
  refine F.ok scBP (fun vs H Q E h => ?_) (fun cdv A outer s H vs Q E hr h => ?_)
  · obtain ⟨x, b, rfl, _⟩ := h
    rfl
  · obtain ⟨x, b, rfl, ⟨⟨dx, r, k, dn, dd, pn, pd, ok, od, op, kvs, ds, ps, I⟩, bok⟩, q⟩ := h
    refine ⟨_, pss_one (ps_ret (pe_callTy call_list_of (by rfl) B.lst PyProof.Rows.boot_list (pa_cons (pe_fld (pv 0) rfl) pa_nil))), ?_⟩
    exact ⟨.ref x, rfl, x, CB, dx, _, _, rfl, I.ob, T.cl, T.nK _ (by simp), (look_bld r k dn dd pn pd).2.2.2.2.1, pn, _, rfl, .inr I.pn, q⟩
/-! ### door, person -/
def spDoorOf (K : PySem.W.Frag) (CD CP CB : Addr) : Sp := fun vs H Q _ => ∃ (x : Addr) (b : BldD) (n : Str) (d : DoorD), vs = [.ref x, .str n] ∧ BldAt K CD CP CB H x b ∧ b.doors.lookup n = some d ∧ ∀ H' y, Same H H' → DoorAt CD H' y d → Q (.ref y) H'
theorem scDoorOf : FnScope ["self", "name"] ["self", "name"] (defScope s_Building_door) := ⟨rfl, rfl, rfl, by decide +kernel, rfl, by decide +kernel, by decide +kernel⟩
theorem ok_doorOf {f : Addr} {fd : FuncData} (F : Fun K "door" "Building.door" s_Building_door f fd) (T : OwnC K mg CB "Building" bldF) (GN : Fn P w K mg base 1 "is_name" ["value"] spName) : FnOk P w K mg base CX0 2 f fd ["self", "name"] (spDoorOf K CD CP CB) := by
  refine F.ok scDoorOf (fun vs H Q E h => ?_) (fun cdv A outer s H vs Q E hr h => ?_)
  · obtain ⟨x, b, n, d, rfl, _⟩ := h
    rfl
  · obtain ⟨x, b, n, d, rfl, ⟨⟨dx, r, k, dn, dd, pn, pd, ok, od, op, kvs, ds, ps, I⟩, bok⟩, hn, q⟩ := h
    refine ⟨_, pss_cons (ps_if (pw_or (pt_not (pt_val (pe_fn GN hr (by rfl) (pa_cons (pv 1) pa_nil)))) (pw_or1 (pt_cmp (pc_dnotin (hu_of hr) (pv 1) (pe_fld (pv 0) rfl)) rfl))).pt (pss_one ps_never) pss_nil) (pss_one (ps_ret (pe_dget (hu_of hr) (pe_fld (pv 0) rfl) (pv 1) (fun _ _ => rfl)))), ?_⟩
    have nm := nm_of bok hn
    obtain ⟨v, hv, ⟨y, rfl, hy⟩⟩ := I.doorsT.val hn
    have l4 := (look_bld r k dn dd pn pd).2.2.2.1
    refine ⟨.str n, rfl, n, rfl, nm_line nm, fun H1 s1 => ⟨true, by rw [nm], iteF ?_⟩⟩
    refine ⟨.str n, rfl, .ref x, rfl, x, CB, dx, _, _, rfl, s1 _ _ I.ob, T.cl, T.nK _ (by simp), l4, dd, _, rfl, .inl ⟨ds, .inr n, .inr ⟨od, s1 _ _ I.doors⟩, rfl, rfl⟩, false, by rw [hv]; rfl, iteF ?_⟩
    exact ⟨.ref x, rfl, x, CB, dx, _, _, rfl, s1 _ _ I.ob, T.cl, T.nK _ (by simp), l4, .str n, rfl, dd, .ref y, rfl, .inl ⟨ds, .inr n, .inr ⟨od, s1 _ _ I.doors⟩, rfl, hv.symm⟩, q H1 y s1 (hy.same s1)⟩
def spPersOf (K : PySem.W.Frag) (CD CP CB : Addr) : Sp := fun vs H Q _ => ∃ (x : Addr) (b : BldD) (n : Str) (d : PersonD), vs = [.ref x, .str n] ∧ BldAt K CD CP CB H x b ∧ b.people.lookup n = some d ∧ ∀ H' y, Same H H' → PersonAt K CP H' y d → Q (.ref y) H'
theorem scPersOf : FnScope ["self", "name"] ["self", "name"] (defScope s_Building_person) := ⟨rfl, rfl, rfl, by decide +kernel, rfl, by decide +kernel, by decide +kernel⟩
theorem ok_persOf {f : Addr} {fd : FuncData} (F : Fun K "person" "Building.person" s_Building_person f fd) (T : OwnC K mg CB "Building" bldF) (GN : Fn P w K mg base 1 "is_name" ["value"] spName) : FnOk P w K mg base CX0 2 f fd ["self", "name"] (spPersOf K CD CP CB) := by
  refine F.ok scPersOf (fun vs H Q E h => ?_) (fun cdv A outer s H vs Q E hr h => ?_)
  · obtain ⟨x, b, n, d, rfl, _⟩ := h
    rfl
  · obtain ⟨x, b, n, d, rfl, ⟨⟨dx, r, k, dn, dd, pn, pd, ok, od, op, kvs, ds, ps, I⟩, bok⟩, hn, q⟩ := h
    refine ⟨_, pss_cons (ps_if (pw_or (pt_not (pt_val (pe_fn GN hr (by rfl) (pa_cons (pv 1) pa_nil)))) (pw_or1 (pt_cmp (pc_dnotin (hu_of hr) (pv 1) (pe_fld (pv 0) rfl)) rfl))).pt (pss_one ps_never) pss_nil) (pss_one (ps_ret (pe_dget (hu_of hr) (pe_fld (pv 0) rfl) (pv 1) (fun _ _ => rfl)))), ?_⟩
    have nm : isNm n = true := (bok.people _ (look_mem hn)).1
    obtain ⟨v, hv, ⟨y, rfl, hy⟩⟩ := I.peopleT.val hn
    have l4 := (look_bld r k dn dd pn pd).2.2.2.2.2
    refine ⟨.str n, rfl, n, rfl, nm_line nm, fun H1 s1 => ⟨true, by rw [nm], iteF ?_⟩⟩
    refine ⟨.str n, rfl, .ref x, rfl, x, CB, dx, _, _, rfl, s1 _ _ I.ob, T.cl, T.nK _ (by simp), l4, pd, _, rfl, .inl ⟨ps, .inr n, .inr ⟨op, s1 _ _ I.people⟩, rfl, rfl⟩, false, by rw [hv]; rfl, iteF ?_⟩
    exact ⟨.ref x, rfl, x, CB, dx, _, _, rfl, s1 _ _ I.ob, T.cl, T.nK _ (by simp), l4, .str n, rfl, pd, .ref y, rfl, .inl ⟨ps, .inr n, .inr ⟨op, s1 _ _ I.people⟩, rfl, hv.symm⟩, q H1 y s1 (hy.same s1)⟩
/-! ### check_locks -/
def spChk (K : PySem.W.Frag) (CD CP CB CL : Addr) : Sp := fun vs H Q _ => ∃ (x y : Addr) (b : BldD) (ls : List Str), vs = [.ref x, .ref y] ∧ BldAt K CD CP CB H x b ∧ LkAt CL H y ls ∧ ls.length ≤ 1000 ∧ (∀ z ∈ ls, z ∈ b.doors.map (·.1)) ∧ ∀ H', Same H H' → Q .non H'
theorem scChk : FnScope ["building", "locks"] ["building", "locks"] (defScope s_check_locks) := ⟨rfl, rfl, rfl, by decide +kernel, rfl, by decide +kernel, by decide +kernel⟩
theorem ok_chk {f : Addr} {fd : FuncData} (F : Fun K "check_locks" "check_locks" s_check_locks f fd) (B : Blt mg) (TL : LkC K mg CL) (T : OwnC K mg CB "Building" bldF) (GL : Fn P w K mg base 1 "all_in" ["names", "known"] (spAllInL K)) (PN : Pr P w K mg base 1 CL "names" (spNames CL)) (PD : Pr P w K mg base 1 CB "doors" (spBDoors K CD CP CB)) :
    FnOk P w K mg base CX0 3 f fd ["building", "locks"] (spChk K CD CP CB CL) := by
  refine F.ok scChk (fun vs H Q E h => ?_) (fun cdv A outer s H vs Q E hr h => ?_)
  · obtain ⟨x, y, b, ls, rfl, _⟩ := h
    rfl
  · obtain ⟨x, y, b, ls, rfl, hb, hl, few, sub, q⟩ := h
    obtain ⟨⟨dx, r, k, dn, dd, pn, pd, ok, od, op, kvs, ds, ps, I⟩, bok⟩ := id hb
    obtain ⟨⟨dy, t, h1, h2⟩, asc, nm⟩ := id hl
    refine ⟨_, pss_cons (ps_if (pt_not (pt_val (pe_callB call_isi (by rfl) B.isi PyProof.Rows.boot_isinstance (pa_cons (pv 1) (pa_cons (pe_glob (v := .ref CL) (by rfl) TL.mgC rfl) pa_nil))))) (pss_one ps_never) pss_nil)
      (pss_one (ps_if (pt_not (pt_val (pe_fn GL (hr.mono (by decide)) (by rfl) (pa_cons (pe_pr PN hr TL.cl (pv 1) rfl) (pa_cons (pe_pr PD hr T.cl (pv 0) rfl) pa_nil))))) (pss_one ps_never) pss_nil)), ?_⟩
    refine ⟨.ref y, rfl, .ref y, .ref CL, _, _, true, rfl, .own CL, .base (.ins h1 TL.cl TL.tyc TL.tyg TL.tyt TL.tym), TL.kit, true, rfl, iteF ?_⟩
    refine ⟨.ref y, rfl, y, dy, _, rfl, h1, y, ls, rfl, hl, fun l nl => ?_⟩
    have s1 := same_new (o := .lst (ls.map V.str)) nl
    refine ⟨.ref x, rfl, x, dx, _, rfl, s1 _ _ I.ob, x, b, rfl, hb.same s1, fun m nm' => ?_⟩
    have s2 := same_new (o := .lst ((b.doors.map (·.1)).map V.str)) nm'
    refine ⟨l, m, ls, b.doors.map (·.1), rfl, few, .inl (.inl (s2 _ _ upd_same)), .inl (.inl (.inl upd_same)), fun H3 s3 => ⟨true, by rw [all_in_yes sub], iteF ?_⟩⟩
    exact q _ (s1.trans (s2.trans s3))
/-! ### keys_held -/
def heldOf (b : BldD) (p : PersonD) (rooms : List Str) : List Str := p.carried ++ ((sortKeys b.keys).filter fun q => decide (q.2 ∈ rooms)).map (·.1)
def spHeld (K : PySem.W.Frag) (CD CP CB : Addr) : Sp := fun vs H Q _ => ∃ (x y l : Addr) (b : BldD) (p : PersonD) (rooms : List Str), vs = [.ref x, .ref y, .ref l] ∧ BldAt K CD CP CB H x b ∧ PersonAt K CP H y p ∧ SqL K H l (rooms.map V.str) ∧ ∀ H' m, Same H H' → H' m = some (.lst ((heldOf b p rooms).map V.str)) → Q (.ref m) H'
theorem scHeld : FnScope ["building", "person", "rooms", "places", "key"] ["building", "person", "rooms"] (defScope s_keys_held) := ⟨rfl, rfl, rfl, by decide +kernel, rfl, by decide +kernel, by decide +kernel⟩
theorem ok_held {f : Addr} {fd : FuncData} (F : Fun K "keys_held" "keys_held" s_keys_held f fd) (B : Blt mg) (T : OwnC K mg CB "Building" bldF) (TP : PersT P w K mg base CP) (PK : Pr P w K mg base 1 CB "key_rooms" (spKeyRooms K CD CP CB)) : FnOk P w K mg base CX0 3 f fd ["building", "person", "rooms"] (spHeld K CD CP CB) := by
  refine F.ok scHeld (fun vs H Q E h => ?_) (fun cdv A outer s H vs Q E hr h => ?_)
  · obtain ⟨x, y, l, b, p, rooms, rfl, _⟩ := h
    rfl
  · obtain ⟨x, y, l, b, p, rooms, rfl, hb, hp, hl, q⟩ := h
    obtain ⟨⟨dx, r, k, dn, dd, pn, pd, ok, od, op, kvs, ds, ps, I⟩, bok⟩ := id hb
    obtain ⟨⟨dy, t1, t2, t3, h0, h1, h2, h3⟩, pok⟩ := id hp
    refine ⟨_, pss_cons (ps_set (i := 3) scHeld.nd rfl (.inr rfl) (pe_frz (pe_pr PK hr T.cl (pv 0) rfl)))
      (pss_one (ps_ret (pe_op op_cat (pe_callTy call_list_of (by rfl) B.lst PyProof.Rows.boot_list (pa_cons (pe_pr TP.carried hr TP.c.cl (pv 1) rfl) pa_nil))
        (pe_lc (own := [("key", 4)]) (g := gName 4) (tt := tTest (tOp (rIn K false) (tDGet (tVar 3) (tVar 4)) (tVar 2))) (te := tVar 4) rfl scHeld.nd (pi_keys (pv 3)) (blkOk_by (N := ["building", "person", "rooms", "places", "key"]) (sc := defScope s_keys_held) (by decide +kernel))
          (fun _ _ _ _ _ => pg_name (i := 4) scHeld.nd rfl (Or.inl rfl)) (fun _ _ _ _ _ => pts_one (pt_cmpR op_in_seq (pe_dget (hu_of hr) (pv 3) (pv 4) (fun _ _ => rfl)) (pv 2) rfl)) (fun _ _ _ _ _ => pv 4))))), ?_⟩
    refine ⟨.ref x, rfl, x, dx, _, rfl, I.ob, x, b, rfl, hb, fun pl kv2 tab np => ⟨pl, _, rfl, upd_same, trivial, fun od2 => ?_⟩⟩
    rw [upd_upd]
    have s1 := same_new (o := .frz od2 (.dK kv2)) np
    generalize e1 : upd H pl (.frz od2 (.dK kv2)) = H1 at s1
    have hpl : H1 pl = some (.frz od2 (.dK kv2)) := by rw [← e1]; exact upd_same
    refine ⟨.ref y, rfl, y, dy, _, rfl, s1 _ _ h0, y, dy, _, _, rfl, s1 _ _ h0, (look_person p.a t1 t2 t3).2.1, t1, _, rfl, .inr (Same.tup s1 h1), fun c nc => ?_⟩
    have s2 := same_new (o := .lst (p.carried.map V.str)) nc
    have s12 := s1.trans s2
    refine ⟨.ref pl, rfl, pl, od2, rfl, .inl ⟨kv2, s2 _ _ hpl, fun D nD => lc_mf (walk_keys (kvs := kv2)) (sortKeys b.keys) (fun q => decide (q.2 ∈ rooms)) (fun q => .str q.1) tab.len nD ?_ (fun H' s => s _ _ (s2 _ _ hpl)) (fun i u v H7 H8 Kt Kf hz s7 hY kt kf => ?_) (fun H7 s7 eD => ?_)⟩⟩
    · rw [sortKeys_len bok.knd]
      have := bok.k3
      omega
    · obtain ⟨rfl, k0, v0, hx, rfl⟩ := hY
      obtain ⟨v, hv, _⟩ := tab.get hz
      rw [hv] at hx
      cases hx
      obtain ⟨w0, hw, ew⟩ := tab.val (look_at (by rw [sortKeys_names]; exact nodup_asc (asc_srt _)) (List.mem_of_getElem? hz))
      have ew : w0 = .str u.2 := ew
      subst ew
      have sH := s12.trans s7
      refine ⟨rfl, .ref pl, rfl, .str u.1, rfl, pl, .str u.2, rfl, .inl ⟨kv2, .inr u.1, .inr ⟨od2, s7 _ _ (s2 _ _ hpl)⟩, rfl, hw.symm⟩, .ref l, rfl, l, _, rfl, .inl (sH.seq hl), rfl, flat_strs rooms, _, rfl, ?_⟩
      rw [inV_str]
      refine ite2 (fun t => ?_) (fun t => ?_)
      · exact ⟨.str u.1, rfl, kt t _ (Same.refl _)⟩
      · exact kf (Bool.eq_false_iff.mpr t) _ (Same.refl _)
    · have few : ((sortKeys b.keys).filter fun q => decide (q.2 ∈ rooms)).length ≤ 3 := by
        refine Nat.le_trans (List.length_filter_le _ _) ?_
        rw [sortKeys_len bok.knd]
        exact bok.k3
      refine ⟨c, D, _, _, rfl, rfl, s7 _ _ upd_same, eD, ?_, fun m nm => q _ m (s12.trans (s7.trans (same_new nm))) ?_⟩
      · rw [List.length_map, List.length_map, sizeLine_eq]
        have := pok.few1
        omega
      · rw [upd_same]
        unfold heldOf
        rw [List.map_append, List.map_map]
        rfl
end
end Lk
set_option Elab.async false
set_option linter.all false
set_option maxRecDepth 100000
set_option maxHeartbeats 4000000
namespace Lk
open PySem PySem.Spec PyProof.Rows L2 TxS LkO LkG
/-- o.m(..) of an own class by x in o -/
structure Has (P : Program) (w : World) (K : PySem.W.Frag) (mg : Str → Option Value) (base : Heap) (C : Addr) : Prop where
  ex : ∃ f fd, OwnM K C f "__contains__" ∧ Binds K fd ["self", "name"] [] ∧ FnOk P w K mg base CX0 1 f fd ["self", "name"] (spHas C)
structure Gen (P : Program) (w : World) (K : PySem.W.Frag) (mg : Str → Option Value) (base : Heap) (C : Addr) : Prop where
  ex : ∃ f fd, Meth K C "ways" f ∧ Binds K fd ["self"] [] ∧ GFt P w K mg base 1 f fd ["self"] (spWays C)
theorem qv {X : Cx} (i : Nat) {x : Str} {pos : Pos} (hN : X.N[i]? = some x := by rfl) (hv : Vis X.env.scope x := by first | exact Or.inl rfl | exact Or.inr (Or.inl rfl) | exact Or.inr (Or.inr rfl)) (nd : (x == ("__debug__" : Str)) = false := by decide) (nc : (x == ("__classdict__" : Str)) = false := by decide) :
    QE X (.Name x pos) (tVar i) := qe_var hN hv nd nc
def keyOk (k : Option Str) (held : List Str) : Bool := match k with
  | none => true
  | some z => decide (z ∈ held)
def addsOf (rooms : List Str) (d : DoorD) : List Str := ((waysOf d).filter fun q => decide (q.1 ∈ rooms) && !decide (q.2 ∈ rooms)).map (·.2)
def passOf (ls held : List Str) (q : Str × DoorD) : Bool := !decide (q.1 ∈ ls) && keyOk q.2.key held
def addOf (b : BldD) (p : PersonD) (ls rooms : List Str) (q : Str × DoorD) : Option Str := if passOf ls (heldOf b p rooms) q = true then (addsOf rooms q.2).head? else none
def beyondOf (b : BldD) (p : PersonD) (ls rooms : List Str) : List Str := b.doors.filterMap (addOf b p ls rooms)
theorem ways_two (d : DoorD) : (waysOf d).length ≤ 2 := by
  unfold waysOf
  cases d.both <;> simp
theorem inV_list (z : Str) (zs : List Str) : inV (.str z) (zs.map V.str) = decide (z ∈ zs) := inV_str z zs
theorem oV_ne (o : Option Str) : (!decide (oV o = .non)) = o.isSome := by cases o <;> rfl
theorem oV_some {α : Type} (f : α → Option Str) : ∀ l : List α, (l.filter fun a => (f a).isSome).map (fun a => oV (f a)) = (l.filterMap f).map V.str
  | [] => rfl
  | a :: r => by
    rw [List.filter_cons, List.filterMap_cons]
    cases h : f a with
    | none => simpa using oV_some f r
    | some z =>
      simp only [Option.isSome_some, if_true, List.map_cons, h]
      rw [oV_some f r]
      rfl
section
variable {P : Program} {w : World} {K : PySem.W.Frag} {mg : Str → Option Value} {base : Heap} {CD CP CB CL : Addr}
/-! ### lets_through -/
def spThru (K : PySem.W.Frag) (CD CP CB CL : Addr) : Sp := fun vs H Q _ => ∃ (x y z l : Addr) (b : BldD) (p : PersonD) (ls rooms : List Str) (n : Str) (d : DoorD), vs = [.ref x, .ref y, .ref z, .ref l, .str n] ∧ BldAt K CD CP CB H x b ∧ PersonAt K CP H y p ∧ LkAt CL H z ls ∧ SqL K H l (rooms.map V.str) ∧ b.doors.lookup n = some d ∧
  ∀ H', Same H H' → Q (.bl (passOf ls (heldOf b p rooms) (n, d))) H'
theorem scThru : FnScope ["building", "person", "locks", "rooms", "name", "door"] ["building", "person", "locks", "rooms", "name"] (defScope s_lets_through) := ⟨rfl, rfl, rfl, by decide +kernel, rfl, by decide +kernel, by decide +kernel⟩
theorem ok_thru {f : Addr} {fd : FuncData} (F : Fun K "lets_through" "lets_through" s_lets_through f fd) (T : OwnC K mg CB "Building" bldF) (TD : DoorT P w K mg base CD) (GH : Fn P w K mg base 3 "keys_held" ["building", "person", "rooms"] (spHeld K CD CP CB))
    (MD : Mt P w K mg base 2 CB "door" ["self", "name"] (spDoorOf K CD CP CB)) (HL : Has P w K mg base CL) : FnOk P w K mg base CX0 4 f fd ["building", "person", "locks", "rooms", "name"] (spThru K CD CP CB CL) := by
  obtain ⟨fH, fdH, mH, bH, FH⟩ := HL.ex
  refine F.ok scThru (fun vs H Q E h => ?_) (fun cdv A outer s H vs Q E hr h => ?_)
  · obtain ⟨x, y, z, l, b, p, ls, rooms, n, d, rfl, _⟩ := h
    rfl
  · obtain ⟨x, y, z, l, b, p, ls, rooms, n, d, rfl, hb, hp, hz, hl, hn, q⟩ := h
    have hr1 := hr.mono (show 1 ≤ 3 by decide)
    have hr2 := hr.mono (show 2 ≤ 3 by decide)
    refine ⟨_, pss_cons (ps_set (i := 5) scThru.nd rfl (.inl rfl) (pe_mt MD hr2 T.cl (pv 0) (pa_cons (pv 4) pa_nil)))
      (pss_one (ps_ret (pe_and (pe_cmpR (op_ownNotIn (E := E0) mH FH hr1 bH pass0) (pv 4) (pv 2) rfl) (pe_one (pe_or (pe_cmp (pc_isN (pe_pr TD.key hr2 TD.c.cl (pv 5) rfl)))
        (pe_one (pe_cmpR (r := rIn K false) op_in_seq (pe_pr TD.key hr2 TD.c.cl (pv 5) rfl) (pe_fn GH hr (by rfl) (pa_cons (pv 0) (pa_cons (pv 1) (pa_cons (pv 3) pa_nil)))) rfl))))))), ?_⟩
    obtain ⟨⟨dx, r, k, dn, dd, pn, pd, ok, od, op, kvs, ds, ps, I⟩, bok⟩ := id hb
    refine ⟨.ref x, rfl, x, dx, _, rfl, I.ob, rfl, .str n, rfl, x, b, n, d, rfl, hb, hn, fun H1 yd s1 hyd => ?_⟩
    obtain ⟨⟨dz, tz, hz1, hz2⟩, za, zn⟩ := id (hz.same s1)
    obtain ⟨⟨dyd, hyo⟩, dok⟩ := id hyd
    have l3 := (look_door d).2.2.1
    refine ⟨.str n, rfl, .ref z, rfl, z, dz, _, rfl, hz1, z, ls, n, rfl, hz.same s1, _, rfl, _, rfl, ite2 (fun t1 => ?_) (fun t1 => ?_)⟩
    · have t1' : (!decide (n ∈ ls)) = true := t1
      refine ⟨.ref yd, rfl, yd, dyd, _, rfl, hyo, yd, dyd, _, _, rfl, hyo, l3, ?_⟩
      cases hk : d.key with
      | none =>
        have q2 := q _ s1
        rw [show passOf ls (heldOf b p rooms) (n, d) = true from by unfold passOf keyOk; rw [t1', hk]; rfl] at q2
        exact ⟨true, rfl, iteT q2⟩
      | some zk =>
        have l3' : List.lookup ("kept_key" : Str) d.fs = some (V.str zk) := by rw [l3, hk]; rfl
        refine ⟨false, rfl, iteF ?_⟩
        refine ⟨.ref yd, rfl, yd, dyd, _, rfl, hyo, yd, dyd, _, _, rfl, hyo, l3', .ref x, rfl, .ref y, rfl, .ref l, rfl, x, y, l, b, p, rooms, rfl, hb.same s1, hp.same s1, s1.seq hl, fun H2 hd s2 eh => ?_⟩
        refine ⟨hd, _, rfl, .inl (.inl (.inl eh)), rfl, flat_strs _, ?_⟩
        rw [inV_str]
        have q2 := q _ (s1.trans s2)
        rw [show passOf ls (heldOf b p rooms) (n, d) = decide (zk ∈ heldOf b p rooms) from by unfold passOf keyOk; rw [t1', hk]; rfl] at q2
        exact q2
    · have q2 := q _ s1
      rw [show passOf ls (heldOf b p rooms) (n, d) = false from by unfold passOf; rw [show (!decide (n ∈ ls)) = false from Bool.eq_false_iff.mpr t1]; rfl] at q2
      exact q2
/-! ### room_added -/
def spAdded (K : PySem.W.Frag) (CD CP CB CL : Addr) : Sp := fun vs H Q _ => ∃ (x y z l : Addr) (b : BldD) (p : PersonD) (ls rooms : List Str) (n : Str) (d : DoorD), vs = [.ref x, .ref y, .ref z, .ref l, .str n] ∧ BldAt K CD CP CB H x b ∧ PersonAt K CP H y p ∧ LkAt CL H z ls ∧ SqL K H l (rooms.map V.str) ∧ b.doors.lookup n = some d ∧
  ∀ H', Same H H' → Q (oV (addOf b p ls rooms (n, d))) H'
theorem scAdded : FnScope ["building", "person", "locks", "rooms", "name", "start", "end"] ["building", "person", "locks", "rooms", "name"] (defScope s_room_added) := ⟨rfl, rfl, rfl, by decide +kernel, rfl, by decide +kernel, by decide +kernel⟩
theorem ok_added {f : Addr} {fd : FuncData} (F : Fun K "room_added" "room_added" s_room_added f fd) (T : OwnC K mg CB "Building" bldF) (TD : DoorT P w K mg base CD) (GT : Fn P w K mg base 4 "lets_through" ["building", "person", "locks", "rooms", "name"] (spThru K CD CP CB CL))
    (MD : Mt P w K mg base 2 CB "door" ["self", "name"] (spDoorOf K CD CP CB)) (GW : Gen P w K mg base CD) : FnOk P w K mg base CX0 5 f fd ["building", "person", "locks", "rooms", "name"] (spAdded K CD CP CB CL) := by
  obtain ⟨fW, fdW, mW, bW, FW⟩ := GW.ex
  refine F.ok scAdded (fun vs H Q E h => ?_) (fun cdv A outer s H vs Q E hr h => ?_)
  · obtain ⟨x, y, z, l, b, p, ls, rooms, n, d, rfl, _⟩ := h
    rfl
  · obtain ⟨x, y, z, l, b, p, ls, rooms, n, d, rfl, hb, hp, hz, hl, hn, q⟩ := h
    have hr1 := hr.mono (show 1 ≤ 4 by decide)
    have hr2 := hr.mono (show 2 ≤ 4 by decide)
    refine ⟨_, pss_cons (ps_if (pt_val (pe_fn GT hr (by rfl) (pa_cons (pv 0) (pa_cons (pv 1) (pa_cons (pv 2) (pa_cons (pv 3) (pa_cons (pv 4) pa_nil)))))))
        (pss_one (ps_forG (ix := 5) (iy := 6) (k := 1) (tt := tAnd (tTest (tOp (rInL K false) (tVar 5) (tVar 3))) (tTest (tOp (rInL K true) (tVar 6) (tVar 3)))) (te := tVar 6) rfl scAdded.nd hr2 (List.Mem.head _) (pgt_meth0 (pe_mt MD hr2 T.cl (pv 0) (pa_cons (pv 4) pa_nil)) TD.c.cl mW FW hr1 bW) rfl rfl rfl rfl
          (qt_and (qt_in (qv 5) (qv 3) rfl) (qt_notIn (qv 6) (qv 3) rfl)) (qv 6))) pss_nil)
      (pss_one (ps_ret pe_non)), ?_⟩
    obtain ⟨⟨dx, r, k, dn, dd, pn, pd, ok, od, op, kvs, ds, ps, I⟩, bok⟩ := id hb
    refine ⟨.ref x, rfl, .ref y, rfl, .ref z, rfl, .ref l, rfl, .str n, rfl, x, y, z, l, b, p, ls, rooms, n, d, rfl, hb, hp, hz, hl, hn, fun H1 s1 => ⟨_, rfl, ite2 (fun t1 => ?_) (fun t1 => ?_)⟩⟩
    · refine ⟨.ref x, rfl, x, dx, _, rfl, s1 _ _ I.ob, rfl, .str n, rfl, x, b, n, d, rfl, hb.same s1, hn, fun H2 yd s2 hyd => ?_⟩
      obtain ⟨⟨dyd, hyo⟩, dok⟩ := id hyd
      have s12 := s1.trans s2
      have e1 : addOf b p ls rooms (n, d) = (addsOf rooms d).head? := by
        unfold addOf
        rw [if_pos t1]
      rw [e1] at q
      refine ⟨yd, dyd, _, strPairs (waysOf d), rfl, hyo, rfl, ⟨yd, d, rfl, hyd, rfl⟩, ?_⟩
      have lw : (strPairs (waysOf d)).length = (waysOf d).length := by
        unfold strPairs
        rw [List.length_map]
      refine ⟨fun i σ H' => (∃ v5 v6, σ = [some (.ref x), some (.ref y), some (.ref z), some (.ref l), some (.str n), v5, v6]) ∧ Same H H' ∧ ∀ q' ∈ (waysOf d).take i, (decide (q'.1 ∈ rooms) && !decide (q'.2 ∈ rooms)) = false, ⟨⟨none, none, rfl⟩, s12, fun _ h => by simp at h⟩, fun σ2 H3 hw => ?_, fun i u v σ2 H3 pt hi hw npt => ?_⟩
      · obtain ⟨⟨v5, v6, rfl⟩, s3, no⟩ := hw
        have e2 : (addsOf rooms d).head? = none := by
          unfold addsOf
          rw [lw, List.take_length] at no
          rw [List.filter_eq_nil_iff.mpr fun q' hq' => by rw [no q' hq']; exact Bool.false_ne_true]
          rfl
        rw [e2] at q
        exact q _ s3
      · obtain ⟨⟨v5, v6, rfl⟩, s3, no⟩ := hw
        have hj2 : ∃ q', (waysOf d)[i]? = some q' ∧ u = .str q'.1 ∧ v = .str q'.2 := by
          unfold strPairs at hi
          rw [List.getElem?_map] at hi
          cases eq1 : (waysOf d)[i]? with
          | none =>
            rw [eq1] at hi
            cases hi
          | some q' =>
            rw [eq1] at hi
            cases hi
            exact ⟨q', rfl, rfl, rfl⟩
        obtain ⟨q1, hq1, rfl, rfl⟩ := hj2
        have s4 := s3.trans (same_new (o := .tup [.str q1.1, .str q1.2]) npt)
        have hl4 := s4.seq hl
        have more : (decide (q1.1 ∈ rooms) && !decide (q1.2 ∈ rooms)) = false → ∀ q' ∈ (waysOf d).take (i + 1), (decide (q'.1 ∈ rooms) && !decide (q'.2 ∈ rooms)) = false := fun e q' hq' => by
          rw [take_next1 hq1] at hq'
          rcases List.mem_append.mp hq' with h | h
          · exact no q' h
          · rw [List.mem_singleton.mp h]
            exact e
        refine ⟨.str q1.1, rfl, .ref l, rfl, l, _, rfl, hl4, rfl, flat_strs rooms, _, rfl, ?_⟩
        rw [inV_str]
        refine ite2 (fun t2 => ?_) (fun t2 => ?_)
        · refine ⟨.str q1.2, rfl, .ref l, rfl, l, _, rfl, hl4, rfl, flat_strs rooms, _, rfl, ?_⟩
          rw [inV_str]
          refine ite2 (fun t3 => ?_) (fun t3 => ?_)
          · have t23 : (decide (q1.1 ∈ rooms) && !decide (q1.2 ∈ rooms)) = true := by
              rw [show decide (q1.1 ∈ rooms) = true from t2, Bool.true_and]
              exact t3
            have e2 : (addsOf rooms d).head? = some q1.2 := by
              unfold addsOf
              rw [← List.take_append_drop i (waysOf d), List.filter_append, List.filter_eq_nil_iff.mpr fun q' hq' => by rw [no q' hq']; exact Bool.false_ne_true]
              have hd : (waysOf d).drop i = q1 :: (waysOf d).drop (i + 1) := by
                have hlt := (List.getElem?_eq_some_iff.mp hq1)
                rw [← hlt.2]
                exact List.drop_eq_getElem_cons hlt.1
              rw [hd, List.filter_cons, if_pos t23]
              rfl
            rw [e2] at q
            exact ⟨.str q1.2, rfl, q _ s4⟩
          · refine ⟨⟨_, _, rfl⟩, s4, more ?_⟩
            rw [show decide (q1.1 ∈ rooms) = true from t2, Bool.true_and]
            exact Bool.eq_false_iff.mpr t3
        · refine ⟨⟨_, _, rfl⟩, s4, more ?_⟩
          rw [show decide (q1.1 ∈ rooms) = false from Bool.eq_false_iff.mpr t2, Bool.false_and]
    · have e1 : addOf b p ls rooms (n, d) = none := by
        unfold addOf
        rw [if_neg t1]
      rw [e1] at q
      exact q _ s1
/-! ### rooms_beyond -/
def spBeyond (K : PySem.W.Frag) (CD CP CB CL : Addr) : Sp := fun vs H Q _ => ∃ (x y z l : Addr) (b : BldD) (p : PersonD) (ls rooms : List Str), vs = [.ref x, .ref y, .ref z, .ref l] ∧ BldAt K CD CP CB H x b ∧ PersonAt K CP H y p ∧ LkAt CL H z ls ∧ SqL K H l (rooms.map V.str) ∧
  ∀ H' m, Same H H' → H m = none → H' m = some (.lst ((beyondOf b p ls rooms).map V.str)) → Q (.ref m) H'
theorem scBeyond : FnScope ["building", "person", "locks", "rooms", "added", "name", "room"] ["building", "person", "locks", "rooms"] (defScope s_rooms_beyond) := ⟨rfl, rfl, rfl, by decide +kernel, rfl, by decide +kernel, by decide +kernel⟩
theorem ok_beyond {f : Addr} {fd : FuncData} (F : Fun K "rooms_beyond" "rooms_beyond" s_rooms_beyond f fd) (T : OwnC K mg CB "Building" bldF) (GA : Fn P w K mg base 5 "room_added" ["building", "person", "locks", "rooms", "name"] (spAdded K CD CP CB CL))
    (PD : Pr P w K mg base 1 CB "doors" (spBDoors K CD CP CB)) : FnOk P w K mg base CX0 6 f fd ["building", "person", "locks", "rooms"] (spBeyond K CD CP CB CL) := by
  refine F.ok scBeyond (fun vs H Q E h => ?_) (fun cdv A outer s H vs Q E hr h => ?_)
  · obtain ⟨x, y, z, l, b, p, ls, rooms, rfl, _⟩ := h
    rfl
  · obtain ⟨x, y, z, l, b, p, ls, rooms, rfl, hb, hp, hz, hl, q⟩ := h
    have hr2 := hr.mono (show 2 ≤ 5 by decide)
    refine ⟨_, pss_cons (ps_setLc (i := 4) (own := [("name", 5)]) (g := gName 5) (tt := tYes) (te := tCall (spAdded K CD CP CB CL) [] E0 (tCons (tVar 0) (tCons (tVar 1) (tCons (tVar 2) (tCons (tVar 3) (tCons (tVar 5) tNil)))))) rfl scBeyond.nd rfl rfl (sw_true rfl rfl rfl (by decide +kernel)) (pi_list (pe_pr PD hr2 T.cl (pv 0) rfl)) (blkOk_by (N := ["building", "person", "locks", "rooms", "added", "name", "room"]) (sc := defScope s_rooms_beyond) (by decide +kernel))
        (fun _ _ _ _ _ => pg_name (i := 5) scBeyond.nd rfl (Or.inl rfl)) (fun _ _ _ _ _ => pts_nil) (fun _ _ _ _ _ => pe_fn GA hr (by rfl) (pa_cons (pv 0) (pa_cons (pv 1) (pa_cons (pv 2) (pa_cons (pv 3) (pa_cons (pv 5) pa_nil)))))))
      (pss_one (ps_ret (pe_lc (own := [("room", 6)]) (g := gName 6) (tt := tB (tNotN (tVar 6))) (te := tVar 6) rfl scBeyond.nd (pi_list (pv 4)) (blkOk_by (N := ["building", "person", "locks", "rooms", "added", "name", "room"]) (sc := defScope s_rooms_beyond) (by decide +kernel))
        (fun _ _ _ _ _ => pg_name (i := 6) scBeyond.nd rfl (Or.inl rfl)) (fun _ _ _ _ _ => pts_one (pt_cmp (pc_notN (pv 6)))) (fun _ _ _ _ _ => pv 6)))), ?_⟩
    obtain ⟨⟨dx, r, k, dn, dd, pn, pd, ok, od, op, kvs, ds, ps, I⟩, bok⟩ := id hb
    have d8 := bok.d8
    refine ⟨.ref x, rfl, x, dx, _, rfl, I.ob, x, b, rfl, hb, fun dl ndl => ⟨dl, rfl, ⟨_, .inl (.inl upd_same)⟩, fun D nD => ?_⟩⟩
    have s1 := same_new (o := .lst ((b.doors.map (·.1)).map V.str)) ndl
    refine lc_m (walk_list (xs := (b.doors.map (·.1)).map V.str)) b.doors (fun q => oV (addOf b p ls rooms q)) (by rw [List.length_map, List.length_map]) nD (by omega) (fun H' s' => .inl (.inl (s' _ _ upd_same))) (fun i nd v H2 H3 Kt hz s2 hY k => ?_) (fun H2 s2 eD => ?_)
    · obtain ⟨rfl, hx⟩ := hY
      rw [List.getElem?_map, List.getElem?_map, hz] at hx
      cases hx
      have sH := s1.trans s2
      exact ⟨rfl, .ref x, rfl, .ref y, rfl, .ref z, rfl, .ref l, rfl, .str nd.1, rfl, x, y, z, l, b, p, ls, rooms, nd.1, nd.2, rfl, hb.same sH, hp.same sH, LkAt.same (by assumption) sH, sH.seq hl, look_at bok.dnd (List.mem_of_getElem? hz), fun H5 s5 => k _ s5⟩
    · refine ⟨.ref D, rfl, D, rfl, ⟨_, .inl (.inl eD)⟩, fun D2 nD2 => lc_mf (walk_list (xs := b.doors.map fun q => oV (addOf b p ls rooms q))) b.doors (fun q => (addOf b p ls rooms q).isSome) (fun q => oV (addOf b p ls rooms q)) (by rw [List.length_map]) nD2 (by omega) (fun H' s' => .inl (.inl (s' _ _ eD))) (fun i nd v H4 H5 Kt Kf hz s4 hY kt kf => ?_) (fun H4 s4 eD2 => ?_)⟩
      · obtain ⟨rfl, hx⟩ := hY
        rw [List.getElem?_map, hz] at hx
        cases hx
        refine ⟨rfl, oV (addOf b p ls rooms nd), rfl, _, rfl, ?_⟩
        rw [oV_ne]
        refine ite2 (fun t => ?_) (fun t => ?_)
        · exact ⟨_, rfl, kt t _ (Same.refl _)⟩
        · exact kf (Bool.eq_false_iff.mpr t) _ (Same.refl _)
      · refine q _ D2 (s1.trans (s2.trans s4)) ?_ ?_
        · cases e : H D2 with
          | none => rfl
          | some o =>
            have := s2 _ _ (s1 _ _ e)
            rw [nD2] at this
            cases this
        · rw [eD2, oV_some]
          rfl
end
end Lk
set_option Elab.async false
set_option linter.all false
set_option maxRecDepth 100000
set_option maxHeartbeats 4000000
namespace Lk
open PySem PySem.Spec PyProof.Rows L2 TxS LkO LkG
/-! ### the reach -/
inductive Rch (b : BldD) (p : PersonD) (ls : List Str) : Str → Prop
  | start : Rch b p ls p.a
  | free {n : Str} {d : DoorD} {r e : Str} : (n, d) ∈ b.doors → n ∉ ls → d.key = none → (r, e) ∈ waysOf d → Rch b p ls r → Rch b p ls e
  | got {n : Str} {d : DoorD} {r e z : Str} : (n, d) ∈ b.doors → n ∉ ls → d.key = some z → z ∈ p.carried → (r, e) ∈ waysOf d → Rch b p ls r → Rch b p ls e
  | found {n : Str} {d : DoorD} {r e z room : Str} : (n, d) ∈ b.doors → n ∉ ls → d.key = some z → b.keys.lookup z = some room → (r, e) ∈ waysOf d → Rch b p ls room → Rch b p ls r → Rch b p ls e
theorem mem_held {b : BldD} {p : PersonD} {rooms : List Str} {z : Str} : z ∈ heldOf b p rooms ↔ z ∈ p.carried ∨ ∃ room, b.keys.lookup z = some room ∧ room ∈ rooms := by
  unfold heldOf
  rw [List.mem_append]
  refine or_congr Iff.rfl ⟨fun h => ?_, fun h => ?_⟩
  · obtain ⟨q, hq, rfl⟩ := List.mem_map.mp h
    obtain ⟨h1, h2⟩ := List.mem_filter.mp hq
    refine ⟨q.2, ?_, of_decide_eq_true h2⟩
    rw [← sortKeys_look]
    exact look_at (by rw [sortKeys_names]; exact nodup_asc (asc_srt _)) h1
  · obtain ⟨room, h1, h2⟩ := h
    rw [← sortKeys_look] at h1
    exact List.mem_map.mpr ⟨(z, room), List.mem_filter.mpr ⟨look_mem h1, decide_eq_true h2⟩, rfl⟩
theorem adds_iff {rooms : List Str} {d : DoorD} {e : Str} : (addsOf rooms d).head? = some e ↔ ∃ r, (r, e) ∈ waysOf d ∧ r ∈ rooms ∧ e ∉ rooms := by
  constructor
  · intro h
    have he : e ∈ addsOf rooms d := by
      cases hl : addsOf rooms d with
      | nil =>
        rw [hl] at h
        cases h
      | cons a r =>
        rw [hl] at h
        cases h
        exact List.mem_cons_self
    unfold addsOf at he
    obtain ⟨⟨r, e'⟩, hw, rfl⟩ := List.mem_map.mp he
    obtain ⟨h1, h2⟩ := List.mem_filter.mp hw
    rw [Bool.and_eq_true] at h2
    exact ⟨r, h1, of_decide_eq_true h2.1, of_decide_eq_false (by have := h2.2; simpa using this)⟩
  · rintro ⟨r, hw, hr, he⟩
    unfold addsOf
    unfold waysOf at hw ⊢
    rcases List.mem_cons.mp hw with z | z
    · cases z
      rw [List.filter_cons, if_pos (by rw [decide_eq_true hr, decide_eq_false he]; rfl)]
      rfl
    · cases e2 : d.both with
      | false =>
        rw [e2] at z
        cases z
      | true =>
        rw [e2] at z
        have z := List.mem_singleton.mp z
        cases z
        rw [List.filter_cons, if_neg (by simp [he]), if_pos rfl, List.filter_cons, if_pos (by rw [decide_eq_true hr, decide_eq_false he]; rfl)]
        rfl
theorem add_iff {b : BldD} {p : PersonD} {ls rooms : List Str} {n : Str} {d : DoorD} {e : Str} : addOf b p ls rooms (n, d) = some e ↔ n ∉ ls ∧ keyOk d.key (heldOf b p rooms) = true ∧ ∃ r, (r, e) ∈ waysOf d ∧ r ∈ rooms ∧ e ∉ rooms := by
  unfold addOf passOf
  constructor
  · intro h
    by_cases hp : (!decide (n ∈ ls) && keyOk d.key (heldOf b p rooms)) = true
    · rw [if_pos hp] at h
      rw [Bool.and_eq_true] at hp
      exact ⟨of_decide_eq_false (by have := hp.1; simpa using this), hp.2, adds_iff.mp h⟩
    · rw [if_neg hp] at h
      cases h
  · rintro ⟨hn, hk, h⟩
    rw [if_pos (by rw [hk, decide_eq_false hn]; rfl)]
    exact adds_iff.mpr h
theorem mem_beyond {b : BldD} {p : PersonD} {ls rooms : List Str} {e : Str} : e ∈ beyondOf b p ls rooms ↔ ∃ n d r, (n, d) ∈ b.doors ∧ n ∉ ls ∧ keyOk d.key (heldOf b p rooms) = true ∧ (r, e) ∈ waysOf d ∧ r ∈ rooms ∧ e ∉ rooms := by
  unfold beyondOf
  rw [List.mem_filterMap]
  constructor
  · rintro ⟨⟨n, d⟩, hq, he⟩
    obtain ⟨h1, h2, r, h3, h4, h5⟩ := add_iff.mp he
    exact ⟨n, d, r, hq, h1, h2, h3, h4, h5⟩
  · rintro ⟨n, d, r, hq, hn, hk, hw, hr, he⟩
    exact ⟨(n, d), hq, add_iff.mpr ⟨hn, hk, r, hw, hr, he⟩⟩
theorem beyond_sound {b : BldD} {p : PersonD} {ls rooms : List Str} (h : ∀ z ∈ rooms, Rch b p ls z) : ∀ z ∈ beyondOf b p ls rooms, Rch b p ls z := fun e he => by
  obtain ⟨n, d, r, hq, hn, hk, hw, hr, _⟩ := mem_beyond.mp he
  cases hd : d.key with
  | none => exact .free hq hn hd hw (h r hr)
  | some z =>
    rw [hd] at hk
    rcases mem_held.mp (of_decide_eq_true hk) with c | ⟨room, h1, h2⟩
    · exact .got hq hn hd c hw (h r hr)
    · exact .found hq hn hd h1 hw (h room h2) (h r hr)
theorem beyond_done {b : BldD} {p : PersonD} {ls rooms : List Str} (h0 : p.a ∈ rooms) (h : beyondOf b p ls rooms = []) {z : Str} (hz : Rch b p ls z) : z ∈ rooms := by
  have no : ∀ e, e ∉ beyondOf b p ls rooms := fun e => by rw [h]; exact List.not_mem_nil
  induction hz with
  | start => exact h0
  | @free n d r e hq hn hd hw _ ih =>
    by_cases he : e ∈ rooms
    · exact he
    · exact absurd (mem_beyond.mpr ⟨n, d, r, hq, hn, by rw [hd]; rfl, hw, ih, he⟩) (no e)
  | @got n d r e z hq hn hd hc hw _ ih =>
    by_cases he : e ∈ rooms
    · exact he
    · exact absurd (mem_beyond.mpr ⟨n, d, r, hq, hn, by rw [hd]; exact decide_eq_true (mem_held.mpr (.inl hc)), hw, ih, he⟩) (no e)
  | @found n d r e z room hq hn hd hk hw _ _ ih1 ih2 =>
    by_cases he : e ∈ rooms
    · exact he
    · exact absurd (mem_beyond.mpr ⟨n, d, r, hq, hn, by rw [hd]; exact decide_eq_true (mem_held.mpr (.inr ⟨room, hk, ih1⟩)), hw, ih2, he⟩) (no e)
theorem ways_in {b : BldD} (ok : b.ok) {n : Str} {d : DoorD} {r e : Str} (h : (n, d) ∈ b.doors) (hw : (r, e) ∈ waysOf d) : r ∈ b.rooms ∧ e ∈ b.rooms := by
  obtain ⟨_, _, ha, hb, _⟩ := ok.doors _ h
  unfold waysOf at hw
  rcases List.mem_cons.mp hw with z | z
  · cases z
    exact ⟨ha, hb⟩
  · cases e2 : d.both with
    | false =>
      rw [e2] at z
      cases z
    | true =>
      rw [e2] at z
      have z := List.mem_singleton.mp z
      cases z
      exact ⟨hb, ha⟩
theorem rch_in {b : BldD} (ok : b.ok) {n : Str} {p : PersonD} {ls : List Str} (hp : (n, p) ∈ b.people) {z : Str} (h : Rch b p ls z) : z ∈ b.rooms := by
  induction h with
  | start => exact (ok.people _ hp).2.2.1
  | free hq _ _ hw _ _ => exact (ways_in ok hq hw).2
  | got hq _ _ _ hw _ _ => exact (ways_in ok hq hw).2
  | found hq _ _ _ hw _ _ _ => exact (ways_in ok hq hw).2
/-- rooms still to come -/
def leftOf (b : BldD) (rooms : List Str) : Nat := (b.rooms.filter fun z => !decide (z ∈ rooms)).length
theorem filt_lt {p q : Str → Bool} : ∀ {l : List Str} {z : Str}, z ∈ l → (∀ y, q y = true → p y = true) → p z = true → q z = false → (l.filter q).length < (l.filter p).length
  | [], _, h, _, _, _ => by cases h
  | y :: r, z, h, sub, hp, hq => by
    have le : (r.filter q).length ≤ (r.filter p).length := by
      have go : ∀ l : List Str, (l.filter q).length ≤ (l.filter p).length := fun l => by
        induction l with
        | nil => exact Nat.le_refl _
        | cons a l ih =>
          rw [List.filter_cons, List.filter_cons]
          by_cases ha : q a = true
          · rw [if_pos ha, if_pos (sub a ha), List.length_cons, List.length_cons]
            omega
          · rw [if_neg ha]
            split
            · rw [List.length_cons]
              omega
            · exact ih
      exact go r
    rw [List.filter_cons, List.filter_cons]
    rcases List.mem_cons.mp h with e | e
    · subst e
      rw [if_pos hp, if_neg (by rw [hq]; exact Bool.false_ne_true), List.length_cons]
      omega
    · have ih := filt_lt e sub hp hq
      by_cases ha : q y = true
      · rw [if_pos ha, if_pos (sub y ha), List.length_cons, List.length_cons]
        omega
      · rw [if_neg ha]
        split
        · rw [List.length_cons]
          omega
        · exact ih
theorem left_lt {b : BldD} (ok : b.ok) {p : PersonD} {ls rooms : List Str} (h : beyondOf b p ls rooms ≠ []) : leftOf b (rooms ++ beyondOf b p ls rooms) < leftOf b rooms := by
  obtain ⟨e, he⟩ := List.exists_mem_of_ne_nil _ h
  obtain ⟨n, d, r, hq, _, _, hw, _, hne⟩ := mem_beyond.mp he
  unfold leftOf
  refine filt_lt (z := e) (ways_in ok hq hw).2 (fun y hy => ?_) (by simp [hne]) (by simp [he])
  simp only [List.mem_append, Bool.not_eq_eq_eq_not, Bool.not_true, decide_eq_false_iff_not, not_or] at hy ⊢
  exact hy.1
theorem left_le (b : BldD) (ok : b.ok) (rooms : List Str) : leftOf b rooms ≤ 6 := Nat.le_trans (List.length_filter_le _ _) ok.r6
theorem beyond_len {b : BldD} (ok : b.ok) (p : PersonD) (ls rooms : List Str) : (beyondOf b p ls rooms).length ≤ 16 := by
  have h := List.length_filterMap_le (addOf b p ls rooms) b.doors
  have := ok.d8
  unfold beyondOf
  omega
section
variable {P : Program} {w : World} {K : PySem.W.Frag} {mg : Str → Option Value} {base : Heap} {CD CP CB CL : Addr}
def spReach (K : PySem.W.Frag) (CD CP CB CL : Addr) : Sp := fun vs H Q _ => ∃ (x z : Addr) (b : BldD) (n : Str) (p : PersonD) (ls : List Str), vs = [.ref x, .str n, .ref z] ∧ BldAt K CD CP CB H x b ∧ b.people.lookup n = some p ∧ LkAt CL H z ls ∧ ls.length ≤ 1000 ∧ (∀ z ∈ ls, z ∈ b.doors.map (·.1)) ∧
  ∀ H' m (g : Str → Bool), Same H H' → H m = none → (∀ z, g z = true ↔ Rch b p ls z) → H' m = some (.lst ((b.rooms.filter g).map V.str)) → Q (.ref m) H'
theorem scReach : FnScope ["self", "name", "locks", "person", "rooms", "beyond", "room"] ["self", "name", "locks"] (defScope s_Building_reach) := ⟨rfl, rfl, rfl, by decide +kernel, rfl, by decide +kernel, by decide +kernel⟩
theorem ok_reach {f : Addr} {fd : FuncData} (F : Fun K "reach" "Building.reach" s_Building_reach f fd) (T : OwnC K mg CB "Building" bldF) (TP : PersT P w K mg base CP) (MP : Mt P w K mg base 2 CB "person" ["self", "name"] (spPersOf K CD CP CB)) (GC : Fn P w K mg base 3 "check_locks" ["building", "locks"] (spChk K CD CP CB CL))
    (GB : Fn P w K mg base 6 "rooms_beyond" ["building", "person", "locks", "rooms"] (spBeyond K CD CP CB CL)) : FnOk P w K mg base CX0 7 f fd ["self", "name", "locks"] (spReach K CD CP CB CL) := by
  refine F.ok scReach (fun vs H Q E h => ?_) (fun cdv A outer s H vs Q E hr h => ?_)
  · obtain ⟨x, z, b, n, p, ls, rfl, _⟩ := h
    rfl
  · obtain ⟨x, z, b, n, p, ls, rfl, hb, hn, hz, few, sub, q⟩ := h
    have hr2 := hr.mono (show 2 ≤ 6 by decide)
    have hr3 := hr.mono (show 3 ≤ 6 by decide)
    refine ⟨_, pss_cons (ps_set (i := 3) scReach.nd rfl (.inl rfl) (pe_mt MP hr2 T.cl (pv 0) (pa_cons (pv 1) pa_nil)))
      (pss_cons (ps_expr (pe_fn GC hr3 (by rfl) (pa_cons (pv 0) (pa_cons (pv 2) pa_nil))))
      (pss_cons (ps_set (i := 4) scReach.nd rfl (.inr rfl) (pe_lst (pa_cons (pe_pr TP.start hr2 TP.c.cl (pv 3) rfl) pa_nil)))
      (pss_cons (ps_set (i := 5) scReach.nd rfl (.inl rfl) (pe_fn GB hr (by rfl) (pa_cons (pv 0) (pa_cons (pv 3) (pa_cons (pv 2) (pa_cons (pv 4) pa_nil))))))
      (pss_cons (ps_while PassesOwn.never (pt_truth (pv 5) (fun _ => rfl)) (pss_cons (ps_set (i := 4) scReach.nd rfl (.inr rfl) (pe_op op_cat (pv 4) (pv 5))) (pss_one (ps_set (i := 5) scReach.nd rfl (.inl rfl) (pe_fn GB hr (by rfl) (pa_cons (pv 0) (pa_cons (pv 3) (pa_cons (pv 2) (pa_cons (pv 4) pa_nil)))))))))
      (pss_one (ps_ret (pe_lc (own := [("room", 6)]) (g := gName 6) (tt := tTest (tOp (rIn K false) (tVar 6) (tVar 4))) (te := tVar 6) rfl scReach.nd (pi_tup (pe_fld (pv 0) rfl)) (blkOk_by (N := ["self", "name", "locks", "person", "rooms", "beyond", "room"]) (sc := defScope s_Building_reach) (by decide +kernel))
        (fun _ _ _ _ _ => pg_name (i := 6) scReach.nd rfl (Or.inl rfl)) (fun _ _ _ _ _ => pts_one (pt_cmpR op_in_seq (pv 6) (pv 4) rfl)) (fun _ _ _ _ _ => pv 6)))))))), ?_⟩
    obtain ⟨⟨dx, r, k, dn, dd, pn, pd, ok, od, op, kvs, ds, ps, I⟩, bok⟩ := id hb
    have l1 := (look_bld r k dn dd pn pd).1
    refine ⟨.ref x, rfl, x, dx, _, rfl, I.ob, rfl, .str n, rfl, x, b, n, p, rfl, hb, hn, fun H1 y s1 hy => ?_⟩
    refine ⟨.ref x, rfl, .ref z, rfl, x, z, b, ls, rfl, hb.same s1, hz.same s1, few, sub, fun H2 s2 => ?_⟩
    have s12 := s1.trans s2
    obtain ⟨⟨dy, t1, t2, t3, h0, _⟩, pok⟩ := id (hy.same s2)
    refine ⟨.ref y, rfl, y, dy, _, rfl, h0, y, dy, _, _, rfl, h0, (look_person p.a t1 t2 t3).1, by show 1 ≤ sizeLine; rw [sizeLine_eq]; decide, fun rl nrl => ?_⟩
    have s3 := s12.trans (same_new (o := .lst [.str p.a]) nrl)
    have hy3 : PersonAt K CP (upd H2 rl (.lst [.str p.a])) y p := (hy.same s2).same (same_new nrl)
    refine ⟨.ref x, rfl, .ref y, rfl, .ref z, rfl, .ref rl, rfl, x, y, z, rl, b, p, ls, [p.a], rfl, hb.same s3, hy3, hz.same s3, .inl (.inl upd_same), fun H4 bl s4 nbl ebl => ?_⟩
    have s14 := s3.trans s4
    refine ⟨fun m σ H' => ∃ (rl bl : Addr) (rooms : List Str), Same H H' ∧ PersonAt K CP H' y p ∧ H' rl = some (.lst (rooms.map V.str)) ∧ H' bl = some (.lst ((beyondOf b p ls rooms).map V.str)) ∧ p.a ∈ rooms ∧ (∀ u ∈ rooms, Rch b p ls u) ∧ m = leftOf b rooms ∧ rooms.length + 16 * m ≤ 97 ∧
      σ = [some (.ref x), some (.str n), some (.ref z), some (.ref y), some (.ref rl), some (.ref bl), none], ⟨leftOf b [p.a], rl, bl, [p.a], s14, hy3.same s4, s4 _ _ upd_same, ebl, by simp, fun u hu => ?_, rfl, ?_, rfl⟩, ?_⟩
    · rw [List.mem_singleton.mp hu]
      exact .start
    · have := left_le b bok [p.a]
      simp only [List.length_singleton]
      omega
    rintro m σ H5 ⟨rl, bl, rooms, s5, hy5, erl, ebl, h0, hR, rfl, hlen, rfl⟩
    refine ⟨.ref bl, rfl, !((beyondOf b p ls rooms).map V.str).isEmpty, .inl ⟨_, .inl (.inl ebl), rfl⟩, ite2 (fun t => ?_) (fun t => ?_)⟩
    · have ne : beyondOf b p ls rooms ≠ [] := fun e => by
        rw [e] at t
        simp at t
      have hlt := left_lt bok ne
      have hbl := beyond_len bok p ls rooms
      refine ⟨fun σ H' => ∃ (rl bl : Addr), Same H H' ∧ PersonAt K CP H' y p ∧ H' rl = some (.lst ((rooms ++ beyondOf b p ls rooms).map V.str)) ∧ H' bl = some (.lst ((beyondOf b p ls (rooms ++ beyondOf b p ls rooms)).map V.str)) ∧
        σ = [some (.ref x), some (.str n), some (.ref z), some (.ref y), some (.ref rl), some (.ref bl), none], ?_, ?_⟩
      · rintro σ' H' ⟨rl', bl', a1, a2, a3, a4, a5⟩
        refine ⟨leftOf b (rooms ++ beyondOf b p ls rooms), hlt, rl', bl', _, a1, a2, a3, a4, List.mem_append_left _ h0, fun u hu => ?_, rfl, ?_, a5⟩
        · rcases List.mem_append.mp hu with v | v
          · exact hR u v
          · exact beyond_sound hR u v
        · rw [List.length_append]
          omega
      · refine ⟨.ref rl, rfl, .ref bl, rfl, rl, bl, _, _, rfl, rfl, erl, ebl, ?_, fun rl2 nrl2 => ?_⟩
        · rw [List.length_map, List.length_map, sizeLine_eq]
          omega
        have s6 := same_new (o := .lst (rooms.map V.str ++ (beyondOf b p ls rooms).map V.str)) nrl2
        have s56 := s5.trans s6
        refine ⟨.ref x, rfl, .ref y, rfl, .ref z, rfl, .ref rl2, rfl, x, y, z, rl2, b, p, ls, rooms ++ beyondOf b p ls rooms, rfl, hb.same s56, hy5.same s6, hz.same s56, .inl (.inl (by rw [upd_same, List.map_append])), fun H7 bl2 s7 nbl2 ebl2 => ?_⟩
        exact ⟨rl2, bl2, s56.trans s7, (hy5.same s6).same s7, by rw [s7 _ _ upd_same, List.map_append], ebl2, rfl⟩
    · have e0 : beyondOf b p ls rooms = [] := by
        have t' : ((beyondOf b p ls rooms).map V.str).isEmpty = true := by simpa using t
        rw [List.isEmpty_iff, List.map_eq_nil_iff] at t'
        exact t'
      refine ⟨.ref x, rfl, x, CB, dx, _, _, rfl, s5 _ _ I.ob, T.cl, T.nK _ (by simp), l1, r, rfl, ⟨_, Same.tup s5 I.rooms⟩, fun D nD => lc_mf (walk_tup (xs := b.rooms.map V.str)) b.rooms (fun u => decide (u ∈ rooms)) V.str (by rw [List.length_map]) nD (by have := bok.r6; omega) (fun H' s' => Same.tup (s5.trans s') I.rooms) (fun i u v H7 H8 Kt Kf hz s7 hY kt kf => ?_) (fun H7 s7 eD => ?_)⟩
      · obtain ⟨rfl, hx⟩ := hY
        rw [List.getElem?_map, hz] at hx
        cases hx
        refine ⟨rfl, .str u, rfl, .ref rl, rfl, rl, _, rfl, .inl (.inl (.inl (s7 _ _ erl))), rfl, flat_strs rooms, _, rfl, ?_⟩
        rw [inV_str]
        refine ite2 (fun t2 => ?_) (fun t2 => ?_)
        · exact ⟨.str u, rfl, kt t2 _ (Same.refl _)⟩
        · exact kf (Bool.eq_false_iff.mpr t2) _ (Same.refl _)
      · refine q _ D (fun u => decide (u ∈ rooms)) (s5.trans s7) ?_ (fun u => ?_) eD
        · cases e : H D with
          | none => rfl
          | some o =>
            have := s5 _ _ e
            rw [nD] at this
            cases this
        · rw [decide_eq_true_eq]
          exact ⟨hR u, beyond_done h0 e0⟩
theorem FnOk.weak {CX : CXT} {k : Nat} {f : Addr} {fd : FuncData} {ps : List Str} {sp sp' : Sp} (F : FnOk P w K mg base CX k f fd ps sp) (h : ∀ vs H Q E, sp' vs H Q E → sp vs H Q E) : FnOk P w K mg base CX k f fd ps sp' :=
  ⟨fun vs H Q E z => F.len vs H Q E (h vs H Q E z), fun A outer s H args us vs Q E hr e0 hb r z => F.run A outer s H args us vs Q E hr e0 hb r (h vs H Q E z)⟩
structure EqM (P : Program) (w : World) (K : PySem.W.Frag) (mg : Str → Option Value) (base : Heap) (C : Addr) (sp : Sp) : Prop where
  ex : ∃ f fd, PySem.W.findIn K (.ref C) "__eq__" = some (some (.ref f)) ∧ PySem.W.isFn K (.ref f) = true ∧ Binds K fd ["self", "other"] [] ∧ FnOk P w K mg base CX0 1 f fd ["self", "other"] sp
def rDoor (C : Addr) : Addr → Addr → Hp → Prop := fun a b H => ∃ d, DoorAt C H a d ∧ DoorAt C H b d
def rPers (K : PySem.W.Frag) (C : Addr) : Addr → Addr → Hp → Prop := fun a b H => ∃ d, PersonAt K C H a d ∧ PersonAt K C H b d
theorem eq_doors {X : Cx} {C : Addr} (M : EqM X.prog X.w X.K X.mg X.base C (spEqDoor C)) : EqG X 1 (DIns C (rDoor C)) := by
  obtain ⟨f, fd, h1, h2, b, F⟩ := M.ex
  exact eqG_ins (E := E0) (FnOk.weak F fun vs H Q E ⟨x, y, e, ⟨d, hx, hy⟩, q⟩ => ⟨x, y, d, d, e, hx, hy, by rw [decide_eq_true rfl]; exact q _ Ext.rfl'⟩) h1 h2 b pass0
theorem eq_pers {X : Cx} {C : Addr} (M : EqM X.prog X.w X.K X.mg X.base C (spEqPerson X.K C)) : EqG X 1 (DIns C (rPers X.K C)) := by
  obtain ⟨f, fd, h1, h2, b, F⟩ := M.ex
  exact eqG_ins (E := E0) (FnOk.weak F fun vs H Q E ⟨x, y, e, ⟨d, hx, hy⟩, q⟩ => ⟨x, y, d, d, e, hx, hy, by rw [decide_eq_true rfl]; exact q _ Ext.rfl'⟩) h1 h2 b pass0
theorem mon_doors {C : Addr} : Mon (DIns C (rDoor C)) := mon_ins fun a b H H' e ⟨d, h1, h2⟩ => ⟨d, h1.same e, h2.same e⟩
theorem mon_pers {C : Addr} : Mon (DIns C (rPers K C)) := mon_ins fun a b H H' e ⟨d, h1, h2⟩ => ⟨d, h1.same e, h2.same e⟩
def spEqBld (K : PySem.W.Frag) (CD CP CB : Addr) : Sp := fun vs H Q _ => ∃ (x y : Addr) (b : BldD), vs = [.ref x, .ref y] ∧ BldAt K CD CP CB H x b ∧ BldAt K CD CP CB H y b ∧ ∀ H', Same H H' → Q (.bl true) H'
theorem scEqB : FnScope ["self", "other"] ["self", "other"] (defScope s_Building___eq__) := ⟨rfl, rfl, rfl, by decide +kernel, rfl, by decide +kernel, by decide +kernel⟩
theorem same_tab {α : Type} {R S : V → α → Prop} {D : Eqv} {H : Hp} {l : List (Str × α)} {ks ls : List (Key × V)} (nd : (l.map (·.1)).Nodup) (t : Tab R ks l) (u : Tab S ls l) (h : ∀ v v' a, R v a → S v' a → D v v' H) : ks.length = ls.length ∧ ∀ p ∈ ks, ∃ v, valV ls p.1 = some v ∧ D p.2 v H := by
  refine ⟨t.len.trans u.len.symm, fun p hp => ?_⟩
  obtain ⟨i, hi, e⟩ := List.getElem_of_mem hp
  have hil : i < l.length := t.len ▸ hi
  have hg : l[i]? = some l[i] := List.getElem?_eq_getElem hil
  obtain ⟨v, hv, hr⟩ := t.get hg
  rw [List.getElem?_eq_getElem hi, e] at hv
  cases hv
  obtain ⟨v', hv', hs⟩ := u.val (look_at nd (List.getElem_mem hil))
  exact ⟨v', hv', h _ _ _ hr hs⟩
theorem ok_eqBld {f : Addr} {fd : FuncData} (F : Fun K "__eq__" "Building.__eq__" s_Building___eq__ f fd) (B : Blt mg) (T : OwnC K mg CB "Building" bldF) (MD : EqM P w K mg base CD (spEqDoor CD)) (MP : EqM P w K mg base CP (spEqPerson K CP)) : FnOk P w K mg base CX0 3 f fd ["self", "other"] (spEqBld K CD CP CB) := by
  refine F.ok scEqB (fun vs H Q E h => ?_) (fun cdv A outer s H vs Q E hr h => ?_)
  · obtain ⟨x, y, b, rfl, _⟩ := h
    rfl
  · obtain ⟨x, y, b, rfl, ⟨⟨dx, r, k, dn, dd, pn, pd, ok, od, op, kvs, ds, ps, I⟩, bok⟩, ⟨⟨dx', r', k', dn', dd', pn', pd', ok', od', op', kvs', ds', ps', J⟩, _⟩, q⟩ := h
    have hr1 := hr.mono (show 1 ≤ 2 by decide)
    refine ⟨_, pss_one (ps_ret (pe_and (pe_callB call_isi (by rfl) B.isi PyProof.Rows.boot_isinstance (pa_cons (pv 1) (pa_cons (pe_glob (v := .ref CB) (by rfl) T.mgC rfl) pa_nil)))
      (pe_and (pe_cmpR (op_eqD hr.units) (pe_fld (pv 0) rfl) (pe_fld (pv 1) rfl) (nomark _)) (pe_and (pe_cmpR (op_eqG (rcG_dict mon_flat eqG_flat) hr1) (pe_fld (pv 0) rfl) (pe_fld (pv 1) rfl) (nomark _)) (pe_and (pe_cmpR (op_eqD hr.units) (pe_fld (pv 0) rfl) (pe_fld (pv 1) rfl) (nomark _))
      (pe_and (pe_cmpR (op_eqG (rcG_dict mon_doors (eq_doors MD)) hr) (pe_fld (pv 0) rfl) (pe_fld (pv 1) rfl) (nomark _)) (pe_and (pe_cmpR (op_eqD hr.units) (pe_fld (pv 0) rfl) (pe_fld (pv 1) rfl) (nomark _))
      (pe_one (pe_cmpR (op_eqG (rcG_dict mon_pers (eq_pers MP)) hr) (pe_fld (pv 0) rfl) (pe_fld (pv 1) rfl) (nomark _)))))))))), ?_⟩
    obtain ⟨l1, l2, l3, l4, l5, l6⟩ := look_bld r k dn dd pn pd
    obtain ⟨m1, m2, m3, m4, m5, m6⟩ := look_bld r' k' dn' dd' pn' pd'
    have nK := T.nK
    have cl := T.cl
    have nmD : ∀ z ∈ b.doors.map (·.1), PyData.strOk z = true := fun z hz => by
      obtain ⟨u, hu, rfl⟩ := List.mem_map.mp hz
      exact nm_ok (bok.doors u hu).1
    have nmP : ∀ z ∈ b.people.map (·.1), PyData.strOk z = true := fun z hz => by
      obtain ⟨u, hu, rfl⟩ := List.mem_map.mp hz
      exact nm_ok (bok.people u hu).1
    refine ⟨.ref y, rfl, .ref y, .ref CB, _, _, true, rfl, .own CB, .base (.ins J.ob T.cl T.tyc T.tyg T.tyt T.tym), T.kit, true, rfl, iteT ?_⟩
    refine ⟨.ref x, rfl, x, CB, dx, _, _, rfl, I.ob, cl, nK _ (by simp), l1, .ref y, rfl, y, CB, dx', _, _, rfl, J.ob, cl, nK _ (by simp), m1, _, _, .tup I.rooms (dp_strs _), .tup J.rooms (dp_strs _), shaped_strsT fun z hz => nm_ok (are_nm bok.rooms z hz), shaped_strsT fun z hz => nm_ok (are_nm bok.rooms z hz), true, by rw [eqv_tups, decide_eq_true rfl], iteT ?_⟩
    obtain ⟨ek1, ek2⟩ := same_tab (D := DFlat) (H := H) (by rw [sortKeys_names]; exact nodup_asc (asc_srt _)) I.keysT J.keysT fun v v' a (h1 : v = .str a) (h2 : v' = .str a) => by
      rw [h1, h2]
      exact ⟨rfl, rfl, by show (a == a) = true; exact beq_self_eq_true a⟩
    refine ⟨.ref x, rfl, x, CB, dx, _, _, rfl, I.ob, cl, nK _ (by simp), l2, .ref y, rfl, y, CB, dx', _, _, rfl, J.ob, cl, nK _ (by simp), m2, ⟨k, k', ok, ok', kvs, kvs', rfl, rfl, I.keys, J.keys, ek1, ek2⟩, fun H1 s1 => ⟨true, rfl, iteT ?_⟩⟩
    have s1 : Same H H1 := s1
    have I1 := I.same s1
    have J1 := J.same s1
    refine ⟨.ref x, rfl, x, CB, dx, _, _, rfl, I1.ob, cl, nK _ (by simp), l3, .ref y, rfl, y, CB, dx', _, _, rfl, J1.ob, cl, nK _ (by simp), m3, _, _, .tup I1.dn (dp_strs _), .tup J1.dn (dp_strs _), shaped_strsT nmD, shaped_strsT nmD, true, by rw [eqv_tups, decide_eq_true rfl], iteT ?_⟩
    obtain ⟨ed1, ed2⟩ := same_tab (D := DIns CD (rDoor CD)) (H := H1) bok.dnd I1.doorsT J1.doorsT fun v v' a ⟨u, e1, h1⟩ ⟨u', e2, h2⟩ => by
      obtain ⟨⟨du, hu⟩, _⟩ := id h1
      obtain ⟨⟨du', hu'⟩, _⟩ := id h2
      exact ⟨u, u', du, du', _, _, e1, e2, hu, hu', a, h1, h2⟩
    refine ⟨.ref x, rfl, x, CB, dx, _, _, rfl, I1.ob, cl, nK _ (by simp), l4, .ref y, rfl, y, CB, dx', _, _, rfl, J1.ob, cl, nK _ (by simp), m4, ⟨dd, dd', od, od', ds, ds', rfl, rfl, I1.doors, J1.doors, ed1, ed2⟩, fun H2 s2 => ⟨true, rfl, iteT ?_⟩⟩
    have s2 : Same H1 H2 := s2
    have I2 := I1.same s2
    have J2 := J1.same s2
    refine ⟨.ref x, rfl, x, CB, dx, _, _, rfl, I2.ob, cl, nK _ (by simp), l5, .ref y, rfl, y, CB, dx', _, _, rfl, J2.ob, cl, nK _ (by simp), m5, _, _, .tup I2.pn (dp_strs _), .tup J2.pn (dp_strs _), shaped_strsT nmP, shaped_strsT nmP, true, by rw [eqv_tups, decide_eq_true rfl], iteT ?_⟩
    obtain ⟨ep1, ep2⟩ := same_tab (D := DIns CP (rPers K CP)) (H := H2) bok.pnd I2.peopleT J2.peopleT fun v v' a ⟨u, e1, h1⟩ ⟨u', e2, h2⟩ => by
      obtain ⟨⟨du, _, _, _, hu, _⟩, _⟩ := id h1
      obtain ⟨⟨du', _, _, _, hu', _⟩, _⟩ := id h2
      exact ⟨u, u', du, du', _, _, e1, e2, hu, hu', a, h1, h2⟩
    exact ⟨.ref x, rfl, x, CB, dx, _, _, rfl, I2.ob, cl, nK _ (by simp), l6, .ref y, rfl, y, CB, dx', _, _, rfl, J2.ob, cl, nK _ (by simp), m6, ⟨pd, pd', op, op', ps, ps', rfl, rfl, I2.people, J2.people, ep1, ep2⟩, fun H3 s3 => q _ (s1.trans (s2.trans s3))⟩
end
end Lk
set_option Elab.async false
set_option linter.all false
set_option maxRecDepth 100000
set_option maxHeartbeats 2000000
/-! for i, x in enumerate(t), t a tuple -/
namespace Lk
open PySem PySem.Spec PyProof.Rows L2 TxS LkO
def enumO (p : Addr) : Obj := { cls := .type "enumerate", data := .fields #[.none, .bool false, .ref p, rawInt 0, .none, .none] }
theorem new_enum {v : Value} {o : Obj} {J : Heap → Prop} (B : Begins v o J) : Meets (Builtin.«enumerate.__new__» ⟨[.type "enumerate", v], []⟩) (fun _ R s => J s.heap ∧ R (.ok (.ret (.ref (s.heap.push o).objs.size))) { s with heap := (s.heap.push o).push (enumO s.heap.objs.size) }) :=
  .of_wp fun prog w A R s z => by
    obtain ⟨hp, g, d, tk, os⟩ := s
    obtain ⟨j, z⟩ := z
    have sub := sub_enumerate
    have it : ∀ {A' : Around} {E : Value → Shared → Prop} {Q : Value → Shared → Prop}, Q (.ref hp.objs.size) ⟨hp.push o, g, d, tk, os⟩ → wpAny (model prog w) A' (pyIter v) Q E ⟨hp, g, d, tk, os⟩ := fun q => B.iter prog w _ _ ⟨hp, g, d, tk, os⟩ _ j q
    wp_walk using it
    refine wpAny_stack_any fun _ => wpAny_pure ?_
    split
    · rename_i c _ _ _ _ _
      cases (c == Value.type "enumerate") <;> (wp_walk using it; exact ⟨_, rfl, z⟩)
    · wp_walk using it
      exact ⟨_, rfl, z⟩
theorem call_enumT {prog : Program} {w : World} {A : Around} {E : Value → Shared → Prop} {s : Shared} {v : Value} {o : Obj} {J : Heap → Prop} {Q : Value → Shared → Prop} (B : Begins v o J) (j : J s.heap)
    (q : ∀ h', IsEnum h' (s.heap.objs.size + 1) s.heap.objs.size 0 .none → h'.get? s.heap.objs.size = some o → (∀ b u, s.heap.get? b = some u → h'.get? b = some u) → Q (.ref (s.heap.objs.size + 1)) { s with heap := h' }) : wpAny (model prog w) A (call (.type "enumerate") [v]) Q E s := by
  refine callType_new F.called_enumerate (by decide) (F.typeCall_enumerate_1 _) (F.newCall_enumerate_1 _) (fun x => F.args_object_init_2 x _) F.entry_enumerate_new (new_enum B) ⟨j, ?_⟩
  have sz : (s.heap.push o).objs.size = s.heap.objs.size + 1 := Heap.size_push ..
  show _ ∧ _
  rw [sz]
  have en : IsEnum ((s.heap.push o).push (enumO s.heap.objs.size)) (s.heap.objs.size + 1) s.heap.objs.size 0 .none := by
    have z := Heap.get?_push_size (s.heap.push o) (o := enumO s.heap.objs.size) rfl
    rw [sz] at z
    exact z
  exact ⟨⟨_, en, rfl⟩, q _ en (Heap.get?_push_of_some _ (Heap.get?_push_size _ B.free)) fun b u z => Heap.get?_push_of_some _ (Heap.get?_push_of_some _ z)⟩
/-- the tuple at a, each item in a new pair -/
def IteT (K : PySem.W.Frag) (a : Addr) : It :=
  ⟨fun i H => ∃ (xs : List V) (x : V), SqT K H a xs ∧ xs[i]? = some x, fun i H v H' => ∃ T x, v = .ref T ∧ H T = none ∧ H' = upd H T (.tup [.int (i : Nat), x]) ∧ ∀ xs, SqT K H a xs → xs[i]? = some x, fun i H => ∃ xs : List V, SqT K H a xs ∧ xs.length ≤ i⟩
theorem turn_enumT {P : Program} {w : World} {K : PySem.W.Frag} {elts : List Expr} {kk : Nat} {tpos : Pos} (a e it : Addr) :
    Turn P w K (.Tuple elts kk tpos) (IteT K a) [e, it] e (fun i h => (∃ old, IsEnum h e it ((i : Nat) : Int) old) ∧ h.IsTupleIter it a i ∧ e ≠ it ∧ a ≠ it ∧ a ≠ e) where
  mem := by simp
  obj := fun i h st b hb => by
    obtain ⟨⟨old, he⟩, ⟨o, ho, hc, hd⟩, _⟩ := st
    rcases (show b = e ∨ b = it by simpa using hb) with z | z
    · subst z
      exact ⟨_, he, fun v q => nomatch q⟩
    · subst z
      exact ⟨o, ho, fun v q => by rw [hd] at q; cases q⟩
  keep := fun i h h' st k => let ⟨⟨old, he⟩, hi, z⟩ := st; ⟨⟨old, k e (by simp) _ he⟩, hi.at fun o q => k it (by simp) o q, z⟩
  item := by
    intro X hP hw hK hc i pins s σ H E I hf st hg
    subst hP hw hK
    obtain ⟨⟨old, he⟩, hit, hne, hai, hae⟩ := st
    obtain ⟨xs, x, hq, hx⟩ := hg
    obtain ⟨its, rv, p, hz⟩ := I.tuple hq
    obtain ⟨u, hu, ru⟩ := rv.get hx
    have l1 : e < s.heap.objs.size := Heap.lt_size he
    have l2 : it < s.heap.objs.size := by obtain ⟨_, q, _⟩ := hit; exact Heap.lt_size q
    have lt : i < its.toArray.size := by
      rcases Nat.lt_or_ge i its.length with z | z
      · simpa using z
      · rw [List.getElem?_eq_none z] at hu
        cases hu
    have D := PySem.Draws.tuple (prog := X.prog) (w := X.w) (A := X.A.in1) (I.ok.hd hc) it a hai its.toArray
    refine wpAny_pyNext_enum_itemD D he ⟨hit, p⟩ lt hne (by simp [hne, Ne.symm hae]) fun y h' tk hy ho hs hT hsz hk => ?_
    have ey : y = u := by
      have hy : its.toArray[i]? = some y := hy
      rw [List.getElem?_toArray, hu] at hy
      exact (Option.some.inj hy).symm
    subst ey
    refine ⟨_, rfl, wpAny_letOwnedTupleGo_enum (s := { s with heap := h', toks := tk + 1 }) ho fun h'' he' sb => ?_⟩
    have hT2 : h''.get? s.heap.objs.size = some { cls := .type "tuple", data := .seq #[.int i tk, y] } := (sb.2 _ (Nat.ne_of_gt l1)).trans hT
    have new : ObjOk X.prog X.w (upd H s.heap.objs.size (.tup [.int (i : Nat), x])) h'' s.heap.objs.size (.tup [.int (i : Nat), x]) := ⟨by show 2 ≤ sizeLine; decide, [.int i tk, y], .cons ⟨_, rfl⟩ (.cons ru .nil), ⟨_, hT2, rfl, _, rfl⟩⟩
    have I1 : Inv X pins σ (upd H s.heap.objs.size (.tup [.int (i : Nat), x])) { s with heap := h'', toks := tk + 1 } := I.turnedNew (ch := [e, it]) (fun b ob hb q => (sb.2 b (fun z => hb (by simp [z]))).trans (hk b ob (fun z => hb (by simp [z])) (fun z => hb (by simp [z])) q)) hf (Nat.le_refl _) new
    refine ⟨.ref s.heap.objs.size, _, I1, rfl, ⟨_, x, rfl, I.hok.fresh (Nat.le_refl _), rfl, fun ys hy => by rw [I.tuple_inj hy hq]; exact hx⟩, ⟨⟨y, by rw [show ((i + 1 : Nat) : Int) = (i : Int) + 1 by omega]; exact he'⟩, hs.1.at fun o q => (sb.2 it (Ne.symm hne)).trans q, hne, hai, hae⟩, fun b hb => ?_⟩
    have lb : b < s.heap.objs.size := by
      rcases (show b = e ∨ b = it by simpa using hb) with z | z <;> (rw [z]; assumption)
    rw [upd_ne (Nat.ne_of_lt lb)]
    exact (hf b hb).1
  done := by
    intro X hP hw hK hc i pins s σ H E I hf st hg
    subst hP hw hK
    obtain ⟨⟨old, he⟩, hit, hne, hai, hae⟩ := st
    obtain ⟨xs, hq, hx⟩ := hg
    obtain ⟨its, rv, p, hz⟩ := I.tuple hq
    obtain ⟨f0, f1, f2, f3, f4, f5⟩ := hf it (by simp)
    have hl := rv.length
    have E0 : its.toArray[i]? = none := by simp; omega
    have hT : s.TypeIs (.ref e) "enumerate" := ⟨_, he, rfl⟩
    unfold pyNext
    refine wpAny_bind (wpAny_attempt (wpAny_callSpecial?_slot (name := Str.ofString "__next__") hT F.slot_enumerate_next (wpAny_call_entry F.slot_enumerate_next hT F.entry_enumerate_next ?_ (F.args_enumerate_next_1 _))))
    show wpAny _ _ (field (.ref e) 2 >>= _) _ _ _
    refine wpAny_bind (wpAny_field he rfl (x := .ref it) rfl (wpAny_bind (wpAny_nextOf_tuple_end (I.ok.hd hc) hit p E0 fun h' x he' hx' => ?_)))
    obtain ⟨o, ho, hc'⟩ := hx'
    exact wpAny_bind (wpAny_isInstance (T := "StopIteration") (b := true) ⟨o, ho, hc'⟩ isSubtype_stop (wpAny_pure ⟨rfl, I.turned (t' := s.toks) (fun b o hb q => he' b o hb q) f0 f1 f3 f4 f5⟩))
  self := fun A i s Q E st h => let ⟨⟨_, he⟩, _⟩ := st; wpAny_pyIter_enum he h
def iEnumT (K : PySem.W.Frag) (ta : TA) : TI := fun σ H R => ta σ H fun vs H1 => ∃ a xs, vs = [.ref a] ∧ SqT K H1 a xs ∧ R (IteT K a) H1
theorem pi_enumT {X : Cx} {e : Expr} {ta : TA} {p pos tpos : Pos} {elts : List Expr} {kk : Nat} (hg : Gl X "enumerate") (hm : X.mg "enumerate" = none) (ha : PA X [e] ta) (hs : starEach [e] X.env = [(false, eval e X.env)] := by rfl) : PI X (.Tuple elts kk tpos) (.Call (.Name "enumerate" p) [e] [] pos) (iEnumT X.K ta) := by
  refine ⟨fun pins s σ H R I h => Call_ (ld_blt I hg hm boot_enumerate (PyProof.Rows.callWith_type1 (thn (ha.run pos pins s σ H _ I h) fun us s1 ⟨vs, H1, I1, r1, q1⟩ => ?_) hs rfl))⟩
  obtain ⟨a, xs, rfl, hq, q⟩ := q1
  rw [Vals.ref1 r1]
  obtain ⟨its, rv, p', hz⟩ := I1.tuple hq
  have la : a < s1.heap.objs.size := by obtain ⟨_, q, _⟩ := p'; exact Heap.lt_size q
  refine call_enumT (begins_tuple a its.toArray) p' fun h' he hit hk => wpAny_pyIter_enum he ?_
  have I2 : Inv X pins σ H1 { s1 with heap := h' } := I1.kept (t' := s1.toks) hk
  refine ⟨s1.heap.objs.size + 1, [s1.heap.objs.size + 1, s1.heap.objs.size], _, _, H1, rfl, I2, turn_enumT a (s1.heap.objs.size + 1) s1.heap.objs.size, ⟨⟨.none, he⟩, ⟨_, hit, rfl, rfl⟩, Nat.succ_ne_self _, Nat.ne_of_lt la, Nat.ne_of_lt (Nat.lt_succ_of_lt la)⟩, fun b hb => ?_, q⟩
  have hle : s1.heap.objs.size ≤ b := by
    rcases (show b = s1.heap.objs.size + 1 ∨ b = s1.heap.objs.size by simpa using hb) with z | z <;> (rw [z]; omega)
  exact I1.fpOk hle (I1.hok.fresh hle)
/-- what a turn of it gives -/
theorem walk_enumT {K : PySem.W.Frag} {a : Addr} {xs : List V} : Walk (IteT K a) xs.length (fun H => SqT K H a xs) (fun i H v H' => ∃ T x, v = .ref T ∧ H T = none ∧ H' = upd H T (.tup [.int (i : Nat), x]) ∧ xs[i]? = some x) where
  goes := fun i H hi g => ⟨xs, xs[i], g, List.getElem?_eq_getElem hi⟩
  stops := fun H g => ⟨xs, g, Nat.le_refl _⟩
  yields := fun i H v H' hi g z => by
    obtain ⟨T, x, e1, e2, e3, e4⟩ := z
    exact ⟨T, x, e1, e2, e3, e4 xs g⟩
end Lk
set_option Elab.async false
set_option linter.all false
set_option maxRecDepth 100000
set_option maxHeartbeats 2000000
/-! The draws of the laws with a pool. -/
namespace Lw
open PySem PySem.Spec PyProof.Rows L2 TxS LkO Lk
/-- all stands as it was, but what is at st -/
def SameX (st : Addr) (H H' : Hp) : Prop := ∀ b o, H b = some o → b ≠ st → H' b = some o
theorem SameX.refl (st : Addr) (H : Hp) : SameX st H H := fun _ _ e _ => e
theorem SameX.of {st : Addr} {H H' : Hp} (s : Same H H') : SameX st H H' := fun b o e _ => s b o e
theorem SameX.trans {st : Addr} {H H1 H2 : Hp} (s : SameX st H H1) (t : SameX st H1 H2) : SameX st H H2 := fun b o e n => t b o (s b o e n) n
section
variable {P : Program} {w : World} {K : PySem.W.Frag} {mg : Str → Option Value} {base : Heap}
/-! ### _law_draw -/
def spDraw : Sp := fun vs H Q _ => ∃ c k b : Int, vs = [.int c, .int k, .int b] ∧ 0 < b ∧ ∀ r H', Same H H' → 0 ≤ r → r < b → Q (.int r) H'
def primes : List Int := [1000003, 1000033, 1000037, 1000039, 1000081, 1000099, 1000117, 1000121, 1000133, 1000151, 1000159, 1000171, 1000183, 1000187, 1000193, 1000199]
theorem primes_pos : ∀ p ∈ primes, 0 < p := by decide
theorem scDraw : FnScope ["_law_cell", "_law_k", "_law_many", "_law_primes"] ["_law_cell", "_law_k", "_law_many"] (defScope s__law_draw) := ⟨rfl, rfl, rfl, by decide +kernel, rfl, by decide +kernel, by decide +kernel⟩
theorem ok_draw {f : Addr} {fd : FuncData} {k : Nat} (F : Fun K "_law_draw" "_law_draw" s__law_draw f fd) : FnOk P w K mg base CX0 (k + 1) f fd ["_law_cell", "_law_k", "_law_many"] spDraw := by
  refine F.ok scDraw (fun vs H Q E h => ?_) (fun cdv A outer s H vs Q E hr h => ?_)
  · obtain ⟨c, k, b, rfl, _⟩ := h
    rfl
  · obtain ⟨c, k', b, rfl, hb, q⟩ := h
    refine ⟨_, pss_cons (ps_set (i := 3) scDraw.nd rfl (.inl rfl) (pe_tup (pa_cons pe_int (pa_cons pe_int (pa_cons pe_int (pa_cons pe_int (pa_cons pe_int (pa_cons pe_int (pa_cons pe_int (pa_cons pe_int (pa_cons pe_int (pa_cons pe_int (pa_cons pe_int (pa_cons pe_int (pa_cons pe_int (pa_cons pe_int (pa_cons pe_int (pa_cons pe_int pa_nil))))))))))))))))))
      (pss_one (ps_ret (pe_op op_mod (pe_op op_mod (pe_op op_add (pe_op op_mul (pv 0) pe_int) (pe_op op_mul (pv 1) pe_int)) (pe_ix ix_tup (pv 3) (pe_op op_mod (pv 1) pe_int) (fun _ _ => rfl))) (pv 2)))), ?_⟩
    refine ⟨by show 16 ≤ sizeLine; rw [sizeLine_eq]; decide, fun p np => ?_⟩
    have m0 : 0 ≤ k' % 16 := Int.emod_nonneg _ (by decide)
    have m1 : k' % 16 < 16 := Int.emod_lt_of_pos _ (by decide)
    have lt : (k' % 16).toNat < primes.length := by
      show (k' % 16).toNat < 16
      omega
    have at_ : atI (primes.map V.int) (k' % 16) = some (.int primes[(k' % 16).toNat]) := by
      have := atI_nat (xs := primes.map V.int) (j := (k' % 16).toNat) (v := .int primes[(k' % 16).toNat]) (by rw [List.getElem?_map, List.getElem?_eq_getElem lt]; rfl)
      rw [Int.toNat_of_nonneg m0] at this
      exact this
    refine ⟨.int c, rfl, c, 48271, rfl, rfl, .inr ⟨by decide, by decide⟩, .int k', rfl, k', 69621, rfl, rfl, .inr ⟨by decide, by decide⟩, _, _, rfl, rfl, .ref p, rfl, .int k', rfl, k', 16, rfl, rfl, (show (0 : Int) < 16 by decide), p, _, _, _, rfl, rfl, .inl (.inl upd_same), at_, _, _, rfl, rfl, primes_pos _ (List.getElem_mem lt), .int b, rfl, _, b, rfl, rfl, hb, ?_⟩
    exact q _ _ (same_new np) (Int.emod_nonneg _ (by omega)) (Int.emod_lt_of_pos _ hb)
/-! ### _law_cell_at -/
def spCell (K : PySem.W.Frag) : Sp := fun vs H Q _ => ∃ (a : Addr) (ns : List Int) (j : Nat), vs = [.ref a, .int j] ∧ SqL K H a (ns.map V.int) ∧ ∀ (c : Int) H', Same H H' → 0 ≤ c → Q (.int c) H'
theorem scCell : FnScope ["_law_script", "_law_k"] ["_law_script", "_law_k"] (defScope s__law_cell_at) := ⟨rfl, rfl, rfl, by decide +kernel, rfl, by decide +kernel, by decide +kernel⟩
theorem abs_pos (i : Int) : 0 ≤ (if i < 0 then -i else i) := by
  split <;> omega
theorem ok_cell {f : Addr} {fd : FuncData} (F : Fun K "_law_cell_at" "_law_cell_at" s__law_cell_at f fd) (B : Blt mg) (mA : mg "abs" = none) (GD : Fn P w K mg base 1 "_law_draw" ["_law_cell", "_law_k", "_law_many"] spDraw) : FnOk P w K mg base CX0 2 f fd ["_law_script", "_law_k"] (spCell K) := by
  refine F.ok scCell (fun vs H Q E h => ?_) (fun cdv A outer s H vs Q E hr h => ?_)
  · obtain ⟨a, ns, j, rfl, _⟩ := h
    rfl
  · obtain ⟨a, ns, j, rfl, ha, q⟩ := h
    refine ⟨_, pss_cons (ps_if (pt_cmpR op_lt (pv 1) (pe_callB call_len_seq (by rfl) B.len PySem.boot_len (pa_cons (pv 0) pa_nil)) (nomark _)) (pss_one (ps_ret (pe_callB call_abs (by rfl) mA PyProof.Rows.boot_abs (pa_cons (pe_ix ix_list (pv 0) (pv 1) (fun _ _ => rfl)) pa_nil)))) pss_nil)
      (pss_one (ps_ret (pe_fn GD hr (by rfl) (pa_cons (pe_op op_add (pe_callB call_abs (by rfl) mA PyProof.Rows.boot_abs (pa_cons (pe_callB (cr_sum rfl) (by rfl) B.sum PyProof.Rows.boot_sum (pa_cons (pv 0) pa_nil)) pa_nil)) (pe_op op_mul pe_int (pv 1))) (pa_cons (pv 1) (pa_cons pe_int pa_nil)))))), ?_⟩
    refine ⟨.int j, rfl, .ref a, rfl, a, _, rfl, .inl ha, _, _, rfl, rfl, _, rfl, ite2 (fun e => ?_) (fun e => ?_)⟩
    · have lt : j < ns.length := by
        have := of_decide_eq_true e
        rw [List.length_map] at this
        omega
      exact ⟨.ref a, rfl, .int j, rfl, a, _, j, _, rfl, rfl, ha, atI_nat (by rw [List.getElem?_map, List.getElem?_eq_getElem lt]; rfl), _, rfl, q _ _ (Same.refl _) (abs_pos _)⟩
    · refine ⟨.ref a, rfl, a, ns, rfl, ha, _, rfl, .int j, rfl, 7919, _, rfl, rfl, .inl ⟨by decide, by decide⟩, _, _, rfl, rfl, .int j, rfl, _, _, _, rfl, by decide, fun r H' s' r0 r1 => q r H' s' r0⟩
/-! ### _law_digits -/
def spDigits (K : PySem.W.Frag) : Sp := fun vs H Q _ => ∃ (a : Addr) (ns : List Int) (j : Nat) (b : Int), vs = [.ref a, .int j, .int 150, .int b] ∧ SqL K H a (ns.map V.int) ∧ 0 < b ∧ b < 1073741824 ∧ ∀ (ds : List Int) H' p, Same H H' → ds.length ≤ 150 → H' p = some (.lst (ds.map V.int)) → Q (.ref p) H'
abbrev nDig : List Str := ["_law_script", "_law_at", "_law_many", "_law_base", "_law_cell", "_law_found", "_law_left", "_law_turn", "_law_blend", "_law_more"]
theorem scDig : FnScope nDig ["_law_script", "_law_at", "_law_many", "_law_base"] (defScope s__law_digits) := ⟨rfl, rfl, rfl, by decide +kernel, rfl, by decide +kernel, by decide +kernel⟩
theorem ok_digits {f : Addr} {fd : FuncData} (F : Fun K "_law_digits" "_law_digits" s__law_digits f fd) (B : Blt mg) (GC : Fn P w K mg base 2 "_law_cell_at" ["_law_script", "_law_k"] (spCell K)) (GD : Fn P w K mg base 1 "_law_draw" ["_law_cell", "_law_k", "_law_many"] spDraw) : FnOk P w K mg base CX0 3 f fd ["_law_script", "_law_at", "_law_many", "_law_base"] (spDigits K) := by
  refine F.ok scDig (fun vs H Q E h => ?_) (fun cdv A outer s H vs Q E hr h => ?_)
  · obtain ⟨a, ns, j, b, rfl, _⟩ := h
    rfl
  · obtain ⟨a, ns, j, b, rfl, ha, b0, b1, q⟩ := h
    have hr1 := hr.mono (show 1 ≤ 2 by decide)
    refine ⟨_, pss_cons (ps_par (i := 4) (j := 5) rfl scDig.nd rfl rfl (by decide) rfl rfl (pa_cons (pe_fn GC hr (by rfl) (pa_cons (pv 0) (pa_cons (pv 1) pa_nil))) (pa_cons (pe_lst pa_nil) pa_nil)) rfl)
      (pss_cons (ps_set (i := 6) scDig.nd rfl (.inl rfl) (pe_op op_sub (pv 4) (pe_op op_pow pe_int pe_int)))
      (pss_cons (ps_for PassesOwn.never rfl (pi_range1 (by rfl) B.rng (pa_cons (pv 2) pa_nil)) (pg_name (i := 7) scDig.nd rfl (Or.inl rfl))
        (pss_one (ps_if (pt_cmpR op_ge (pv 4) (pe_op op_pow pe_int pe_int) (nomark _))
          (pss_cons (ps_expr (pe_bm PySem.F.plainAttrs_list PySem.F.slot_list_append PySem.F.type_list_append mt_append (pv 5) (pa_cons (pe_op op_mod (pv 6) (pv 3)) pa_nil)))
          (pss_one (ps_set (i := 6) scDig.nd rfl (.inl rfl) (pe_op op_fdiv (pv 6) (pv 3)))))
          (pss_cons (ps_set (i := 8) scDig.nd rfl (.inl rfl) (pe_fn GD hr1 (by rfl) (pa_cons (pe_op op_mul (pe_op op_add (pv 4) (pe_op op_mul pe_int (pv 7))) (pe_op op_add (pe_op op_add (pv 4) (pe_op op_mul pe_int (pv 7))) pe_int)) (pa_cons (pe_op op_add (pe_op op_mod (pv 7) pe_int) pe_int) (pa_cons pe_int pa_nil)))))
          (pss_cons (ps_set (i := 9) scDig.nd rfl (.inl rfl) (pe_fn GD hr1 (by rfl) (pa_cons (pe_op op_add (pe_op op_mul (pe_op op_add (pv 4) (pe_op op_mul pe_int (pv 7))) (pe_op op_add (pv 4) pe_int)) (pe_op op_mul pe_int (pv 7))) (pa_cons (pe_op op_add (pe_op op_mod (pv 7) pe_int) pe_int) (pa_cons pe_int pa_nil)))))
          (pss_one (ps_expr (pe_bm PySem.F.plainAttrs_list PySem.F.slot_list_append PySem.F.type_list_append mt_append (pv 5) (pa_cons (pe_op op_mod (pe_op op_add (pe_op op_mul (pv 8) pe_int) (pv 9)) (pv 3)) pa_nil)))))))))
      (pss_one (ps_ret (pv 5))))), ?_⟩
    refine ⟨.ref a, rfl, .int j, rfl, a, ns, j, rfl, ha, fun c H1 s1 c0 => ⟨Nat.zero_le _, fun p np => ⟨_, _, rfl, ?_⟩⟩⟩
    have nHp : H p = none := by
      cases e : H p with
      | none => rfl
      | some o =>
        have := s1 _ _ e
        rw [np] at this
        cases this
    have s2 : Same H (upd H1 p (.lst [])) := Same.up s1 nHp
    refine ⟨.int c, rfl, 10, 18, rfl, rfl, ⟨by decide, by decide, by decide⟩, c, _, rfl, rfl, ?_⟩
    refine ⟨.int 150, rfl, 150, rfl, by decide, by decide, for_it walk_range (fun i σ H' => ∃ (ds : List Int) (l : Int) (y7 y8 y9 : Option V), Same H H' ∧ ds.length ≤ i ∧ H' p = some (.lst (ds.map V.int)) ∧ σ = [some (.ref a), some (.int j), some (.int 150), some (.int b), some (.int c), some (.ref p), some (.int l), y7, y8, y9])
      ⟨[], _, none, none, none, s2, Nat.zero_le _, upd_same, rfl⟩ (fun _ _ _ _ _ => trivial) (fun i x σ H3 H4 hi hP hY => ?_) (fun σ H3 hP => ?_)⟩
    · obtain ⟨rfl, rfl⟩ := hY
      obtain ⟨ds, l, y7, y8, y9, s3, ld, ep, rfl⟩ := hP
      have hi : i < 150 := hi
      have lx : (ds.map V.int).length < sizeLine := by rw [List.length_map, sizeLine_eq]; omega
      have fin : ∀ (H' : Hp) (z : Int), Same H4 H' → Same H (upd H' p (.lst (ds.map V.int ++ [.int z]))) ∧ (ds ++ [z]).length ≤ i + 1 ∧ (upd H' p (.lst (ds.map V.int ++ [.int z]))) p = some (.lst ((ds ++ [z]).map V.int)) := fun H' z s' => ⟨Same.up (s3.trans s') nHp, by rw [List.length_append]; show ds.length + 1 ≤ i + 1; omega, by rw [upd_same, List.map_append]; rfl⟩
      refine ⟨.int c, rfl, 10, 18, rfl, rfl, ⟨by decide, by decide, by decide⟩, c, _, rfl, rfl, _, rfl, ite2 (fun e => ?_) (fun e => ?_)⟩
      · refine ⟨.ref p, rfl, .inl ⟨rfl, _, .inl (.inl ep)⟩, .int l, rfl, .int b, rfl, l, b, rfl, rfl, b0, p, _, _, rfl, rfl, ep, lx, ?_⟩
        obtain ⟨f1, f2, f3⟩ := fin H4 (l % b) (Same.refl _)
        exact ⟨.int l, rfl, .int b, rfl, l, b, rfl, rfl, ⟨b0, b1⟩, ds ++ [l % b], l / b, _, y8, y9, f1, f2, f3, rfl⟩
      · have c1 : c < 10 ^ 18 := by
          have := of_decide_eq_false (Bool.eq_false_iff.mpr e)
          have e10 : (10 : Int) ^ (18 : Int).toNat = 10 ^ 18 := rfl
          omega
        have c2 : c < 1000000000000000000 := c1
        refine ⟨.int c, rfl, _, rfl, 977, _, rfl, rfl, .inl ⟨by decide, by decide⟩, _, _, rfl, rfl, .int c, rfl, _, rfl, 31, _, rfl, rfl, .inl ⟨by decide, by decide⟩, _, _, rfl, rfl, _, 5, rfl, rfl, _, _, rfl, rfl, .inl ⟨by omega, by omega⟩, _, rfl, _, 9, rfl, rfl, (show (0 : Int) < 9 by decide), _, 1, rfl, rfl, _, _, _, rfl, by decide, fun r H5 s5 r0 r1 => ?_⟩
        refine ⟨.int c, rfl, _, rfl, 31, _, rfl, rfl, .inl ⟨by decide, by decide⟩, _, _, rfl, rfl, .int c, rfl, _, 7, rfl, rfl, _, _, rfl, rfl, .inl ⟨by omega, by omega⟩, _, rfl, 977, _, rfl, rfl, .inl ⟨by decide, by decide⟩, _, _, rfl, rfl, _, rfl, _, 7, rfl, rfl, (show (0 : Int) < 7 by decide), _, 2, rfl, rfl, _, _, _, rfl, by decide, fun r' H6 s6 r0' r1' => ?_⟩
        have ep6 := s6 _ _ (s5 _ _ ep)
        refine ⟨.ref p, rfl, .inl ⟨rfl, _, .inl (.inl ep6)⟩, .int r, rfl, _, _, rfl, rfl, .inr ⟨by decide, by decide⟩, .int r', rfl, _, _, rfl, rfl, .int b, rfl, _, b, rfl, rfl, b0, p, _, _, rfl, rfl, ep6, lx, ?_⟩
        obtain ⟨f1, f2, f3⟩ := fin H6 ((r * 1000003 + r') % b) (s5.trans s6)
        exact ⟨ds ++ [(r * 1000003 + r') % b], l, _, _, _, f1, f2, f3, rfl⟩
    · obtain ⟨ds, l, y7, y8, y9, s3, ld, ep, rfl⟩ := hP
      exact ⟨.ref p, rfl, q ds _ p s3 ld ep⟩
/-! ### _law_pool -/
def spPool (K : PySem.W.Frag) : Sp := fun vs H Q _ => ∃ (a t : Addr) (ns : List Int), vs = [.ref a, .ref t] ∧ SqL K H a (ns.map V.int) ∧ SqT K H t [.int 1000003, .int 999983] ∧ ∀ (ds : List Int) H' p, Same H H' → H p = none → H' p = some (.lst (ds.map V.int)) → Q (.ref p) H'
abbrev nPool : List Str := ["_law_script", "_law_bases", "_law_found", "_law_at", "_law_base"]
theorem scPool : FnScope nPool ["_law_script", "_law_bases"] (defScope s__law_pool) := ⟨rfl, rfl, rfl, by decide +kernel, rfl, by decide +kernel, by decide +kernel⟩
theorem ok_pool {f : Addr} {fd : FuncData} (F : Fun K "_law_pool" "_law_pool" s__law_pool f fd) (mE : mg "enumerate" = none) (GD : Fn P w K mg base 3 "_law_digits" ["_law_script", "_law_at", "_law_many", "_law_base"] (spDigits K)) : FnOk P w K mg base CX0 4 f fd ["_law_script", "_law_bases"] (spPool K) := by
  refine F.ok scPool (fun vs H Q E h => ?_) (fun cdv A outer s H vs Q E hr h => ?_)
  · obtain ⟨a, t, ns, rfl, _⟩ := h
    rfl
  · obtain ⟨a, t, ns, rfl, ha, ht, q⟩ := h
    refine ⟨_, pss_cons (ps_set (i := 2) scPool.nd rfl (.inl rfl) (pe_lst pa_nil))
      (pss_cons (ps_for PassesOwn.never rfl (pi_enumT (by rfl) mE (pa_cons (pv 1) pa_nil)) (pg_tup rfl (pgs_cons (pg_name (i := 3) scPool.nd rfl (Or.inl rfl)) (pgs_cons (pg_name (i := 4) scPool.nd rfl (Or.inl rfl)) pgs_nil)))
        (pss_one (ps_set (i := 2) scPool.nd rfl (.inl rfl) (pe_op op_cat (pv 2) (pe_fn GD hr (by rfl) (pa_cons (pv 0) (pa_cons (pv 3) (pa_cons pe_int (pa_cons (pv 4) pa_nil)))))))))
      (pss_one (ps_ret (pv 2)))), ?_⟩
    refine ⟨Nat.zero_le _, fun p np => ⟨.ref t, rfl, t, _, rfl, Same.tup (same_new np) ht, for_it walk_enumT (fun i σ H' => ∃ (ds : List Int) (p : Addr) (y3 y4 : Option V), Same H H' ∧ ds.length ≤ 150 * i ∧ H p = none ∧ H' p = some (.lst (ds.map V.int)) ∧ σ = [some (.ref a), some (.ref t), some (.ref p), y3, y4])
      ⟨[], p, none, none, same_new np, Nat.zero_le _, np, upd_same, rfl⟩ (fun i σ H' _ hP => by obtain ⟨_, _, _, _, z, _⟩ := hP; exact Same.tup z ht) (fun i x σ H3 H4 hi hP hY => ?_) (fun σ H3 hP => ?_)⟩⟩
    · obtain ⟨T, u, rfl, nT, rfl, hu⟩ := hY
      obtain ⟨ds, p, y3, y4, s3, ld, np, ep, rfl⟩ := hP
      have hi : i < 2 := hi
      obtain ⟨b, rfl, b0, b1⟩ : ∃ b : Int, u = .int b ∧ 0 < b ∧ b < 1073741824 := by
        match i, hi with
        | 0, _ => cases hu; exact ⟨_, rfl, by decide, by decide⟩
        | 1, _ => cases hu; exact ⟨_, rfl, by decide, by decide⟩
      have sT := same_new (o := .tup [.int (i : Nat), .int b]) nT
      refine ⟨T, _, rfl, .inl (.inl upd_same), rfl, _, _, rfl, _, _, rfl, rfl, ?_⟩
      refine ⟨.ref p, rfl, .ref a, rfl, .int (i : Nat), rfl, .int b, rfl, a, ns, i, b, rfl, (s3.trans sT).seq ha, b0, b1, fun es H5 r s5 le er => ?_⟩
      refine ⟨p, r, _, _, rfl, rfl, s5 _ _ (sT _ _ ep), er, by rw [List.length_map, List.length_map, sizeLine_eq]; omega, fun m nm => ⟨ds ++ es, m, _, _, ((s3.trans sT).trans s5).trans (same_new nm), by rw [List.length_append]; omega, ?_, by rw [upd_same, List.map_append], rfl⟩⟩
      cases e : H m with
      | none => rfl
      | some o =>
        have := s5 _ _ (sT _ _ (s3 _ _ e))
        rw [nm] at this
        cases this
    · obtain ⟨ds, p, y3, y4, s3, ld, np, ep, rfl⟩ := hP
      exact ⟨.ref p, rfl, q ds _ p s3 np ep⟩
end
end Lw
set_option Elab.async false
set_option linter.all false
set_option maxRecDepth 100000
set_option maxHeartbeats 4000000
namespace Lw
open PySem PySem.Spec PyProof.Rows L2 TxS LkO Lk
/-- the draws that are left -/
def DrE (H : Hp) (dr : Addr) : Prop := ∃ ds : List Int, H dr = some (.lst (ds.map V.int))
/-- numbers were drawn, objects were made -/
structure Mw (dr : Addr) (H H' : Hp) : Prop where
  sx : SameX dr H H'
  se : DrE H' dr
theorem DrE.same {H H' : Hp} {dr : Addr} (h : DrE H dr) (s : Same H H') : DrE H' dr := h.imp fun _ e => s _ _ e
theorem DrE.ne {H : Hp} {dr a : Addr} {o : HO} (h : DrE H dr) (ha : H a = some o) (d : ∀ xs, o ≠ .lst xs) : a ≠ dr := fun e => by
  obtain ⟨ds, hd⟩ := h
  rw [e, hd] at ha
  cases ha
  exact d _ rfl
theorem DrE.new {H : Hp} {dr a : Addr} (h : DrE H dr) (n : H a = none) : a ≠ dr := fun e => by
  obtain ⟨ds, hd⟩ := h
  rw [e, hd] at n
  cases n
theorem Mw.refl {dr : Addr} {H : Hp} (h : DrE H dr) : Mw dr H H := ⟨SameX.refl _ _, h⟩
theorem Mw.of {dr : Addr} {H H' : Hp} (h : DrE H dr) (s : Same H H') : Mw dr H H' := ⟨SameX.of s, h.same s⟩
theorem Mw.trans {dr : Addr} {H H1 H2 : Hp} (a : Mw dr H H1) (b : Mw dr H1 H2) : Mw dr H H2 := ⟨a.sx.trans b.sx, b.se⟩
theorem Mw.more {dr : Addr} {H H1 H2 : Hp} (a : Mw dr H H1) (s : Same H1 H2) : Mw dr H H2 := a.trans (Mw.of a.se s)
theorem Mw.at_ {dr a : Addr} {H H' : Hp} {o : HO} (m : Mw dr H H') (h : DrE H dr) (ha : H a = some o) (d : ∀ xs, o ≠ .lst xs) : H' a = some o := m.sx _ _ ha (h.ne ha d)
theorem Mw.tup {K : PySem.W.Frag} {dr a : Addr} {H H' : Hp} {xs : List V} (m : Mw dr H H') (h : DrE H dr) (ha : SqT K H a xs) : SqT K H' a xs := by
  rcases ha with (e | ⟨o, e⟩) | e
  · exact .inl (.inl (m.at_ h e fun _ z => by cases z))
  · exact .inl (.inr ⟨o, m.at_ h e fun _ z => by cases z⟩)
  · exact .inr e
theorem Mw.lst {K : PySem.W.Frag} {dr a : Addr} {H H' : Hp} {xs : List V} (m : Mw dr H H') (n : a ≠ dr) (ha : SqL K H a xs) : SqL K H' a xs := by
  rcases ha with (e | ⟨o, e⟩) | e
  · exact .inl (.inl (m.sx _ _ e n))
  · exact .inl (.inr ⟨o, m.sx _ _ e n⟩)
  · exact .inr e
theorem Mw.fresh {dr a : Addr} {H H' : Hp} (m : Mw dr H H') (n : H' a = none) : H a = none := by
  cases e : H a with
  | none => rfl
  | some o =>
    have := m.sx _ _ e (m.se.new n)
    rw [n] at this
    cases this
/-- what is new is not the draws -/
theorem Mw.new {dr p : Addr} {H H' : Hp} {o : HO} (m : Mw dr H H') (h : DrE H dr) (n : H p = none) : Mw dr H (upd H' p o) := by
  refine ⟨fun b u e hb => ?_, ?_⟩
  · rw [upd_ne (ne_of_none e n)]
    exact m.sx _ _ e hb
  · obtain ⟨ds, e⟩ := m.se
    exact ⟨ds, by rw [upd_ne (h.new n).symm]; exact e⟩
section
variable {P : Program} {w : World} {K : PySem.W.Frag} {mg : Str → Option Value} {base : Heap}
/-! ### _law_take -/
theorem canLay_ints : ∀ ds : List Int, PyData.canLayAll0 (ds.map PyData.int) = true
  | [] => by simp [PyData.canLayAll0]
  | z :: r => by simp [PyData.canLayAll0, PyData.canLay0, canLay_ints r]
theorem depth_ints : ∀ ds : List Int, PyData.depthAll (ds.map PyData.int) ≤ 1
  | [] => by simp [PyData.depthAll]
  | z :: r => by
    have := depth_ints r
    simp only [List.map_cons, PyData.depthAll, PyData.depth]
    omega
theorem shaped_ints (ds : List Int) : SeqAt.shaped (.list (ds.map PyData.int)) = true := by
  have h1 := depth_ints ds
  have h2 : PyData.depth (.list (ds.map PyData.int)) ≤ 64 := by simp only [PyData.depth]; omega
  show (PyData.canLay0 _ && decide _) = true
  rw [Bool.and_eq_true]
  exact ⟨by simp only [PyData.canLay0]; exact canLay_ints ds, decide_eq_true h2⟩
theorem dp_ints {K : PySem.W.Frag} {H : Hp} : ∀ ds : List Int, DpAll K H (ds.map V.int) (ds.map PyData.int)
  | [] => .nil
  | z :: r => .cons (.int z) (dp_ints r)
def spTake : Sp := fun vs H Q _ => ∃ (dr : Addr) (m : Int), vs = [.ref dr, .int m] ∧ DrE H dr ∧ 0 < m ∧ ∀ r H', 0 ≤ r → r < m → Mw dr H H' → Q (.int r) H'
theorem scTake : FnScope ["_law_draws", "_law_many"] ["_law_draws", "_law_many"] (defScope s__law_take) := ⟨rfl, rfl, rfl, by decide +kernel, rfl, by decide +kernel, by decide +kernel⟩
theorem ok_take {f : Addr} {fd : FuncData} {k : Nat} (F : Fun K "_law_take" "_law_take" s__law_take f fd) : FnOk P w K mg base CX0 (k + 1) f fd ["_law_draws", "_law_many"] spTake := by
  refine F.ok scTake (fun vs H Q E h => ?_) (fun cdv A outer s H vs Q E hr h => ?_)
  · obtain ⟨dr, m, rfl, _⟩ := h
    rfl
  · obtain ⟨dr, m, rfl, hd, hm, q⟩ := h
    refine ⟨_, pss_one (ps_ret (pe_ifExp (pt_cmpR (op_neD hr.units) (pv 0) (pe_lst pa_nil) (nomark _)) (pe_op op_mod (pe_bm PySem.F.plainAttrs_list PySem.F.slot_list_pop PySem.F.type_list_pop mt_popAt (pv 0) (pa_cons pe_int pa_nil)) (pv 1)) pe_int)), ?_⟩
    obtain ⟨ds, ed⟩ := id hd
    refine ⟨.ref dr, rfl, Nat.zero_le _, fun p np => ?_⟩
    have s1 := same_new (o := .lst []) np
    have e1 := s1 _ _ ed
    refine ⟨_, _, .lst (.inl (.inl e1)) (dp_ints ds), .lst (.inl (.inl upd_same)) .nil, shaped_ints ds, by decide +kernel, _, rfl, ite2 (fun e => ?_) (fun e => ?_)⟩
    · cases ds with
      | nil => exact absurd e (by decide +kernel)
      | cons d r =>
        refine ⟨.ref dr, rfl, .inl ⟨rfl, _, .inl (.inl e1)⟩, dr, _, 0, 0, .int d, rfl, rfl, e1, by decide, by decide, ?_, rfl, .int m, rfl, d, m, rfl, rfl, hm, ?_⟩
        · show seqIndex? 0 ((List.map V.int (d :: r)).length : Nat) = some 0
          unfold seqIndex?
          simp
        · exact q _ _ (Int.emod_nonneg _ (by omega)) (Int.emod_lt_of_pos _ hm) ⟨fun b o eb nb => by rw [upd_ne nb]; exact s1 _ _ eb, r, upd_same⟩
    · exact q 0 _ (Int.le_refl _) hm (Mw.of hd s1)
/-! ### _law_some -/
/-- some of zs, in some order -/
def SomeOf (ys zs : List Str) : Prop := ∃ sub : List Str, sub.Sublist zs ∧ ys.Perm sub
theorem SomeOf.mem {ys zs : List Str} (h : SomeOf ys zs) : ∀ z ∈ ys, z ∈ zs := fun z hz => by
  obtain ⟨sub, s, p⟩ := h
  exact s.subset (p.mem_iff.mp hz)
theorem SomeOf.nd {ys zs : List Str} (h : SomeOf ys zs) (nd : zs.Nodup) : ys.Nodup := by
  obtain ⟨sub, s, p⟩ := h
  exact p.nodup_iff.mpr (nd.sublist s)
theorem SomeOf.len {ys zs : List Str} (h : SomeOf ys zs) : ys.length ≤ zs.length := by
  obtain ⟨sub, s, p⟩ := h
  rw [p.length_eq]
  exact s.length_le
theorem SomeOf.are {ys zs : List Str} (h : SomeOf ys zs) (nm : ∀ z ∈ zs, isNm z = true) (nd : zs.Nodup) : areNm ys = true := by
  unfold areNm
  rw [Bool.and_eq_true]
  exact ⟨List.all_eq_true.mpr fun z hz => nm z (h.mem z hz), decide_eq_true (h.nd nd)⟩
theorem some_put {ys zs : List Str} {i : Nat} {z : Str} (h : SomeOf ys (zs.take i)) (hz : zs[i]? = some z) (j : Nat) : SomeOf (ys.take j ++ [z] ++ ys.drop j) (zs.take (i + 1)) := by
  obtain ⟨sub, s, p⟩ := h
  refine ⟨sub ++ [z], by rw [take_next1 hz]; exact s.append (List.Sublist.refl _), ?_⟩
  have e1 : (ys.take j ++ [z] ++ ys.drop j).Perm (ys.take j ++ (ys.drop j ++ [z])) := by
    rw [List.append_assoc]
    exact List.Perm.append_left _ List.perm_append_comm
  refine e1.trans ?_
  rw [← List.append_assoc, List.take_append_drop]
  exact p.append_right _
theorem some_skip {ys zs : List Str} {i : Nat} {z : Str} (h : SomeOf ys (zs.take i)) (hz : zs[i]? = some z) : SomeOf ys (zs.take (i + 1)) := by
  obtain ⟨sub, s, p⟩ := h
  exact ⟨sub, s.trans (by rw [take_next1 hz]; exact List.sublist_append_left _ _), p⟩
theorem map_put (ys : List Str) (z : Str) (j : Nat) : (ys.map V.str).take j ++ [V.str z] ++ (ys.map V.str).drop j = (ys.take j ++ [z] ++ ys.drop j).map V.str := by
  simp
theorem scSome : FnScope ["_law_draws", "_law_items", "_law_many", "_law_found", "_law_one"] ["_law_draws", "_law_items", "_law_many"] (defScope s__law_some) := ⟨rfl, rfl, rfl, by decide +kernel, rfl, by decide +kernel, by decide +kernel⟩
def spSomeT (K : PySem.W.Frag) : Sp := fun vs H Q _ => ∃ (dr t : Addr) (zs : List Str) (m : Int), vs = [.ref dr, .ref t, .int m] ∧ DrE H dr ∧ SqT K H t (zs.map V.str) ∧ zs.length ≤ 1000 ∧ 0 < m ∧ ∀ H' p (ys : List Str), SomeOf ys zs → Mw dr H H' → H p = none → H' p = some (.tup (ys.map V.str)) → Q (.ref p) H'
def spSomeL (K : PySem.W.Frag) : Sp := fun vs H Q _ => ∃ (dr t : Addr) (zs : List Str) (m : Int), vs = [.ref dr, .ref t, .int m] ∧ DrE H dr ∧ SqL K H t (zs.map V.str) ∧ t ≠ dr ∧ zs.length ≤ 1000 ∧ 0 < m ∧ ∀ H' p (ys : List Str), SomeOf ys zs → Mw dr H H' → H p = none → H' p = some (.tup (ys.map V.str)) → Q (.ref p) H'
/-- the loop of it, over whatever gives zs -/
theorem some_loop {J : It} {n : Nat} {G : Hp → Prop} (zs : List Str) (w : Walk J n G (YAt (zs.map V.str))) {dr t D : Addr} {m : Int} {H : Hp} {hr : True} {En : Ends} (hn : n = zs.length) (few : zs.length ≤ 1000) (hm : 0 < m) (hd : DrE H dr) (nD : H D = none) (hG : ∀ H', Mw dr H H' → G H')
    (fin : ∀ H' (ys : List Str) (y4 : Option V), SomeOf ys zs → Mw dr H H' → H' D = some (.lst (ys.map V.str)) → En.nx [some (.ref dr), some (.ref t), some (.int m), some (.ref D), y4] H') :
    ∃ W : Nat → Nat → L2.St → Hp → Prop, (∃ k, W 0 k [some (.ref dr), some (.ref t), some (.int m), some (.ref D), none] (upd H D (.lst []))) ∧ ∀ i k σ H, W i k σ H → (J.stop i H ∧ En.nx σ H) ∨ (J.go i H ∧ ∃ N : L2.St → Hp → Prop, (∀ σ' H', N σ' H' → ∃ k', k' < k ∧ W (i + 1) k' σ' H') ∧ ∀ x H', J.yld i H x H' → gName 4 x σ H' fun σ2 H2 =>
      tIfS (tTest (tOp rEq (tCall spTake [] E0 (tCons (tVar 0) (tCons (tVar 2) tNil))) (tC (.int 0)))) (tDrop (tBM K "list" (fun x vs H Q => ∃ (l : Addr) (xs : List V) (i : Int) (y : V), x = .ref l ∧ vs = [.int i, y] ∧ H l = some (.lst xs) ∧ xs.length < sizeLine ∧ 0 ≤ i ∧ i < 2 ^ 63 ∧ Q .non (upd H l (.lst (xs.take i.toNat ++ [y] ++ xs.drop i.toNat)))) (tVar 3)
        (tCons (tCall spTake [] E0 (tCons (tVar 0) (tCons (tOp (rI0 fun i j => .int (i + j)) (tCB (fun xs H Q => ∃ p ys, xs = [.ref p] ∧ (SqL K H p ys ∨ SqT K H p ys) ∧ Q (.int ys.length) H) (tCons (tVar 3) tNil)) (tC (.int 1))) tNil))) (tCons (tVar 4) tNil)))) tNext { En with nx := N, ct := N, bk := En.nx } σ2 H2) := by
  have nd : D ≠ dr := hd.new nD
  refine for_it w (fun i σ H' => ∃ (ys : List Str) (y4 : Option V), SomeOf ys (zs.take i) ∧ Mw dr H H' ∧ H' D = some (.lst (ys.map V.str)) ∧ σ = [some (.ref dr), some (.ref t), some (.int m), some (.ref D), y4]) ⟨[], none, ⟨[], List.nil_sublist _, .nil⟩, (Mw.refl hd).new hd nD, upd_same, rfl⟩ (fun i σ H' _ hP => by obtain ⟨_, _, _, z, _⟩ := hP; exact hG H' z) (fun i x σ H3 H4 hi hP hY => ?_) (fun σ H3 hP => ?_)
  · obtain ⟨rfl, hx⟩ := hY
    obtain ⟨ys, y4, so, mv, eD, rfl⟩ := hP
    obtain ⟨z, hz, rfl⟩ := at_map hx
    have ly : ys.length ≤ 1000 := Nat.le_trans so.len (by rw [List.length_take]; omega)
    refine ⟨.ref dr, rfl, .int m, rfl, dr, m, rfl, mv.se, hm, fun r H5 r0 r1 m5 => ⟨rfl, _, rfl, ite2 (fun e => ?_) (fun e => ?_)⟩⟩
    · have eD5 := m5.sx _ _ eD nd
      refine ⟨.ref D, rfl, .inl ⟨rfl, _, .inl (.inl eD5)⟩, .ref dr, rfl, .ref D, rfl, D, _, rfl, .inl (.inl (.inl eD5)), _, 1, rfl, rfl, dr, _, rfl, m5.se, by omega, fun r' H6 r0' r1' m6 => ?_⟩
      have eD6 := m6.sx _ _ eD5 nd
      rw [List.length_map] at r1'
      refine ⟨.str z, rfl, D, _, r', .str z, rfl, rfl, eD6, by rw [List.length_map]; exact small1000 ly, r0', by omega, ys.take r'.toNat ++ [z] ++ ys.drop r'.toNat, some (.str z), some_put so hz _, ((mv.trans m5).trans m6).new hd nD, by rw [upd_same, map_put], rfl⟩
    · exact ⟨ys, some (.str z), some_skip so hz, mv.trans m5, m5.sx _ _ eD nd, rfl⟩
  · obtain ⟨ys, y4, so, mv, eD, rfl⟩ := hP
    rw [hn, List.take_length] at so
    exact fin H3 ys y4 so mv eD
theorem ok_someT {f : Addr} {fd : FuncData} (F : Fun K "_law_some" "_law_some" s__law_some f fd) (B : Blt mg) (GX : Fn P w K mg base 1 "_law_take" ["_law_draws", "_law_many"] spTake) : FnOk P w K mg base CX0 2 f fd ["_law_draws", "_law_items", "_law_many"] (spSomeT K) := by
  refine F.ok scSome (fun vs H Q E h => ?_) (fun cdv A outer s H vs Q E hr h => ?_)
  · obtain ⟨dr, t, zs, m, rfl, _⟩ := h
    rfl
  · obtain ⟨dr, t, zs, m, rfl, hd, ht, few, hm, q⟩ := h
    refine ⟨_, pss_cons (ps_set (i := 3) scSome.nd rfl (.inl rfl) (pe_lst pa_nil))
      (pss_cons (ps_for PassesOwn.never rfl (pi_tup (pv 1)) (pg_name (i := 4) scSome.nd rfl (Or.inl rfl))
        (pss_one (ps_if (pt_cmpR op_eq (pe_fn GX hr (by rfl) (pa_cons (pv 0) (pa_cons (pv 2) pa_nil))) pe_int (nomark _)) (pss_one (ps_expr (pe_bm PySem.F.plainAttrs_list PySem.F.slot_list_insert PySem.F.type_list_insert mt_insert (pv 3) (pa_cons (pe_fn GX hr (by rfl) (pa_cons (pv 0) (pa_cons (pe_op op_add (pe_callB call_len_seq (by rfl) B.len PySem.boot_len (pa_cons (pv 3) pa_nil)) pe_int) pa_nil))) (pa_cons (pv 4) pa_nil))))) pss_nil)))
      (pss_one (ps_ret (pe_callTy call_tuple_of (by rfl) B.tup PyProof.Rows.boot_tuple (pa_cons (pv 3) pa_nil))))), ?_⟩
    refine ⟨Nat.zero_le _, fun D nD => ⟨.ref t, rfl, t, rfl, ⟨_, Same.tup (same_new nD) ht⟩, some_loop zs (walk_tup (xs := zs.map V.str)) (hr := trivial) (by rw [List.length_map]) few hm hd nD (fun H' z => z.tup hd ht) (fun H' ys y4 so mv eD => ?_)⟩⟩
    exact ⟨.ref D, rfl, D, _, rfl, .inl ⟨.inl (.inl eD), fun p np => q _ p ys so (mv.more (same_new np)) (mv.fresh np) upd_same⟩⟩
theorem ok_someL {f : Addr} {fd : FuncData} (F : Fun K "_law_some" "_law_some" s__law_some f fd) (B : Blt mg) (GX : Fn P w K mg base 1 "_law_take" ["_law_draws", "_law_many"] spTake) : FnOk P w K mg base CX0 2 f fd ["_law_draws", "_law_items", "_law_many"] (spSomeL K) := by
  refine F.ok scSome (fun vs H Q E h => ?_) (fun cdv A outer s H vs Q E hr h => ?_)
  · obtain ⟨dr, t, zs, m, rfl, _⟩ := h
    rfl
  · obtain ⟨dr, t, zs, m, rfl, hd, ht, nt, few, hm, q⟩ := h
    refine ⟨_, pss_cons (ps_set (i := 3) scSome.nd rfl (.inl rfl) (pe_lst pa_nil))
      (pss_cons (ps_for PassesOwn.never rfl (pi_list (pv 1)) (pg_name (i := 4) scSome.nd rfl (Or.inl rfl))
        (pss_one (ps_if (pt_cmpR op_eq (pe_fn GX hr (by rfl) (pa_cons (pv 0) (pa_cons (pv 2) pa_nil))) pe_int (nomark _)) (pss_one (ps_expr (pe_bm PySem.F.plainAttrs_list PySem.F.slot_list_insert PySem.F.type_list_insert mt_insert (pv 3) (pa_cons (pe_fn GX hr (by rfl) (pa_cons (pv 0) (pa_cons (pe_op op_add (pe_callB call_len_seq (by rfl) B.len PySem.boot_len (pa_cons (pv 3) pa_nil)) pe_int) pa_nil))) (pa_cons (pv 4) pa_nil))))) pss_nil)))
      (pss_one (ps_ret (pe_callTy call_tuple_of (by rfl) B.tup PyProof.Rows.boot_tuple (pa_cons (pv 3) pa_nil))))), ?_⟩
    refine ⟨Nat.zero_le _, fun D nD => ⟨.ref t, rfl, t, rfl, ⟨_, (same_new nD).seq ht⟩, some_loop zs (walk_list (xs := zs.map V.str)) (hr := trivial) (by rw [List.length_map]) few hm hd nD (fun H' z => z.lst nt ht) (fun H' ys y4 so mv eD => ?_)⟩⟩
    exact ⟨.ref D, rfl, D, _, rfl, .inl ⟨.inl (.inl eD), fun p np => q _ p ys so (mv.more (same_new np)) (mv.fresh np) upd_same⟩⟩
end
end Lw
set_option Elab.async false
set_option linter.all false
set_option maxRecDepth 100000
set_option maxHeartbeats 4000000
namespace Lw
open PySem PySem.Spec PyProof.Rows L2 TxS LkO Lk
def rooms5 : List Str := ["hall", "den", "vault", "attic", "loft"]
def tools2 : List Str := ["tin", "iron"]
def names6 : List Str := ["gate", "back", "x", "front", "stairs", "a"]
def folk3 : List Str := ["cat", "ann", "bob"]
theorem nm5 : ∀ z ∈ rooms5, isNm z = true := by decide +kernel
theorem nm2 : ∀ z ∈ tools2, isNm z = true := by decide +kernel
theorem nm6 : ∀ z ∈ names6, isNm z = true := by decide +kernel
theorem nm3 : ∀ z ∈ folk3, isNm z = true := by decide +kernel
theorem nd5 : rooms5.Nodup := by decide +kernel
theorem nd2 : tools2.Nodup := by decide +kernel
theorem nd6 : names6.Nodup := by decide +kernel
theorem nd3 : folk3.Nodup := by decide +kernel
theorem no25 : ∀ z ∈ tools2, z ∉ rooms5 := by decide +kernel
theorem cut_take (xs : List V) (n : Nat) : cutV xs none (some (n : Int)) = xs.take n := by
  unfold cutV
  rw [HT.sIx_none, HT.sIx_nat, List.drop_zero, Nat.sub_zero]
  by_cases h : n ≤ xs.length
  · rw [Nat.min_eq_left h]
  · rw [Nat.min_eq_right (by omega), List.take_of_length_le (Nat.le_refl _), List.take_of_length_le (by omega)]
theorem take_new {l : List Str} (nd : l.Nodup) {i : Nat} {z : Str} (h : l[i]? = some z) : z ∉ l.take i := fun hm => by
  have nd2 : (l.take (i + 1)).Nodup := nd.sublist (List.take_sublist _ _)
  rw [take_next1 h, List.nodup_append] at nd2
  exact nd2.2.2 z hm z (by simp) rfl
/-- a slice of a tuple, whichever object it is -/
def rSlB : V → Option Int → Option Int → Hp → VK → Prop := fun x lo hi H Q => ∃ a xs, x = .ref a ∧ H a = some (.tup xs) ∧ ∀ p H', Same H H' → H' p = some (.tup (cutV xs lo hi)) → Q (.ref p) H'
theorem sl_tupB {X : Cx} : SlR X rSlB := by
  intro pins s σ H x v vl vu lo hi sl Q I rx hs pl pu h
  obtain ⟨a, xs, rfl, ha, q⟩ := h
  refine sl_tupA pins s σ H _ v vl vu lo hi sl Q I rx hs pl pu ⟨a, xs, rfl, .inl (.inl ha), fun e => q a H (Same.refl H) ?_, fun _ p np => q p _ (same_new np) upd_same⟩
  unfold cutV
  rw [e.1, e.2, List.drop_zero, Nat.sub_zero, List.take_length]
  exact ha
theorem turn_ne {n s t : Int} (hn : 2 ≤ n) (hm : n ≤ 5) (s0 : 0 ≤ s) (s1 : s < n) (t0 : 0 ≤ t) (t1 : t < n - 1) : 0 ≤ (s + 1 + t) % n ∧ (s + 1 + t) % n < n ∧ (s + 1 + t) % n ≠ s := by
  rcases (show n = 2 ∨ n = 3 ∨ n = 4 ∨ n = 5 by omega) with rfl | rfl | rfl | rfl <;> omega
theorem at_str {rs : List Str} {i : Int} (h0 : 0 ≤ i) (h1 : i < rs.length) : ∃ z, z ∈ rs ∧ rs[i.toNat]? = some z ∧ atI (rs.map V.str) i = some (.str z) := by
  have lt : i.toNat < rs.length := by omega
  refine ⟨rs[i.toNat], List.getElem_mem lt, List.getElem?_eq_getElem lt, ?_⟩
  have := atI_nat (xs := rs.map V.str) (j := i.toNat) (v := .str rs[i.toNat]) (by rw [List.getElem?_map, List.getElem?_eq_getElem lt]; rfl)
  rw [Int.toNat_of_nonneg h0] at this
  exact this
theorem at_ref {as : List Addr} {i : Int} (h0 : 0 ≤ i) (h1 : i < as.length) : ∃ z, as[i.toNat]? = some z ∧ atI (as.map V.ref) i = some (.ref z) := by
  have lt : i.toNat < as.length := by omega
  refine ⟨as[i.toNat], List.getElem?_eq_getElem lt, ?_⟩
  have := atI_nat (xs := as.map V.ref) (j := i.toNat) (v := .ref as[i.toNat]) (by rw [List.getElem?_map, List.getElem?_eq_getElem lt]; rfl)
  rw [Int.toNat_of_nonneg h0] at this
  exact this
theorem nodup_at {rs : List Str} (nd : rs.Nodup) {i j : Nat} {x y : Str} (hx : rs[i]? = some x) (hy : rs[j]? = some y) (ne : i ≠ j) : x ≠ y := fun e => by
  subst e
  obtain ⟨hi, e1⟩ := List.getElem?_eq_some_iff.mp hx
  obtain ⟨hj, e2⟩ := List.getElem?_eq_some_iff.mp hy
  have pw := List.pairwise_iff_getElem.mp nd
  rcases Nat.lt_or_gt_of_ne ne with z | z
  · exact pw i j hi hj z (e1.trans e2.symm)
  · exact pw j i hj hi z (e2.trans e1.symm)
theorem pair_get {α β : Type} {F : α → β → Prop} : ∀ {l : List α} {m : List β} {i : Nat} {b : β}, Paired F l m → m[i]? = some b → ∃ a, l[i]? = some a ∧ F a b
  | _, _, _, _, .nil, h => by simp at h
  | _, _, 0, _, .cons f _, h => by
    simp only [List.getElem?_cons_zero, Option.some.injEq] at h
    subst h
    exact ⟨_, rfl, f⟩
  | _, _, i + 1, _, .cons _ r, h => by
    simp only [List.getElem?_cons_succ] at h
    obtain ⟨a, h1, h2⟩ := pair_get r h
    exact ⟨a, by simpa using h1, h2⟩
theorem pair_at {α β : Type} {F : α → β → Prop} {l : List α} {m : List β} {i : Nat} {a : α} (p : Paired F l m) (h : l[i]? = some a) : ∃ b, m[i]? = some b ∧ F a b := by
  have lt : i < m.length := by
    rw [← Paired.length p]
    exact (List.getElem?_eq_some_iff.mp h).1
  obtain ⟨a', h1, h2⟩ := pair_get p (List.getElem?_eq_getElem lt)
  rw [h] at h1
  cases h1
  exact ⟨_, List.getElem?_eq_getElem lt, h2⟩
/-! ### what was drawn -/
def TT (H H' : Hp) : Prop := ∀ a xs, H a = some (.tup xs) → H' a = some (.tup xs)
theorem TT.refl (H : Hp) : TT H H := fun _ _ e => e
theorem TT.of {H H' : Hp} (s : Same H H') : TT H H' := fun a xs e => s _ _ e
theorem TT.mv {dr : Addr} {H H' : Hp} (h : DrE H dr) (m : Mw dr H H') : TT H H' := fun a xs e => m.at_ h e fun _ z => by cases z
theorem TT.trans {H H1 H2 : Hp} (a : TT H H1) (b : TT H1 H2) : TT H H2 := fun c xs e => b c xs (a c xs e)
theorem TT.put {H : Hp} {d : Addr} {ys : List V} {o : HO} (h : H d = some (.lst ys)) : TT H (upd H d o) := fun a xs e => by
  rw [upd_ne (ne_of e h (by intro z; cases z))]
  exact e
def rowK (H : Hp) (t : Addr) (q : Str × Str) : Prop := H t = some (.tup [.str q.1, .str q.2])
def rowD (H : Hp) (t : Addr) (q : Str × DoorD) : Prop := H t = some (.tup [.str q.1, .str q.2.a, .str q.2.b, oV q.2.key, .bl q.2.both, .int q.2.cost])
def rowP (H : Hp) (t : Addr) (q : Str × PersonD) : Prop := ∃ t1 t2 t3, H t = some (.tup [.str q.1, .str q.2.a, .ref t1, .ref t2, .ref t3]) ∧ H t1 = some (.tup (q.2.carried.map V.str)) ∧ H t2 = some (.tup (q.2.needs.map V.str)) ∧ H t3 = some (.tup (q.2.shuns.map V.str))
theorem rowK.tt {H H' : Hp} (t : TT H H') (a : Addr) (q : Str × Str) (h : rowK H a q) : rowK H' a q := t _ _ h
theorem rowD.tt {H H' : Hp} (t : TT H H') (a : Addr) (q : Str × DoorD) (h : rowD H a q) : rowD H' a q := t _ _ h
theorem rowP.tt {H H' : Hp} (t : TT H H') (a : Addr) (q : Str × PersonD) (h : rowP H a q) : rowP H' a q := let ⟨t1, t2, t3, z, z1, z2, z3⟩ := h; ⟨t1, t2, t3, t _ _ z, t _ _ z1, t _ _ z2, t _ _ z3⟩
structure PlIn (H : Hp) (a : Addr) (b : BldD) (r k dd pd : Addr) (kas das pas : List Addr) : Prop where
  ob : H a = some (.tup [.ref r, .ref k, .ref dd, .ref pd])
  rooms : H r = some (.tup (b.rooms.map V.str))
  keys : H k = some (.lst (kas.map V.ref))
  keysT : Paired (rowK H) kas b.keys
  doors : H dd = some (.lst (das.map V.ref))
  doorsT : Paired (rowD H) das b.doors
  people : H pd = some (.lst (pas.map V.ref))
  peopleT : Paired (rowP H) pas b.people
theorem PlIn.same {H H' : Hp} {a : Addr} {b : BldD} {r k dd pd : Addr} {kas das pas : List Addr} (h : PlIn H a b r k dd pd kas das pas) (s : Same H H') : PlIn H' a b r k dd pd kas das pas :=
  ⟨s _ _ h.ob, s _ _ h.rooms, s _ _ h.keys, Paired.mono (rowK.tt (TT.of s)) h.keysT, s _ _ h.doors, Paired.mono (rowD.tt (TT.of s)) h.doorsT, s _ _ h.people, Paired.mono (rowP.tt (TT.of s)) h.peopleT⟩
structure PlAt (H : Hp) (a : Addr) (b : BldD) : Prop where
  ob : ∃ r k dd pd kas das pas, PlIn H a b r k dd pd kas das pas
  ok : b.ok
theorem PlAt.same {H H' : Hp} {a : Addr} {b : BldD} (h : PlAt H a b) (s : Same H H') : PlAt H' a b := by
  obtain ⟨⟨r, k, dd, pd, kas, das, pas, i⟩, z⟩ := h
  exact ⟨⟨r, k, dd, pd, kas, das, pas, i.same s⟩, z⟩
/-- a plan whose lists are not the draws -/
structure PlX (dr : Addr) (H : Hp) (a : Addr) (b : BldD) : Prop where
  ob : ∃ r k dd pd kas das pas, PlIn H a b r k dd pd kas das pas ∧ k ≠ dr ∧ dd ≠ dr ∧ pd ≠ dr
  ok : b.ok
theorem PlX.at_ {dr : Addr} {H : Hp} {a : Addr} {b : BldD} (h : PlX dr H a b) : PlAt H a b := by
  obtain ⟨⟨r, k, dd, pd, kas, das, pas, i, _⟩, z⟩ := h
  exact ⟨⟨r, k, dd, pd, kas, das, pas, i⟩, z⟩
theorem PlX.mv {dr : Addr} {H H' : Hp} {a : Addr} {b : BldD} (h : PlX dr H a b) (hd : DrE H dr) (m : Mw dr H H') : PlX dr H' a b := by
  obtain ⟨⟨r, k, dd, pd, kas, das, pas, i, n1, n2, n3⟩, z⟩ := h
  have t := TT.mv hd m
  exact ⟨⟨r, k, dd, pd, kas, das, pas, ⟨t _ _ i.ob, t _ _ i.rooms, m.sx _ _ i.keys n1, Paired.mono (rowK.tt t) i.keysT, m.sx _ _ i.doors n2, Paired.mono (rowD.tt t) i.doorsT, m.sx _ _ i.people n3, Paired.mono (rowP.tt t) i.peopleT⟩, n1, n2, n3⟩, z⟩
def keyPD (q : Str × Str) : PyData := .tuple [.str q.1, .str q.2]
theorem dp_keys {K : PySem.W.Frag} {H : Hp} : ∀ {kas : List Addr} {keys : List (Str × Str)}, Paired (rowK H) kas keys → DpAll K H (kas.map V.ref) (keys.map keyPD)
  | _, _, .nil => .nil
  | _, _, .cons h r => .cons (.tup (.inl (.inl h)) (.cons (.str _) (.cons (.str _) .nil))) (dp_keys r)
theorem lay_keys : ∀ {keys : List (Str × Str)}, (∀ q ∈ keys, PyData.strOk q.1 = true ∧ PyData.strOk q.2 = true) → PyData.canLayAll0 (keys.map keyPD) = true
  | [], _ => by simp [PyData.canLayAll0]
  | q :: r, h => by simp [PyData.canLayAll0, PyData.canLay0, keyPD, h q List.mem_cons_self, lay_keys fun y hy => h y (List.mem_cons_of_mem _ hy)]
theorem depth_keys : ∀ keys : List (Str × Str), PyData.depthAll (keys.map keyPD) ≤ 5
  | [] => by simp [PyData.depthAll]
  | q :: r => by
    have := depth_keys r
    simp only [List.map_cons, keyPD, PyData.depthAll, PyData.depth]
    omega
theorem shaped_keys {keys : List (Str × Str)} (h : ∀ q ∈ keys, PyData.strOk q.1 = true ∧ PyData.strOk q.2 = true) : SeqAt.shaped (.list (keys.map keyPD)) = true := by
  have h1 := depth_keys keys
  have h2 : PyData.depth (.list (keys.map keyPD)) ≤ 64 := by simp only [PyData.depth]; omega
  show (PyData.canLay0 _ && decide _) = true
  rw [Bool.and_eq_true]
  exact ⟨by simp only [PyData.canLay0]; exact lay_keys h, decide_eq_true h2⟩
section
variable {P : Program} {w : World} {K : PySem.W.Frag} {mg : Str → Option Value} {base : Heap}
abbrev rLen (K : PySem.W.Frag) : List V → Hp → VK → Prop := fun xs H Q => ∃ p ys, xs = [.ref p] ∧ (SqL K H p ys ∨ SqT K H p ys) ∧ Q (.int ys.length) H
def spDrawn (K : PySem.W.Frag) : Sp := fun vs H Q _ => ∃ (dr : Addr) (m : Int), vs = [.ref dr, .int m] ∧ 1 ≤ m ∧ m ≤ 6 ∧ DrE H dr ∧ ∀ H' t b, b.rooms.length ≤ 5 → (b.doors.map (·.1)).Sublist names6 → (∀ q ∈ b.keys, q.1 ∈ tools2) → Mw dr H H' → PlX dr H' t b → Q (.ref t) H'
abbrev nDrawn : List Str := ["_law_draws", "_law_most", "_law_rooms", "_law_keys", "_law_doors", "_law_people", "_law_name", "_law_at", "_law_to", "_law_lock", "_law_wants", "_law_bans", "_law_given", "_law_one", "_law_room"]
theorem scDrawn : FnScope nDrawn ["_law_draws", "_law_most"] (defScope s__law_drawn) := ⟨rfl, rfl, rfl, by decide +kernel, rfl, by decide +kernel, by decide +kernel⟩
/-- a key out of the drawn ones, or none -/
theorem lock_read {dr k : Addr} {H : Hp} {kas : List Addr} {keys : List (Str × Str)} {σ : L2.St} {Q : VK} (h0 : σ[0]? = some (some (.ref dr))) (h3 : σ[3]? = some (some (.ref k))) (hd : DrE H dr) (nk : k ≠ dr) (ek : H k = some (.lst (kas.map V.ref))) (kT : Paired (rowK H) kas keys) (kn : ∀ q ∈ keys, PyData.strOk q.1 = true ∧ PyData.strOk q.2 = true)
    (q : ∀ (key : Option Str) H', Mw dr H H' → (∀ z, key = some z → z ∈ keys.map (·.1)) → Q (oV key) H') :
    tIf (tAnd (tTest (tOp (rNeD K) (tVar 3) (tLst tNil))) (tTest (tOp rEq (tCall spTake [] E0 (tCons (tVar 0) (tCons (tC (.int 3)) tNil))) (tC (.int 0))))) (tOp (rIxT K) (tOp (rIxL K) (tVar 3) (tCall spTake [] E0 (tCons (tVar 0) (tCons (tCB (rLen K) (tCons (tVar 3) tNil)) tNil)))) (tC (.int 0))) (tC .non) σ H Q := by
  refine ⟨.ref k, h3, Nat.zero_le _, fun p np => ?_⟩
  have s1 := same_new (o := .lst []) np
  refine ⟨_, _, .lst (.inl (.inl (s1 _ _ ek))) (dp_keys (Paired.mono (rowK.tt (TT.of s1)) kT)), .lst (.inl (.inl upd_same)) .nil, shaped_keys kn, by decide +kernel, _, rfl, ite2 (fun e => ?_) (fun e => ?_)⟩
  · have m1 := Mw.of hd s1
    refine ⟨.ref dr, h0, dr, 3, rfl, m1.se, by decide, fun c H2 c0 c1 m2 => ⟨rfl, _, rfl, ite2 (fun e2 => ?_) (fun e2 => ?_)⟩⟩
    · have ek2 := m2.sx _ _ (s1 _ _ ek) nk
      have pos : 0 < kas.length := by
        cases kT with
        | nil => exact absurd e (by decide +kernel)
        | cons _ _ => simp
      refine ⟨.ref k, h3, .ref dr, h0, .ref k, h3, k, _, rfl, .inl (.inl (.inl ek2)), dr, _, rfl, m2.se, by rw [List.length_map]; omega, fun j H3 j0 j1 m3 => ?_⟩
      rw [List.length_map] at j1
      obtain ⟨t, ht, hat⟩ := at_ref j0 j1
      obtain ⟨y, hy, hrow⟩ := pair_at kT ht
      have m13 := (m1.trans m2).trans m3
      refine ⟨k, _, j, .ref t, rfl, rfl, .inl (.inl (m3.sx _ _ ek2 nk)), hat, t, _, 0, .str y.1, rfl, rfl, .inl (.inl (TT.mv hd m13 _ _ hrow)), rfl, q (some y.1) H3 m13 fun z hz => ?_⟩
      cases hz
      exact List.mem_map_of_mem (List.mem_of_getElem? hy)
    · exact q none H2 (m1.trans m2) fun z hz => by cases hz
  · exact iteF (q none _ (Mw.of hd s1) fun z hz => by cases hz)
end
end Lw
set_option Elab.async false
set_option linter.all false
set_option maxRecDepth 100000
set_option maxHeartbeats 4000000
namespace Lw
open PySem PySem.Spec PyProof.Rows L2 TxS LkO Lk
/-- what the plan's draws keep -/
structure Bse (dr : Addr) (H : Hp) (r k : Addr) (rs : List Str) (kas : List Addr) (keys : List (Str × Str)) (H' : Hp) : Prop where
  mv : Mw dr H H'
  er : H' r = some (.tup (rs.map V.str))
  ek : H' k = some (.lst (kas.map V.ref))
  kT : Paired (rowK H') kas keys
theorem Bse.go {dr : Addr} {H : Hp} {r k : Addr} {rs : List Str} {kas : List Addr} {keys : List (Str × Str)} {H1 H2 : Hp} (b : Bse dr H r k rs kas keys H1) (nk : k ≠ dr) (m : Mw dr H1 H2) : Bse dr H r k rs kas keys H2 :=
  have t := TT.mv b.mv.se m
  ⟨b.mv.trans m, t _ _ b.er, m.sx _ _ b.ek nk, Paired.mono (rowK.tt t) b.kT⟩
theorem Bse.more {dr : Addr} {H : Hp} {r k : Addr} {rs : List Str} {kas : List Addr} {keys : List (Str × Str)} {H1 H2 : Hp} (b : Bse dr H r k rs kas keys H1) (s : Same H1 H2) : Bse dr H r k rs kas keys H2 :=
  ⟨b.mv.more s, s _ _ b.er, s _ _ b.ek, Paired.mono (rowK.tt (TT.of s)) b.kT⟩
theorem Bse.put {dr : Addr} {H : Hp} {r k d : Addr} {rs : List Str} {kas : List Addr} {keys : List (Str × Str)} {H1 : Hp} {ys : List V} {o : HO} (b : Bse dr H r k rs kas keys H1) (hS : DrE H dr) (n : H d = none) (h : H1 d = some (.lst ys)) (nk : k ≠ d) : Bse dr H r k rs kas keys (upd H1 d o) :=
  have t : TT H1 (upd H1 d o) := TT.put h
  ⟨b.mv.new hS n, t _ _ b.er, by rw [upd_ne nk]; exact b.ek, Paired.mono (rowK.tt t) b.kT⟩
section
variable {P : Program} {w : World} {K : PySem.W.Frag} {mg : Str → Option Value} {base : Heap}
theorem ok_drawn {f : Addr} {fd : FuncData} (F : Fun K "_law_drawn" "_law_drawn" s__law_drawn f fd) (B : Blt mg) (GX : Fn P w K mg base 1 "_law_take" ["_law_draws", "_law_many"] spTake)
    (ST : Fn P w K mg base 2 "_law_some" ["_law_draws", "_law_items", "_law_many"] (spSomeT K)) (SL : Fn P w K mg base 2 "_law_some" ["_law_draws", "_law_items", "_law_many"] (spSomeL K)) : FnOk P w K mg base CX0 3 f fd ["_law_draws", "_law_most"] (spDrawn K) := by
  refine F.ok scDrawn (fun vs H Q E h => ?_) (fun cdv A outer s H vs Q E hr h => ?_)
  · obtain ⟨dr, m, rfl, _⟩ := h
    rfl
  · obtain ⟨dr, most, rfl, mo1, mo6, hS, q⟩ := h
    have hr1 := hr.mono (show 1 ≤ 2 by decide)
    refine ⟨_, pss_cons (ps_set (i := 2) scDrawn.nd rfl (.inr rfl) (pe_slice sl_tupB (pe_tup (pa_cons pe_str (pa_cons pe_str (pa_cons pe_str (pa_cons pe_str (pa_cons pe_str pa_nil)))))) po_none (po_some (pe_op op_add pe_int (pe_fn GX hr1 (by rfl) (pa_cons (pv 0) (pa_cons pe_int pa_nil)))))))
      (pss_cons (ps_setLc (i := 3) (own := [("_law_one", 13)]) (g := gName 13) (tt := tYes) (te := tTup (tCons (tVar 13) (tCons (tOp (rIxT K) (tVar 2) (tCall spTake [] E0 (tCons (tVar 0) (tCons (tCB (rLen K) (tCons (tVar 2) tNil)) tNil)))) tNil))) rfl scDrawn.nd rfl rfl (sw_true rfl rfl rfl (by decide +kernel))
        (pi_tup (pe_slice sl_tupB (pe_tup (pa_cons pe_str (pa_cons pe_str pa_nil))) po_none (po_some (pe_fn GX hr1 (by rfl) (pa_cons (pv 0) (pa_cons pe_int pa_nil)))))) (blkOk_by (N := nDrawn) (sc := defScope s__law_drawn) (by decide +kernel)) (fun _ _ _ _ _ => pg_name (i := 13) scDrawn.nd rfl (Or.inl rfl)) (fun _ _ _ _ _ => pts_nil)
        (fun _ _ _ _ _ => pe_tup (pa_cons (pv 13) (pa_cons (pe_ix ix_tup (pv 2) (pe_fn GX hr1 (by rfl) (pa_cons (pv 0) (pa_cons (pe_callB call_len_seq (by rfl) B.len PySem.boot_len (pa_cons (pv 2) pa_nil)) pa_nil))) (fun _ _ => rfl)) pa_nil))))
      (pss_cons (ps_par (i := 4) (j := 5) rfl scDrawn.nd rfl rfl (by decide) rfl rfl (pa_cons (pe_lst pa_nil) (pa_cons (pe_lst pa_nil) pa_nil)) rfl)
      (pss_cons (ps_for PassesOwn.never rfl (pi_tup (pe_slice sl_tupB (pe_tup (pa_cons pe_str (pa_cons pe_str (pa_cons pe_str (pa_cons pe_str (pa_cons pe_str (pa_cons pe_str pa_nil))))))) po_none (po_some (pe_op op_add pe_int (pe_fn GX hr1 (by rfl) (pa_cons (pv 0) (pa_cons (pv 1) pa_nil))))))) (pg_name (i := 6) scDrawn.nd rfl (Or.inl rfl))
        (pss_cons (ps_set (i := 7) scDrawn.nd rfl (.inl rfl) (pe_fn GX hr1 (by rfl) (pa_cons (pv 0) (pa_cons (pe_callB call_len_seq (by rfl) B.len PySem.boot_len (pa_cons (pv 2) pa_nil)) pa_nil))))
        (pss_cons (ps_set (i := 8) scDrawn.nd rfl (.inl rfl) (pe_op op_mod (pe_op op_add (pe_op op_add (pv 7) pe_int) (pe_fn GX hr1 (by rfl) (pa_cons (pv 0) (pa_cons (pe_op op_sub (pe_callB call_len_seq (by rfl) B.len PySem.boot_len (pa_cons (pv 2) pa_nil)) pe_int) pa_nil)))) (pe_callB call_len_seq (by rfl) B.len PySem.boot_len (pa_cons (pv 2) pa_nil))))
        (pss_cons (ps_set (i := 9) scDrawn.nd rfl (.inl rfl) (pe_ifExp (PW.pt (pw_and (pt_cmpR (op_neD hr.units) (pv 3) (pe_lst pa_nil) (nomark _)) (pw_and1 (pt_cmpR op_eq (pe_fn GX hr1 (by rfl) (pa_cons (pv 0) (pa_cons pe_int pa_nil))) pe_int (nomark _))))) (pe_ix ix_tup (pe_ix ix_list (pv 3) (pe_fn GX hr1 (by rfl) (pa_cons (pv 0) (pa_cons (pe_callB call_len_seq (by rfl) B.len PySem.boot_len (pa_cons (pv 3) pa_nil)) pa_nil))) (fun _ _ => rfl)) pe_int (fun _ _ => rfl)) pe_non))
        (pss_one (ps_expr (pe_bm PySem.F.plainAttrs_list PySem.F.slot_list_append PySem.F.type_list_append mt_append (pv 4) (pa_cons (pe_tup (pa_cons (pv 6) (pa_cons (pe_ix ix_tup (pv 2) (pv 7) (fun _ _ => rfl)) (pa_cons (pe_ix ix_tup (pv 2) (pv 8) (fun _ _ => rfl)) (pa_cons (pv 9) (pa_cons (pe_cmpR op_eq (pe_fn GX hr1 (by rfl) (pa_cons (pv 0) (pa_cons pe_int pa_nil))) pe_int (nomark _)) (pa_cons (pe_op op_add pe_int (pe_fn GX hr1 (by rfl) (pa_cons (pv 0) (pa_cons pe_int pa_nil)))) pa_nil))))))) pa_nil))))))))
      (pss_cons (ps_for PassesOwn.never rfl (pi_tup (pe_slice sl_tupB (pe_tup (pa_cons pe_str (pa_cons pe_str (pa_cons pe_str pa_nil)))) po_none (po_some (pe_op op_add pe_int (pe_fn GX hr1 (by rfl) (pa_cons (pv 0) (pa_cons pe_int pa_nil))))))) (pg_name (i := 6) scDrawn.nd rfl (Or.inl rfl))
        (pss_cons (ps_set (i := 10) scDrawn.nd rfl (.inr rfl) (pe_fn ST hr (by rfl) (pa_cons (pv 0) (pa_cons (pv 2) (pa_cons pe_int pa_nil)))))
        (pss_cons (ps_set (i := 11) scDrawn.nd rfl (.inl rfl) (pe_fn SL hr (by rfl) (pa_cons (pv 0) (pa_cons (pe_lc (own := [("_law_room", 14)]) (g := gName 14) (tt := tTest (tOp (rIn K true) (tVar 14) (tVar 10))) (te := tVar 14) rfl scDrawn.nd (pi_tup (pv 2)) (blkOk_by (N := nDrawn) (sc := defScope s__law_drawn) (by decide +kernel))
          (fun _ _ _ _ _ => pg_name (i := 14) scDrawn.nd rfl (Or.inl rfl)) (fun _ _ _ _ _ => pts_one (pt_cmpR op_notIn_seq (pv 14) (pv 10) rfl)) (fun _ _ _ _ _ => pv 14)) (pa_cons pe_int pa_nil)))))
        (pss_cons (ps_set (i := 12) scDrawn.nd rfl (.inl rfl) (pe_fn SL hr (by rfl) (pa_cons (pv 0) (pa_cons (pe_lc (own := [("_law_one", 13), ("_law_room", 14)]) (g := gTup K 2 (gCons (gName 13) (gCons (gName 14) gNil))) (tt := tYes) (te := tVar 13) rfl scDrawn.nd (pi_list (pv 3)) (blkOk_by (N := nDrawn) (sc := defScope s__law_drawn) (by decide +kernel))
          (fun _ _ _ _ _ => pg_tup rfl (pgs_cons (pg_name (i := 13) scDrawn.nd rfl (Or.inl rfl)) (pgs_cons (pg_name (i := 14) scDrawn.nd rfl (Or.inl rfl)) pgs_nil))) (fun _ _ _ _ _ => pts_nil) (fun _ _ _ _ _ => pv 13)) (pa_cons pe_int pa_nil)))))
        (pss_one (ps_expr (pe_bm PySem.F.plainAttrs_list PySem.F.slot_list_append PySem.F.type_list_append mt_append (pv 5) (pa_cons (pe_tup (pa_cons (pv 6) (pa_cons (pe_ix ix_tup (pv 2) (pe_fn GX hr1 (by rfl) (pa_cons (pv 0) (pa_cons (pe_callB call_len_seq (by rfl) B.len PySem.boot_len (pa_cons (pv 2) pa_nil)) pa_nil))) (fun _ _ => rfl)) (pa_cons (pv 12) (pa_cons (pv 10) (pa_cons (pv 11) pa_nil)))))) pa_nil))))))))
      (pss_one (ps_ret (pe_tup (pa_cons (pv 2) (pa_cons (pv 3) (pa_cons (pv 4) (pa_cons (pv 5) pa_nil))))))))))), ?_⟩
    -- the rooms
    refine ⟨by show 5 ≤ sizeLine; rw [sizeLine_eq]; decide, fun p5 np5 => ?_⟩
    have mA := Mw.of hS (same_new (o := .tup (rooms5.map V.str)) np5)
    refine ⟨.ref dr, rfl, dr, 4, rfl, mA.se, by decide, fun n0 H1 n00 n01 m1 => ⟨2, n0, rfl, rfl, _, rfl, p5, rooms5.map V.str, rfl, m1.at_ mA.se upd_same (fun _ z => by cases z), fun r H2 s2 e2 => ?_⟩⟩
    have mB := (mA.trans m1).more s2
    obtain ⟨n5, hn5, hb2, hb5⟩ : ∃ n5 : Nat, (2 + n0 : Int) = (n5 : Int) ∧ 2 ≤ n5 ∧ n5 ≤ 5 := ⟨(2 + n0).toNat, by omega, by omega, by omega⟩
    rw [hn5, cut_take, ← List.map_take] at e2
    generalize ers : rooms5.take n5 = rs at e2
    have lrs : rs.length = n5 := by
      rw [← ers, List.length_take]
      show min n5 5 = n5
      omega
    have ndr : rs.Nodup := by rw [← ers]; exact nd5.sublist (List.take_sublist _ _)
    have sub5 : ∀ z ∈ rs, z ∈ rooms5 := fun z hz => by rw [← ers] at hz; exact List.mem_of_mem_take hz
    have nmr : ∀ z ∈ rs, isNm z = true := fun z hz => nm5 z (sub5 z hz)
    have lrI : ((rs.map V.str).length : Int) = rs.length := by rw [List.length_map]
    have l1000 : rs.length ≤ 1000 := by omega
    -- the keys
    refine ⟨by show 2 ≤ sizeLine; rw [sizeLine_eq]; decide, fun p2 np2 => ?_⟩
    have mC := mB.more (same_new (o := .tup (tools2.map V.str)) np2)
    refine ⟨.ref dr, rfl, dr, 3, rfl, mC.se, by decide, fun t0 H4 t00 t01 m4 => ⟨t0, rfl, p2, tools2.map V.str, rfl, m4.at_ mC.se upd_same (fun _ z => by cases z), fun tl H5 s5 e5 => ?_⟩⟩
    have mD := (mC.trans m4).more s5
    have er5 : H5 r = some (.tup (rs.map V.str)) := s5 _ _ (TT.mv mC.se m4 _ _ (same_new np2 _ _ e2))
    obtain ⟨tn, htn, htb⟩ : ∃ tn : Nat, (t0 : Int) = (tn : Int) ∧ tn ≤ 2 := ⟨t0.toNat, by omega, by omega⟩
    rw [htn, cut_take, ← List.map_take] at e5
    generalize ets : tools2.take tn = ts at e5
    have ndt : ts.Nodup := by rw [← ets]; exact nd2.sublist (List.take_sublist _ _)
    have sub2 : ∀ z ∈ ts, z ∈ tools2 := fun z hz => by rw [← ets] at hz; exact List.mem_of_mem_take hz
    have lts : ts.length ≤ 2 := by
      rw [← ets, List.length_take]
      omega
    refine ⟨tl, rfl, ⟨_, .inl (.inl e5)⟩, fun k nk5 => ?_⟩
    have nHk : H k = none := mD.fresh nk5
    have nk : k ≠ dr := hS.new nHk
    refine lc_it (walk_tup (xs := ts.map V.str)) (fun i H' => ∃ (kas : List Addr) (keys : List (Str × Str)), Bse dr H r k rs kas keys H' ∧ H' tl = some (.tup (ts.map V.str)) ∧ keys.map (·.1) = ts.take i ∧ ∀ q ∈ keys, q.2 ∈ rs) ?_ (fun i H' _ hP => by obtain ⟨_, _, _, z, _⟩ := hP; exact .inl (.inl z)) (fun i v H6 H7 hi hP hY => ?_) (fun H6 hP => ?_)
    · exact ⟨[], [], ⟨mD.new hS nHk, same_new nk5 _ _ er5, upd_same, .nil⟩, same_new nk5 _ _ e5, by simp, fun _ z => by cases z⟩
    · obtain ⟨rfl, hx⟩ := hY
      obtain ⟨kas, keys, bs, etl, nK, inr⟩ := hP
      obtain ⟨z, hz, rfl⟩ := at_map hx
      have lk : kas.length ≤ 2 := by
        rw [Paired.length bs.kT, ← List.length_map (f := (·.1)), nK, List.length_take]
        omega
      refine ⟨rfl, .str z, rfl, .ref r, rfl, .ref dr, rfl, .ref r, rfl, r, _, rfl, .inr (.inl (.inl bs.er)), dr, _, rfl, bs.mv.se, by omega, fun j H8 j0 j1 m8 => ?_⟩
      rw [lrI] at j1
      obtain ⟨zr, hzr, _, ar⟩ := at_str j0 j1
      have b8 := bs.go nk m8
      refine ⟨r, _, j, .str zr, rfl, rfl, .inl (.inl b8.er), ar, by show 2 ≤ sizeLine; rw [sizeLine_eq]; decide, fun tp ntp => ?_⟩
      have b9 := b8.more (same_new (o := .tup [.str z, .str zr]) ntp)
      refine ⟨kas.map V.ref, b9.ek, by rw [List.length_map]; exact small1000 (by omega), kas ++ [tp], keys ++ [(z, zr)], ⟨b9.mv.new hS nHk, TT.put b9.ek _ _ b9.er, by rw [upd_same, List.map_append]; rfl, Paired.snoc (Paired.mono (rowK.tt (TT.put b9.ek)) b9.kT) (TT.put b9.ek _ _ upd_same)⟩, TT.put b9.ek _ _ (same_new ntp _ _ (TT.mv bs.mv.se m8 _ _ etl)), ?_, fun q hq => ?_⟩
      · rw [List.map_append, nK, take_next1 hz]
        rfl
      · rcases List.mem_append.mp hq with u | u
        · exact inr q u
        · rw [List.mem_singleton.mp u]
          exact hzr
    · obtain ⟨kas, keys, bs, etl, nK, inr⟩ := hP
      rw [List.length_map, List.take_length] at nK
      have lk2 : keys.length ≤ 2 := by
        rw [← List.length_map (f := (·.1)), nK]
        exact lts
      have kst : ∀ q ∈ keys, q.1 ∈ ts := fun q hq => by rw [← nK]; exact List.mem_map_of_mem hq
      have nmk : ∀ z ∈ keys.map (·.1), isNm z = true := fun z hz => nm2 z (sub2 z (by rw [← nK]; exact hz))
      have ndk : (keys.map (·.1)).Nodup := by rw [nK]; exact ndt
      have kn : ∀ q ∈ keys, PyData.strOk q.1 = true ∧ PyData.strOk q.2 = true := fun q hq => ⟨nm_ok (nmk _ (List.mem_map_of_mem hq)), nm_ok (nmr _ (inr q hq))⟩
      -- the doors
      refine ⟨Nat.zero_le _, fun dd ndd => ⟨Nat.zero_le _, fun pd npd => ⟨_, _, rfl, ?_⟩⟩⟩
      have nHd : H dd = none := bs.mv.fresh ndd
      have nHp : H pd = none := (bs.more (same_new (o := .lst []) ndd)).mv.fresh npd
      have ndd' : dd ≠ dr := hS.new nHd
      have npd' : pd ≠ dr := hS.new nHp
      have nkd : k ≠ dd := ne_of_none bs.ek ndd
      have nkp : k ≠ pd := ne_of_none (same_new (o := .lst []) ndd _ _ bs.ek) npd
      have ndp : dd ≠ pd := ne_of_none upd_same npd
      have b7 := (bs.more (same_new (o := .lst []) ndd)).more (same_new (o := .lst []) npd)
      refine ⟨by show 6 ≤ sizeLine; rw [sizeLine_eq]; decide, fun p6 np6 => ?_⟩
      have b8 := b7.more (same_new (o := .tup (names6.map V.str)) np6)
      refine ⟨.ref dr, rfl, .int most, rfl, dr, most, rfl, b8.mv.se, by omega, fun d0 H9 d00 d01 m9 => ⟨1, d0, rfl, rfl, _, rfl, p6, names6.map V.str, rfl, m9.at_ b8.mv.se upd_same (fun _ z => by cases z), fun nl H10 s10 e10 => ?_⟩⟩
      have b10 := (b8.go nk m9).more s10
      obtain ⟨dn, hdn, hdb1, hdb6⟩ : ∃ dn : Nat, (1 + d0 : Int) = (dn : Int) ∧ 1 ≤ dn ∧ dn ≤ 6 := ⟨(1 + d0).toNat, by omega, by omega, by omega⟩
      rw [hdn, cut_take, ← List.map_take] at e10
      generalize ens : names6.take dn = ns at e10
      have ndn : ns.Nodup := by rw [← ens]; exact nd6.sublist (List.take_sublist _ _)
      have nmn : ∀ z ∈ ns, isNm z = true := fun z hz => by rw [← ens] at hz; exact nm6 z (List.mem_of_mem_take hz)
      have lns : ns.length = dn := by
        rw [← ens, List.length_take]
        show min dn 6 = dn
        omega
      have edd10 : H10 dd = some (.lst []) := s10 _ _ (m9.sx _ _ (same_new np6 _ _ (same_new npd _ _ upd_same)) ndd')
      have epd10 : H10 pd = some (.lst []) := s10 _ _ (m9.sx _ _ (same_new np6 _ _ upd_same) npd')
      refine ⟨nl, rfl, ⟨_, .inl (.inl e10)⟩, for_it (walk_tup (xs := ns.map V.str)) (fun i σ H' => ∃ (das : List Addr) (doors : List (Str × DoorD)) (y6 y7 y8 y9 : Option V), Bse dr H r k rs kas keys H' ∧ H' nl = some (.tup (ns.map V.str)) ∧ H' dd = some (.lst (das.map V.ref)) ∧ H' pd = some (.lst []) ∧ Paired (rowD H') das doors ∧ doors.map (·.1) = ns.take i ∧
        (∀ q ∈ doors, q.2.ok ∧ q.2.a ∈ rs ∧ q.2.b ∈ rs ∧ ∀ z, q.2.key = some z → z ∈ keys.map (·.1)) ∧ σ = [some (.ref dr), some (.int most), some (.ref r), some (.ref k), some (.ref dd), some (.ref pd), y6, y7, y8, y9, none, none, none, none, none]) ?_ (fun i σ H' _ hP => by obtain ⟨_, _, _, _, _, _, _, z, _⟩ := hP; exact .inl (.inl z)) (fun i v σ H11 H12 hi hP hY => ?_) (fun σ H11 hP => ?_)⟩
      · exact ⟨[], [], none, none, none, none, b10, e10, edd10, epd10, .nil, by simp, (fun _ z => by cases z), rfl⟩
      · obtain ⟨rfl, hv⟩ := hY
        obtain ⟨das, doors, y6, y7, y8, y9, ba, enl, edd, epd, dT, nD, okD, rfl⟩ := hP
        obtain ⟨nm, hnm, rfl⟩ := at_map hv
        have ld : das.length ≤ 6 := by
          rw [Paired.length dT, ← List.length_map (f := (·.1)), nD, List.length_take]
          omega
        refine ⟨.ref dr, rfl, .ref r, rfl, r, _, rfl, .inr (.inl (.inl ba.er)), dr, _, rfl, ba.mv.se, by omega, fun a0 Hb a00 a01 mb => ?_⟩
        rw [lrI] at a01
        have bb := ba.go nk mb
        refine ⟨.int a0, rfl, _, _, rfl, rfl, .ref dr, rfl, .ref r, rfl, r, _, rfl, .inr (.inl (.inl bb.er)), _, _, rfl, rfl, dr, _, rfl, bb.mv.se, by omega, fun b0 Hc b00 b01 mc => ⟨_, _, rfl, rfl, ?_⟩⟩
        rw [lrI] at b01
        have bc := bb.go nk mc
        obtain ⟨w1, w2, w3⟩ := turn_ne (n := rs.length) (by omega) (by omega) a00 a01 b00 b01
        refine ⟨.ref r, rfl, r, _, rfl, .inr (.inl (.inl bc.er)), _, _, rfl, rfl, by omega, ?_⟩
        rw [lrI]
        refine lock_read (kas := kas) (keys := keys) rfl rfl bc.mv.se nk bc.ek bc.kT kn fun key Hd md hkey => ?_
        have bd := bc.go nk md
        have mad := (mb.trans mc).trans md
        obtain ⟨zs, hzs, gzs, azs⟩ := at_str a00 a01
        obtain ⟨ze, hze, gze, aze⟩ := at_str w1 w2
        refine ⟨.ref dd, rfl, .inl ⟨rfl, _, .inl (.inl (mad.sx _ _ edd ndd'))⟩, .str nm, rfl, .ref r, rfl, .int a0, rfl, r, _, a0, .str zs, rfl, rfl, .inl (.inl bd.er), azs, .ref r, rfl, .int ((a0 + 1 + b0) % (rs.length : Int)), rfl, r, _, (a0 + 1 + b0) % (rs.length : Int), .str ze, rfl, rfl, .inl (.inl bd.er), aze, oV key, rfl, .ref dr, rfl, dr, 3, rfl, bd.mv.se, by decide, fun c0 He c00 c01 me => ⟨rfl, ?_⟩⟩
        have be := bd.go nk me
        refine ⟨.ref dr, rfl, dr, 9, rfl, be.mv.se, by decide, fun w0 Hf w00 w01 mf => ⟨1, w0, rfl, rfl, by show 6 ≤ sizeLine; rw [sizeLine_eq]; decide, fun tp ntp => ?_⟩⟩
        generalize ebo : decide (V.int c0 = V.int 0) = bo at ntp ⊢
        have bf := (be.go nk mf).more (same_new (o := .tup [.str nm, .str zs, .str ze, oV key, .bl bo, .int (1 + w0)]) ntp)
        have maf := (mad.trans me).trans mf
        have eddf := same_new (o := .tup [.str nm, .str zs, .str ze, oV key, .bl bo, .int (1 + w0)]) ntp _ _ (maf.sx _ _ edd ndd')
        have tf : TT H12 (upd Hf tp (.tup [.str nm, .str zs, .str ze, oV key, .bl bo, .int (1 + w0)])) := (TT.mv ba.mv.se maf).trans (TT.of (same_new ntp))
        have dok : DoorD.ok ⟨zs, ze, key, bo, 1 + w0⟩ := ⟨nmr zs hzs, nmr ze hze, nodup_at ndr gzs gze (by omega), fun z h => nmk z (hkey z h), by show 1 ≤ 1 + w0; omega, by show 1 + w0 ≤ 9; omega⟩
        refine ⟨dd, _, _, rfl, rfl, eddf, by rw [List.length_map]; exact small1000 (by omega), das ++ [tp], doors ++ [(nm, ⟨zs, ze, key, bo, 1 + w0⟩)], some (.str nm), some (.int a0), some (.int ((a0 + 1 + b0) % (rs.length : Int))), some (oV key), bf.put hS nHd eddf nkd, TT.put eddf _ _ (tf _ _ enl), by rw [upd_same, List.map_append]; rfl, ?_, ?_, ?_, fun q hq => ?_, rfl⟩
        · rw [upd_ne ndp.symm]
          exact same_new ntp _ _ (maf.sx _ _ epd npd')
        · exact Paired.snoc (Paired.mono (rowD.tt (tf.trans (TT.put eddf))) dT) (TT.put eddf _ _ upd_same)
        · rw [List.map_append, nD, take_next1 hnm]
          rfl
        · rcases List.mem_append.mp hq with u | u
          · exact okD q u
          · rw [List.mem_singleton.mp u]
            exact ⟨dok, hzs, hze, hkey⟩
      · -- the people
        obtain ⟨das, doors, y6, y7, y8, y9, ba, enl, edd, epd, dT, nD, okD, rfl⟩ := hP
        rw [List.length_map, List.take_length] at nD
        refine ⟨by show 3 ≤ sizeLine; rw [sizeLine_eq]; decide, fun p3 np3 => ?_⟩
        have b1 := ba.more (same_new (o := .tup (folk3.map V.str)) np3)
        refine ⟨.ref dr, rfl, dr, 3, rfl, b1.mv.se, by decide, fun f0 H13 f00 f01 m13 => ⟨1, f0, rfl, rfl, _, rfl, p3, folk3.map V.str, rfl, m13.at_ b1.mv.se upd_same (fun _ z => by cases z), fun fl H14 s14 e14 => ?_⟩⟩
        have b14 := (b1.go nk m13).more s14
        have m14 := ((Mw.of ba.mv.se (same_new (o := .tup (folk3.map V.str)) np3)).trans m13).more s14
        obtain ⟨fn, hfn, hfb1, hfb3⟩ : ∃ fn : Nat, (1 + f0 : Int) = (fn : Int) ∧ 1 ≤ fn ∧ fn ≤ 3 := ⟨(1 + f0).toNat, by omega, by omega, by omega⟩
        rw [hfn, cut_take, ← List.map_take] at e14
        generalize efs : folk3.take fn = fs at e14
        have ndf : fs.Nodup := by rw [← efs]; exact nd3.sublist (List.take_sublist _ _)
        have nmf : ∀ z ∈ fs, isNm z = true := fun z hz => by rw [← efs] at hz; exact nm3 z (List.mem_of_mem_take hz)
        have lfs : fs.length = fn := by
          rw [← efs, List.length_take]
          show min fn 3 = fn
          omega
        refine ⟨fl, rfl, ⟨_, .inl (.inl e14)⟩, for_it (walk_tup (xs := fs.map V.str)) (fun i σ H' => ∃ (pas : List Addr) (people : List (Str × PersonD)) (y6 y10 y11 y12 : Option V), Bse dr H r k rs kas keys H' ∧ H' fl = some (.tup (fs.map V.str)) ∧ H' dd = some (.lst (das.map V.ref)) ∧ H' pd = some (.lst (pas.map V.ref)) ∧ Paired (rowD H') das doors ∧ Paired (rowP H') pas people ∧ people.map (·.1) = fs.take i ∧
          (∀ q ∈ people, q.2.ok ∧ q.2.a ∈ rs ∧ (∀ z ∈ q.2.carried, z ∈ keys.map (·.1)) ∧ (∀ z ∈ q.2.needs, z ∈ rs) ∧ ∀ z ∈ q.2.shuns, z ∈ rs) ∧ σ = [some (.ref dr), some (.int most), some (.ref r), some (.ref k), some (.ref dd), some (.ref pd), y6, y7, y8, y9, y10, y11, y12, none, none]) ?_ (fun i σ H' _ hP => by obtain ⟨_, _, _, _, _, _, _, z, _⟩ := hP; exact .inl (.inl z)) (fun i v σ H15 H16 hi hP hY => ?_) (fun σ H15 hP => ?_)⟩
        · exact ⟨[], [], y6, none, none, none, b14, e14, m14.sx _ _ edd ndd', m14.sx _ _ epd npd', Paired.mono (rowD.tt (TT.mv ba.mv.se m14)) dT, .nil, by simp, (fun _ z => by cases z), rfl⟩
        · obtain ⟨rfl, hv⟩ := hY
          obtain ⟨pas, people, y6', y10, y11, y12, ca, efl, ed, ep, tD, tP, nP, okP, rfl⟩ := hP
          obtain ⟨nm, hnm, rfl⟩ := at_map hv
          have lp : pas.length ≤ 3 := by
            rw [Paired.length tP, ← List.length_map (f := (·.1)), nP, List.length_take]
            omega
          -- wants
          refine ⟨.ref dr, rfl, .ref r, rfl, dr, r, rs, 4, rfl, ca.mv.se, .inl (.inl ca.er), l1000, by decide, fun Hb tw ws sw mb ntw etw => ?_⟩
          have cb := ca.go nk mb
          -- bans
          refine ⟨.ref dr, rfl, .ref r, rfl, r, rfl, ⟨_, .inl (.inl cb.er)⟩, fun D nD' => lc_mf (walk_tup (xs := rs.map V.str)) rs (fun z => !decide (z ∈ ws)) V.str (by rw [List.length_map]) nD' l1000 (fun H' s' => .inl (.inl (s' _ _ cb.er))) (fun i u v H7 H8 Kt Kf hz s7 hY kt kf => ?_) (fun H7 s7 eD => ?_)⟩
          · obtain ⟨rfl, hx⟩ := hY
            rw [List.getElem?_map, hz] at hx
            cases hx
            refine ⟨rfl, .str u, rfl, .ref tw, rfl, tw, _, rfl, .inr (.inl (.inl (s7 _ _ etw))), rfl, Lk.flat_strs ws, _, rfl, ?_⟩
            rw [inV_str]
            refine ite2 (fun t2 => ?_) (fun t2 => ?_)
            · exact ⟨.str u, rfl, kt t2 _ (Same.refl _)⟩
            · exact kf (Bool.eq_false_iff.mpr t2) _ (Same.refl _)
          · have cc := cb.more s7
            have nDr : D ≠ dr := cb.mv.se.new nD'
            refine ⟨dr, D, rs.filter (fun z => !decide (z ∈ ws)), 3, rfl, cc.mv.se, .inl (.inl eD), nDr, Nat.le_trans (List.length_filter_le _ _) l1000, by decide, fun Hc tb bs' sb mc ntb etb => ?_⟩
            have cd := cc.go nk mc
            -- the keys
            refine ⟨.ref dr, rfl, .ref k, rfl, k, rfl, ⟨_, .inl (.inl cd.ek)⟩, fun D2 nD2 => lc_m (walk_list (xs := kas.map V.ref)) keys (fun q => .str q.1) (by rw [List.length_map, Paired.length cd.kT]) nD2 (by omega) (fun H' s' => .inl (.inl (s' _ _ cd.ek))) (fun i u v H9 H10 Kt hz s9 hY kk => ?_) (fun H9 s9 eD2 => ?_)⟩
            · obtain ⟨rfl, hx⟩ := hY
              obtain ⟨t, ht, row⟩ := pair_get cd.kT hz
              rw [List.getElem?_map, ht] at hx
              cases hx
              exact ⟨t, _, rfl, .inl (.inl (s9 _ _ row)), rfl, _, _, rfl, _, _, rfl, rfl, rfl, .str u.1, rfl, kk _ (Same.refl _)⟩
            · have ce := cd.more s9
              have nD2r : D2 ≠ dr := cd.mv.se.new nD2
              have eD3 : H9 D2 = some (.lst ((keys.map (·.1)).map V.str)) := by rw [List.map_map]; exact eD2
              refine ⟨dr, D2, keys.map (·.1), 3, rfl, ce.mv.se, .inl (.inl eD3), nD2r, by rw [List.length_map]; omega, by decide, fun Hd tg gs sg md ntg etg => ?_⟩
              have cf := ce.go nk md
              have mbd : Mw dr Hb Hd := ((Mw.of mb.se s7).trans mc).trans ((Mw.of mc.se s9).trans md)
              have mcd : Mw dr Hc Hd := (Mw.of mc.se s9).trans md
              -- the row
              refine ⟨.ref pd, rfl, .inl ⟨rfl, _, .inl (.inl ((mb.trans mbd).sx _ _ ep npd'))⟩, .str nm, rfl, .ref r, rfl, .ref dr, rfl, .ref r, rfl, r, _, rfl, .inr (.inl (.inl cf.er)), dr, _, rfl, cf.mv.se, by omega, fun j Hf j0 j1 mf => ?_⟩
              rw [lrI] at j1
              obtain ⟨zs, hzs, _, azs⟩ := at_str j0 j1
              have cg := cf.go nk mf
              refine ⟨r, _, j, .str zs, rfl, rfl, .inl (.inl cg.er), azs, .ref tg, rfl, .ref tw, rfl, .ref tb, rfl, by show 5 ≤ sizeLine; rw [sizeLine_eq]; decide, fun tp ntp => ?_⟩
              have sp := same_new (o := .tup [.str nm, .str zs, .ref tg, .ref tw, .ref tb]) ntp
              have ch := cg.more sp
              have mah : Mw dr H16 Hf := (mb.trans mbd).trans mf
              have eph := sp _ _ (mah.sx _ _ ep npd')
              have edh := sp _ _ (mah.sx _ _ ed ndd')
              have tz : TT H16 (upd (upd Hf tp (.tup [.str nm, .str zs, .ref tg, .ref tw, .ref tb])) pd (.lst (pas.map V.ref ++ [.ref tp]))) := ((TT.mv ca.mv.se mah).trans (TT.of sp)).trans (TT.put eph)
              have tzd : TT Hd (upd (upd Hf tp (.tup [.str nm, .str zs, .ref tg, .ref tw, .ref tb])) pd (.lst (pas.map V.ref ++ [.ref tp]))) := ((TT.mv md.se mf).trans (TT.of sp)).trans (TT.put eph)
              have so : SomeOf bs' rs := by
                obtain ⟨sub, s1, s2⟩ := sb
                exact ⟨sub, s1.trans List.filter_sublist, s2⟩
              have lw : ∀ {ys : List Str}, SomeOf ys rs → ys.length ≤ 100 := fun s => Nat.le_trans s.len (by omega)
              have pok : PersonD.ok ⟨zs, gs, ws, bs'⟩ := ⟨nmr zs hzs, sg.are nmk ndk, sw.are nmr ndr, so.are nmr ndr, fun z hz hs => (by
                have := (List.mem_filter.mp (sb.mem z hs)).2
                simp at this
                exact this hz), Nat.le_trans sg.len (by rw [List.length_map]; omega), lw sw, lw so⟩
              refine ⟨pd, _, _, rfl, rfl, eph, by rw [List.length_map]; exact small1000 (by omega), pas ++ [tp], people ++ [(nm, ⟨zs, gs, ws, bs'⟩)], some (.str nm), some (.ref tw), some (.ref tb), some (.ref tg), ch.put hS nHp eph nkp, tz _ _ efl, by rw [upd_ne ndp]; exact edh, by rw [upd_same, List.map_append]; rfl, Paired.mono (rowD.tt tz) tD, ?_, ?_, fun q hq => ?_, rfl⟩
              · exact Paired.snoc (Paired.mono (rowP.tt tz) tP) ⟨tg, tw, tb, TT.put eph _ _ upd_same, tzd _ _ etg, tzd _ _ (TT.mv mb.se mbd _ _ etw), tzd _ _ (TT.mv mc.se mcd _ _ etb)⟩
              · rw [List.map_append, nP, take_next1 hnm]
                rfl
              · rcases List.mem_append.mp hq with u | u
                · exact okP q u
                · rw [List.mem_singleton.mp u]
                  exact ⟨pok, hzs, sg.mem, sw.mem, so.mem⟩
        · obtain ⟨pas, people, y6', y10, y11, y12, ca, efl, ed, ep, tD, tP, nP, okP, rfl⟩ := hP
          rw [List.length_map, List.take_length] at nP
          refine ⟨.ref r, rfl, .ref k, rfl, .ref dd, rfl, .ref pd, rfl, by show 4 ≤ sizeLine; rw [sizeLine_eq]; decide, fun t nt => ?_⟩
          have st := same_new (o := .tup [.ref r, .ref k, .ref dd, .ref pd]) nt
          have cz := ca.more st
          refine q _ t ⟨rs, keys, doors, people⟩ (by show rs.length ≤ 5; omega) (by show (doors.map (·.1)).Sublist names6; rw [nD, ← ens]; exact List.take_sublist _ _) (fun q hq => sub2 _ (kst q hq)) cz.mv ⟨⟨r, k, dd, pd, kas, das, pas, ⟨upd_same, cz.er, cz.ek, cz.kT, st _ _ ed, Paired.mono (rowD.tt (TT.of st)) tD, st _ _ ep, Paired.mono (rowP.tt (TT.of st)) tP⟩, nk, ndd', npd'⟩, ?_⟩
          have arr : areNm rs = true := SomeOf.are ⟨rs, List.Sublist.refl _, .refl _⟩ nmr ndr
          refine ⟨arr, by show 2 ≤ rs.length; omega, by show rs.length ≤ 6; omega, by show keys.length ≤ 3; omega, ndk, fun q hq => ⟨nmk _ (List.mem_map_of_mem hq), fun h => no25 _ (sub2 _ (kst q hq)) (sub5 _ h), inr q hq⟩, ?_, ?_, ?_, fun q hq => ?_, ?_, ?_, ?_, fun q hq => ?_⟩
          · show 1 ≤ doors.length
            rw [← List.length_map (f := (·.1)), nD]
            omega
          · show doors.length ≤ 8
            rw [← List.length_map (f := (·.1)), nD]
            omega
          · show (doors.map (·.1)).Nodup
            rw [nD]
            exact ndn
          · obtain ⟨a1, a2, a3, a4⟩ := okD q hq
            exact ⟨nmn _ (by rw [← nD]; exact List.mem_map_of_mem hq), a1, a2, a3, a4⟩
          · show 1 ≤ people.length
            rw [← List.length_map (f := (·.1)), nP]
            omega
          · show people.length ≤ 4
            rw [← List.length_map (f := (·.1)), nP]
            omega
          · show (people.map (·.1)).Nodup
            rw [nP]
            exact ndf
          · obtain ⟨a1, a2, a3, a4, a5⟩ := okP q hq
            exact ⟨nmf _ (by rw [← nP]; exact List.mem_map_of_mem hq), a1, a2, a3, a4, a5⟩
end
end Lw
set_option Elab.async false
set_option linter.all false
set_option maxRecDepth 100000
set_option maxHeartbeats 2000000
/-! t[::-1] of a tuple; d != d of dicts that may be frozen. -/
namespace Lk
open PySem PySem.Spec PyProof.Rows L2 TxS LkO
theorem back_pick (xs : Array Value) : (List.range xs.size).filterMap (fun (k : Nat) => xs[((xs.size : Int) - 1 + (k : Int) * (-1)).toNat]?) = xs.toList.reverse := by
  have e1 : (List.range xs.size).filterMap (fun (k : Nat) => xs[((xs.size : Int) - 1 + (k : Int) * (-1)).toNat]?) = (List.range xs.size).filterMap (fun (k : Nat) => some ((xs.toList.reverse)[k]?.getD Value.none)) := by
    have go : ∀ (l : List Nat) (f g : Nat → Option Value), (∀ k ∈ l, f k = g k) → l.filterMap f = l.filterMap g := fun l f g h => by
      induction l with
      | nil => rfl
      | cons a r ih => rw [List.filterMap_cons, List.filterMap_cons, h a List.mem_cons_self, ih fun k hk => h k (List.mem_cons_of_mem _ hk)]
    refine go _ _ _ fun k hk => ?_
    have hk := List.mem_range.mp hk
    have hi : ((xs.size : Int) - 1 + (k : Int) * (-1)).toNat = xs.size - 1 - k := by omega
    have hl : xs.size - 1 - k < xs.size := by omega
    rw [hi, Array.getElem?_eq_getElem hl, List.getElem?_reverse (by rw [Array.length_toList]; exact hk), Array.length_toList, Array.getElem?_toList, Array.getElem?_eq_getElem hl]
    rfl
  rw [e1, List.filterMap_eq_map']
  refine List.ext_getElem (by simp) fun i h1 h2 => ?_
  rw [List.getElem_map, List.getElem_range, List.getElem?_eq_getElem h2]
  rfl
section
variable {prog : Program} {w : World} {A : Around} {E : Value → Shared → Prop} {s : Shared}
theorem back_applied {sl : Addr} {vl vu vs : Value} {n : Nat} {Q : Int × Int × Nat → Shared → Prop} (hs : s.heap.IsSliceOf sl vl vu vs) (pl : IsPart vl none) (pu : IsPart vu none) (ps : IsPart vs (some (-1)))
    (h : Q ((n : Int) - 1, -1, n) s) : wpAny (model prog w) A (Builtin.Slice.sliceApplied (.ref sl) (pure (n : Int))) Q E s := by
  obtain ⟨os, hos, hcs, hds⟩ := id hs
  unfold Builtin.Slice.sliceApplied Builtin.Slice.sliceFields
  refine wpAny_bind (wpAny_bind (wpAny_field hos hds (x := vl) rfl (wpAny_bind (wpAny_field hos hds (x := vu) rfl (wpAny_bind (wpAny_field hos hds (x := vs) rfl (wpAny_pure ?_)))))))
  refine wpAny_bind (HT.slicePart_ ps ?_)
  show wpAny _ _ (if ((-1 : Int) == 0) = true then _ else _) _ _ s
  rw [if_neg (by decide)]
  refine wpAny_bind (HT.slicePart_ pl (wpAny_bind (HT.slicePart_ pu (wpAny_bind (wpAny_pure ?_)))))
  show wpAny _ _ (match Builtin.Slice.sliceAdjust none none (-1) (n : Int) with | (lo, hi) => pure (lo, (-1 : Int), Builtin.Slice.slicePlaces lo hi (-1))) _ _ s
  have e1 : Builtin.Slice.sliceAdjust none none (-1) (n : Int) = ((n : Int) - 1, -1) := by
    unfold Builtin.Slice.sliceAdjust
    simp
  rw [e1]
  have e2 : Builtin.Slice.slicePlaces ((n : Int) - 1) (-1) (-1) = n := by
    unfold Builtin.Slice.slicePlaces
    rw [if_neg (by decide)]
    by_cases z : n = 0
    · subst z
      rfl
    · rw [if_pos (by omega), show (-(-1) : Int) = 1 from rfl, Int.ediv_one]
      omega
  show wpAny _ _ (pure ((n : Int) - 1, (-1 : Int), Builtin.Slice.slicePlaces ((n : Int) - 1) (-1) (-1))) _ _ s
  rw [e2]
  exact wpAny_pure h
theorem get_back {t sl : Addr} {items : Array Value} {vl vu vs : Value} {Q : Value → Shared → Prop} (ht : IsTup s.heap t items) (hs : s.heap.IsSliceOf sl vl vu vs) (pl : IsPart vl none) (pu : IsPart vu none) (ps : IsPart vs (some (-1)))
    (h : Q (.ref s.heap.objs.size) { s with heap := s.heap.push { cls := .type "tuple", data := .seq items.toList.reverse.toArray } }) (hsz : items.size ≤ sizeLine) : wpAny (model prog w) A (getItem (.ref t) (.ref sl)) Q E s := by
  obtain ⟨os, hos, hcs, hds⟩ := id hs
  have ty : s.TypeIs (.ref sl) "slice" := ⟨os, hos, hcs⟩
  have fits : sizeOk (.seq items.toList.reverse.toArray) := by
    show items.toList.reverse.toArray.size ≤ sizeLine
    rw [List.size_toArray, List.length_reverse, Array.length_toList]
    exact hsz
  unfold getItem
  try with_reducible refine wpAny_holding ?_
  first | refine wpAny_bind (wpAny_pure ?_) | skip
  refine wpAny_bind (wpAny_sequenceKey ht.typeIs (by decide) ?_)
  refine wpAny_bind (wpAny_callSpecial?_slot (name := Str.ofString "__getitem__") ht.typeIs PyProof.Rows.slot_tuple_getitem (wpAny_call_entry PyProof.Rows.slot_tuple_getitem ht.typeIs entry_tuple_getitem ?_ (args_tuple_getitem _ _)))
  show wpAny _ _ (Builtin.Tuple.tupleItemsOf (.ref t) >>= _) _ _ s
  refine wpAny_bind (tupleItemsOf_ ht ?_)
  refine wpAny_bind (wpAny_typeOf ty ?_)
  rw [if_pos (by decide)]
  refine wpAny_bind (back_applied (n := items.size) hs pl pu ps ?_)
  have no : ¬ ((((items.size : Int) - 1) == 0 && (-1 : Int) == 1 && items.size == items.size) = true) := by
    rw [show ((-1 : Int) == 1) = false from rfl, Bool.and_false, Bool.false_and]
    exact Bool.false_ne_true
  show wpAny _ _ (if (((items.size : Int) - 1) == 0 && (-1 : Int) == 1 && items.size == items.size) = true then _ else _) _ _ s
  rw [if_neg no, back_pick]
  first
    | exact wpAny_bind (m := Builtin.Tuple.tupleExact _) (wpAny_newObj_type (wpAny_pure ⟨_, rfl, wpAny_pure h⟩) fits)
    | exact wpAny_bind (m := Builtin.Tuple.tupleExact _) (wpAny_newObj_type (wpAny_bind (wpAny_pure (wpAny_pure ⟨_, rfl, wpAny_pure h⟩))) fits)
    | exact wpAny_bind (wpAny_bind (m := Builtin.Tuple.tupleExact _) (wpAny_newObj_type (wpAny_pure (wpAny_pure ⟨_, rfl, wpAny_pure h⟩)) fits))
    | exact wpAny_bind (wpAny_bind (m := Builtin.Tuple.tupleExact _) (wpAny_newObj_type (wpAny_pure ⟨_, rfl, wpAny_pure h⟩) fits))
end
/-- t[::-1] -/
def tRevT (K : PySem.W.Frag) (te : TE) : TE := fun σ H Q => te σ H fun x H1 => ∃ a xs, x = .ref a ∧ SqT K H1 a xs ∧ ∀ p, H1 p = none → Q (.ref p) (upd H1 p (.tup xs.reverse))
theorem pe_revT {X : Cx} {e : Expr} {te : TE} {k : Nat} {p1 p2 p3 pos : Pos} (he : PE X e te) : PE X (.Subscript e (.Slice none none (some (.UnaryOp .USub (.Constant (.int 1) k p1) p2)) p3) pos) (tRevT X.K te) := by
  refine ⟨fun pins s σ H Q I h => Subscript_ (thn (he.run pins s σ H _ I h) fun v s1 z => ?_)⟩
  obtain ⟨x, H1, I1, r1, a, xs, rfl, hx, q⟩ := z
  cases r1
  have step : PO X (some (.UnaryOp .USub (.Constant (.int 1) k p1) p2)) (tPart (tUn (rU fun i => .int (-i)) (tC (.int 1)))) := po_some (pe_un un_neg pe_int)
  refine wpAny_Slice (thn (po_none.run pins s1 σ H1 (fun o H2 => o = none ∧ H2 = H1) I1 ⟨rfl, rfl⟩) fun vl s2 z2 => ?_)
  obtain ⟨l, H2, I2, pl, rfl, rfl⟩ := z2
  refine thn (po_none.run pins s2 σ H2 (fun o H3 => o = none ∧ H3 = H2) I2 ⟨rfl, rfl⟩) fun vu s3 z3 => ?_
  obtain ⟨u, H3, I3, pu, rfl, rfl⟩ := z3
  refine thn (step.run pins s3 σ H3 (fun o H4 => o = some (-1) ∧ H4 = H3) I3 ⟨1, rfl, -1, rfl, rfl, rfl⟩) fun vs s4 z4 => ?_
  obtain ⟨o, H4, I4, ps, rfl, rfl⟩ := z4
  have I5 : Inv X pins σ H4 { s4 with heap := s4.heap.push { cls := .type "slice", data := .fields #[vl, vu, vs] } } := I4.kept (t' := s4.toks) fun b ob w => Heap.get?_push_of_some _ w
  obtain ⟨its, r, ht, hz⟩ := I5.tuple hx
  have hl := r.length
  show wpAny (model X.prog X.w) X.A (subscriptTail e (.Slice none none (some (.UnaryOp .USub (.Constant (.int 1) k p1) p2)) p3) (.ref a) (.ref s4.heap.objs.size)) (EP X pins σ Q) X.xe _
  refine tail_any (ops := [.ref a, .ref s4.heap.objs.size]) ht.typeIs PyProof.Rows.slot_tuple_getitem.lookup ?_ (by with_unfolding_all rfl)
  refine get_back ht (Heap.IsSliceOf.new _ vl vu vs) pl pu ps ?_ (by rw [List.size_toArray]; omega)
  refine ⟨.ref _, _, I5.laid (t' := s4.toks) (o := .tup xs.reverse) (fun b ob w => Heap.get?_push_of_some _ w) (Nat.le_refl _) ?_, rfl, q _ (I5.hok.fresh (Nat.le_refl _))⟩
  exact ⟨by rw [List.length_reverse]; exact hz, _, r.reverse, ⟨_, Heap.get?_push_size _ rfl, rfl, 0, by simp⟩⟩
/-- d != e: no -/
def rNeDR : R2 := fun x y H Q => ∃ a b ks ls, x = .ref a ∧ y = .ref b ∧ Rd H a (.dK ks) ∧ Rd H b (.dK ls) ∧ ks.length = ls.length ∧ (∀ p ∈ ks, valV ls p.1 = some p.2 ∧ flatB p.2 = true) ∧ Q (.bl false) H
theorem op_neDR {X : Cx} (hu : X.A.units < cLine) : OpR X (compareOp .NotEq) rNeDR := by
  intro pins s σ H x y v u Q I rx ry h
  obtain ⟨a, b, ks, ls, rfl, rfl, ea, eb, len, each, q⟩ := h
  cases rx
  cases ry
  obtain ⟨_, ya, va, ra, da⟩ := dk_rd I.hok ea
  obtain ⟨_, yb, vb, rb, db⟩ := dk_rd I.hok eb
  have hl : va.length = vb.length := by rw [← ra.length, ← rb.length, len]
  exact PySem.W.keq_ne (knd := mixKind X.prog X.w) (r := true) ya yb da db hu (fun _ => hits_all rb ra each) (fin_bl I q (by simp [hl]))
end Lk
set_option Elab.async false
set_option linter.all false
set_option maxRecDepth 100000
set_option maxHeartbeats 4000000
namespace Lw
open PySem PySem.Spec PyProof.Rows L2 TxS LkO Lk
/-- C(..) by keywords -/
structure MkW (P : Program) (w : World) (K : PySem.W.Frag) (mg : Str → Option Value) (base : Heap) (k : Nat) (C : Addr) (x : Str) (ps ks : List Str) (n : Nat) (sp : Sp) : Prop where
  ex : ∃ f fd, Mk K C f ∧ mg x = some (.ref C) ∧ KBn K fd ps (n + 1) ks (fun us ws => us ++ ws) (fun vs zs => vs ++ zs) ∧ FnOk P w K mg base CX0 k f fd ps sp
structure MkP (P : Program) (w : World) (K : PySem.W.Frag) (mg : Str → Option Value) (base : Heap) (k : Nat) (C : Addr) (x : Str) (ps : List Str) (sp : Sp) : Prop where
  ex : ∃ f fd, Mk K C f ∧ mg x = some (.ref C) ∧ Binds K fd ps [] ∧ FnOk P w K mg base CX0 k f fd ps sp
/-- what is no dict stays -/
def Nd (H H' : Hp) : Prop := ∀ a o, H a = some o → (∀ kvs, o ≠ .dK kvs) → H' a = some o
theorem Nd.refl (H : Hp) : Nd H H := fun _ _ e _ => e
theorem Nd.of {H H' : Hp} (s : Same H H') : Nd H H' := fun a o e _ => s a o e
theorem Nd.trans {H H1 H2 : Hp} (a : Nd H H1) (b : Nd H1 H2) : Nd H H2 := fun c o e d => b c o (a c o e d) d
theorem Nd.put {H : Hp} {d : Addr} {kvs : List (Key × V)} {o : HO} (h : H d = some (.dK kvs)) : Nd H (upd H d o) := fun a u e nd => by
  rw [upd_ne (ne_of e h (nd kvs))]
  exact e
theorem Nd.tup {K : PySem.W.Frag} {H H' : Hp} {a : Addr} {xs : List V} (n : Nd H H') (h : SqT K H a xs) : SqT K H' a xs := by
  rcases h with (e | ⟨o, e⟩) | e
  · exact .inl (.inl (n _ _ e fun _ z => by cases z))
  · exact .inl (.inr ⟨o, n _ _ e fun _ z => by cases z⟩)
  · exact .inr e
theorem Nd.door {C : Addr} {H H' : Hp} (n : Nd H H') (v : V) (d : DoorD) (h : doorR C H v d) : doorR C H' v d := by
  obtain ⟨x, e, ⟨dx, hx⟩, ok⟩ := h
  exact ⟨x, e, ⟨dx, n _ _ hx (fun _ z => by cases z)⟩, ok⟩
theorem Nd.pers {K : PySem.W.Frag} {C : Addr} {H H' : Hp} (n : Nd H H') (v : V) (d : PersonD) (h : persR K C H v d) : persR K C H' v d := by
  obtain ⟨x, e, ⟨dx, t1, t2, t3, hx, h1, h2, h3⟩, ok⟩ := h
  exact ⟨x, e, ⟨dx, t1, t2, t3, n _ _ hx (fun _ z => by cases z), n.tup h1, n.tup h2, n.tup h3⟩, ok⟩
theorem Tab.snoc {α : Type} {R : V → α → Prop} {kvs : List (Key × V)} {l : List (Str × α)} {n : Str} {v : V} {a : α} (t : Tab R kvs l) (h : R v a) : Tab R (kvs ++ [(.inr n, v)]) (l ++ [(n, a)]) := Paired.snoc t ⟨rfl, h⟩
theorem tab_no {α : Type} {R : V → α → Prop} {kvs : List (Key × V)} {l : List (Str × α)} {n : Str} (t : Tab R kvs l) (h : n ∉ l.map (·.1)) : (Sum.inr n : Key) ∉ kvs.map (·.1) := fun e => by
  rw [t.keys] at e
  obtain ⟨m, hm, q⟩ := List.mem_map.mp e
  exact h (by rw [← Sum.inr.inj q]; exact hm)
theorem nodup_take {α : Type} {l : List (Str × α)} (nd : (l.map (·.1)).Nodup) {i : Nat} {q : Str × α} (h : l[i]? = some q) : q.1 ∉ (l.take i).map (·.1) := by
  have := take_new nd (i := i) (z := q.1) (by rw [List.getElem?_map, h]; rfl)
  rw [← List.map_take] at this
  exact this
theorem fresh_of {H H' : Hp} {a : Addr} (s : Same H H') (n : H' a = none) : H a = none := by
  cases e : H a with
  | none => rfl
  | some o =>
    have := s _ _ e
    rw [n] at this
    cases this
/-! ### dict(keys) -/
theorem merge_new : ∀ (more : List (Key × V)) (kvs : List (Key × V)), ((kvs ++ more).map (·.1)).Nodup → mergeK kvs more = kvs ++ more
  | [], kvs, _ => by rw [List.append_nil]; rfl
  | q :: r, kvs, nd => by
    have e1 : mergeK kvs (q :: r) = mergeK (putK kvs q.1 q.2) r := rfl
    have n1 : q.1 ∉ kvs.map (·.1) := fun h => by
      rw [List.map_append, List.nodup_append] at nd
      exact nd.2.2 q.1 h q.1 (by simp) rfl
    rw [e1, putK_new n1, merge_new r (kvs ++ [(q.1, q.2)]) (by rw [List.append_assoc]; exact nd), List.append_assoc]
    rfl
def keyKV (q : Str × Str) : Key × V := (.inr q.1, .str q.2)
theorem merge_keys {keys : List (Str × Str)} (nd : (keys.map (·.1)).Nodup) : mergeK [] (keys.map keyKV) = keys.map keyKV := by
  have := merge_new (keys.map keyKV) [] (by
    rw [List.nil_append, List.map_map]
    have e : (keys.map ((·.1) ∘ keyKV)) = (keys.map (·.1)).map (Sum.inr : Str → Key) := by rw [List.map_map]; rfl
    rw [e]
    exact List.Pairwise.map _ (fun a b h z => h (Sum.inr.inj z)) nd)
  rw [this, List.nil_append]
theorem tab_keys : ∀ keys : List (Str × Str), Tab keyR (keys.map keyKV) keys
  | [] => .nil
  | q :: r => .cons ⟨rfl, rfl⟩ (tab_keys r)
theorem pair_keys {K : PySem.W.Frag} {H : Hp} : ∀ {kas : List Addr} {keys : List (Str × Str)}, Paired (rowK H) kas keys → Paired (fun p (kv : Key × V) => SqT K H p [kV kv.1, kv.2]) kas (keys.map keyKV)
  | _, _, .nil => .nil
  | _, _, .cons h r => .cons (.inl (.inl h)) (pair_keys r)
section
variable {P : Program} {w : World} {K : PySem.W.Frag} {mg : Str → Option Value} {base : Heap} {CD CP CB CL : Addr}
/-! ### _law_built -/
def spBuilt (K : PySem.W.Frag) (CD CP CB : Addr) : Sp := fun vs H Q _ => ∃ (t : Addr) (b : BldD), vs = [.ref t] ∧ PlAt H t b ∧ ∀ H' x, Same H H' → BldAt K CD CP CB H' x b → Q (.ref x) H'
abbrev nBuilt : List Str := ["_law_plan", "_law_doors", "_law_people", "_law_name", "_law_start", "_law_end", "_law_lock", "_law_is_both", "_law_price", "_law_keys", "_law_wants", "_law_bans"]
theorem scBuilt : FnScope nBuilt ["_law_plan"] (defScope s__law_built) := ⟨rfl, rfl, rfl, by decide +kernel, rfl, by decide +kernel, by decide +kernel⟩
theorem ok_built {f : Addr} {fd : FuncData} (F : Fun K "_law_built" "_law_built" s__law_built f fd) (B : Blt mg) (MD : MkW P w K mg base 3 CD "Door" ["self", "start", "end", "key", "both", "cost"] ["key", "both", "cost"] 2 (spDoor CD)) (MP : MkW P w K mg base 3 CP "Person" ["self", "start", "carried", "needs", "shuns"] ["carried", "needs", "shuns"] 1 (spPerson K CP))
    (MB : MkP P w K mg base 5 CB "Building" ["self", "rooms", "keys", "doors", "people"] (spBld K CD CP CB)) : FnOk P w K mg base CX0 7 f fd ["_law_plan"] (spBuilt K CD CP CB) := by
  obtain ⟨fD, fdD, mkD, gD, kbD, FD⟩ := MD.ex
  obtain ⟨fP, fdP, mkP, gP, kbP, FP⟩ := MP.ex
  obtain ⟨fB, fdB, mkB, gB, bB, FB⟩ := MB.ex
  refine F.ok scBuilt (fun vs H Q E h => ?_) (fun cdv A outer s H vs Q E hr h => ?_)
  · obtain ⟨t, b, rfl, _⟩ := h
    rfl
  · obtain ⟨t, b, rfl, ⟨⟨r, k, dd, pd, kas, das, pas, I⟩, bok⟩, q⟩ := h
    have hr4 := hr.mono (show 4 ≤ 6 by decide)
    have hu := hu_of hr
    refine ⟨_, pss_cons (ps_par (i := 1) (j := 2) rfl scBuilt.nd rfl rfl (by decide) rfl rfl (pa_cons pe_dnewK (pa_cons pe_dnewK pa_nil)) rfl)
      (pss_cons (ps_for PassesOwn.never rfl (pi_list (pe_ix ix_tup (pv 0) pe_int (fun _ _ => rfl))) (pg_tup rfl (pgs_cons (pg_name (i := 3) scBuilt.nd rfl (Or.inl rfl)) (pgs_cons (pg_name (i := 4) scBuilt.nd rfl (Or.inl rfl)) (pgs_cons (pg_name (i := 5) scBuilt.nd rfl (Or.inl rfl)) (pgs_cons (pg_name (i := 6) scBuilt.nd rfl (Or.inl rfl)) (pgs_cons (pg_name (i := 7) scBuilt.nd rfl (Or.inl rfl)) (pgs_cons (pg_name (i := 8) scBuilt.nd rfl (Or.inl rfl)) pgs_nil)))))))
        (pss_one (ps_asg (pe_makeK (n := 2) (E := E0) mkD FD hr4 (by rfl) gD kbD pass0 (pa_cons (pv 4) (pa_cons (pv 5) pa_nil)) (pk_cons (pv 6) (pk_cons (pv 7) (pk_cons (pv 8) pk_nil)))) (pg_sub (pv 1) (pv 3) (set_dict hu)))))
      (pss_cons (ps_for PassesOwn.never rfl (pi_list (pe_ix ix_tup (pv 0) pe_int (fun _ _ => rfl))) (pg_tup rfl (pgs_cons (pg_name (i := 3) scBuilt.nd rfl (Or.inl rfl)) (pgs_cons (pg_name (i := 4) scBuilt.nd rfl (Or.inl rfl)) (pgs_cons (pg_name (i := 9) scBuilt.nd rfl (Or.inl rfl)) (pgs_cons (pg_name (i := 10) scBuilt.nd rfl (Or.inl rfl)) (pgs_cons (pg_name (i := 11) scBuilt.nd rfl (Or.inl rfl)) pgs_nil))))))
        (pss_one (ps_asg (pe_makeK (n := 1) (E := E0) mkP FP hr4 (by rfl) gP kbP pass0 (pa_cons (pv 4) pa_nil) (pk_cons (pv 9) (pk_cons (pv 10) (pk_cons (pv 11) pk_nil)))) (pg_sub (pv 2) (pv 3) (set_dict hu)))))
      (pss_one (ps_frz (ps_frz (ps_ret (pe_make (E := E0) mkB FB hr (by rfl) gB bB .nil pass0 (pa_cons (pe_ix ix_tup (pv 0) pe_int (fun _ _ => rfl)) (pa_cons (pe_frz (pe_callTy (call_dictP rfl) (by rfl) B.dct PyProof.Rows.boot_dict (pa_cons (pe_ix ix_tup (pv 0) pe_int (fun _ _ => rfl)) pa_nil))) (pa_cons (pv 1) (pa_cons (pv 2) pa_nil))))))))))), ?_⟩
    intro sh nsh fo nfo
    have nfs : sh ≠ fo := ne_of_none upd_same nfo
    have nHf : H fo = none := fresh_of (same_new (o := .dK []) nsh) nfo
    refine ⟨_, _, rfl, ?_⟩
    have s0 : Same H (upd (upd H sh (.dK [])) fo (.dK [])) := (same_new nsh).trans (same_new nfo)
    have sqt : ∀ {H' : Hp}, Same H H' → SqT K H' t [.ref r, .ref k, .ref dd, .ref pd] := fun s' => .inl (.inl (s' _ _ I.ob))
    refine ⟨.ref t, rfl, t, _, 2, _, rfl, rfl, sqt s0, rfl, dd, rfl, ⟨_, .inl (.inl (s0 _ _ I.doors))⟩, for_it (walk_list (xs := das.map V.ref)) (fun i σ H' => Same H H' ∧ H' fo = some (.dK []) ∧ (∃ es, H' sh = some (.dK es) ∧ Tab (doorR CD H') es (b.doors.take i)) ∧
      ∃ y3 y4 y5 y6 y7 y8, σ = [some (.ref t), some (.ref sh), some (.ref fo), y3, y4, y5, y6, y7, y8, none, none, none]) ?_ (fun i σ H' _ hP => .inl (.inl (hP.1 _ _ I.doors))) (fun i v σ H4 H5 hi hP hY => ?_) (fun σ H4 hP => ?_)⟩
    · exact ⟨s0, upd_same, ⟨[], by rw [upd_ne nfs]; exact upd_same, .nil⟩, none, none, none, none, none, none, rfl⟩
    · obtain ⟨rfl, hv⟩ := hY
      obtain ⟨s4, efo, ⟨es, esh, tab⟩, y3, y4, y5, y6, y7, y8, rfl⟩ := hP
      obtain ⟨tr, htr, rfl⟩ := at_map hv
      obtain ⟨nd, hg, row⟩ := pair_at I.doorsT htr
      have hm := List.mem_of_getElem? hg
      refine ⟨tr, _, rfl, .inl (.inl (s4 _ _ row)), rfl, _, _, rfl, _, _, rfl, _, _, rfl, _, _, rfl, _, _, rfl, _, _, rfl, rfl, ?_⟩
      refine ⟨.str nd.2.a, rfl, .str nd.2.b, rfl, oV nd.2.key, rfl, .bl nd.2.both, rfl, .int nd.2.cost, rfl, rfl, rfl, fun x dx nx ndx ne => ⟨x, dx, nd.2, rfl, upd_same, (bok.doors nd hm).2.1, fun H6 kp ex => ⟨rfl, ?_⟩⟩⟩
      have s6 : Same H5 H6 := Same.made nx ndx kp
      have esh6 := s6 _ _ esh
      have lel : es.length ≤ 8 := by
        rw [tab.len, List.length_take]
        have := bok.d8
        omega
      have nn : Nd H5 (upd H6 sh (.dK (es ++ [(.inr nd.1, .ref x)]))) := (Nd.of s6).trans (Nd.put esh6)
      refine ⟨.ref sh, rfl, .str nd.1, rfl, sh, _, rfl, .inl ⟨es, .inr nd.1, esh6, rfl, by rw [sizeLine_eq]; omega, by rw [putK_new (tab_no tab (nodup_take bok.dnd hg))]⟩, Same.up (s4.trans s6) nsh, by rw [upd_ne nfs.symm]; exact s6 _ _ efo, ⟨_, upd_same, ?_⟩, some (.str nd.1), some (.str nd.2.a), some (.str nd.2.b), some (oV nd.2.key), some (.bl nd.2.both), some (.int nd.2.cost), rfl⟩
      rw [take_next1 hg]
      exact Lw.Tab.snoc (tab.mono nn.door) ⟨x, rfl, ⟨dx, by rw [upd_ne (ne_of ex esh6 (by intro z; cases z))]; exact ex⟩, (bok.doors nd hm).2.1⟩
    · obtain ⟨s4, efo, ⟨es, esh, tab⟩, y3, y4, y5, y6, y7, y8, rfl⟩ := hP
      rw [List.length_map, Paired.length I.doorsT, List.take_length] at tab
      refine ⟨.ref t, rfl, t, _, 3, _, rfl, rfl, sqt s4, rfl, pd, rfl, ⟨_, .inl (.inl (s4 _ _ I.people))⟩, for_it (walk_list (xs := pas.map V.ref)) (fun i σ H' => Same H H' ∧ (∃ es, H' sh = some (.dK es) ∧ Tab (doorR CD H') es b.doors) ∧ (∃ gs, H' fo = some (.dK gs) ∧ Tab (persR K CP H') gs (b.people.take i)) ∧
        ∃ y3 y4 y5 y6 y7 y8 y9 y10 y11, σ = [some (.ref t), some (.ref sh), some (.ref fo), y3, y4, y5, y6, y7, y8, y9, y10, y11]) ?_ (fun i σ H' _ hP => .inl (.inl (hP.1 _ _ I.people))) (fun i v σ H5 H6 hi hP hY => ?_) (fun σ H5 hP => ?_)⟩
      · exact ⟨s4, ⟨es, esh, tab⟩, ⟨[], efo, .nil⟩, y3, y4, y5, y6, y7, y8, none, none, none, rfl⟩
      · obtain ⟨rfl, hv⟩ := hY
        obtain ⟨s5, ⟨es, esh, tabD⟩, ⟨gs, efo, tabP⟩, y3, y4, y5, y6, y7, y8, y9, y10, y11, rfl⟩ := hP
        obtain ⟨tr, htr, rfl⟩ := at_map hv
        obtain ⟨nd, hg, ⟨t1, t2, t3, row, h1, h2, h3⟩⟩ := pair_at I.peopleT htr
        have hm := List.mem_of_getElem? hg
        refine ⟨tr, _, rfl, .inl (.inl (s5 _ _ row)), rfl, _, _, rfl, _, _, rfl, _, _, rfl, _, _, rfl, _, _, rfl, rfl, ?_⟩
        refine ⟨.str nd.2.a, rfl, .ref t1, rfl, .ref t2, rfl, .ref t3, rfl, rfl, rfl, fun x dx nx ndx ne => ?_⟩
        have sm : Same H6 (upd (upd H6 dx (.own x)) x (.ins CP dx [])) := Same.up (same_new ndx) nx
        have st := s5.trans sm
        refine ⟨x, dx, t1, t2, t3, nd.2, rfl, upd_same, (bok.people nd hm).2.1, .inl (.inl (st _ _ h1)), .inl (.inl (st _ _ h2)), .inl (.inl (st _ _ h3)), fun H7 kp ex => ⟨rfl, ?_⟩⟩
        have s7 : Same H6 H7 := Same.made nx ndx kp
        have efo7 := s7 _ _ efo
        have lel : gs.length ≤ 4 := by
          rw [tabP.len, List.length_take]
          have := bok.p4
          omega
        have nn : Nd H6 (upd H7 fo (.dK (gs ++ [(.inr nd.1, .ref x)]))) := (Nd.of s7).trans (Nd.put efo7)
        have s57 := s5.trans s7
        refine ⟨.ref fo, rfl, .str nd.1, rfl, fo, _, rfl, .inl ⟨gs, .inr nd.1, efo7, rfl, by rw [sizeLine_eq]; omega, by rw [putK_new (tab_no tabP (nodup_take bok.pnd hg))]⟩, Same.up s57 nHf, ⟨es, by rw [upd_ne nfs]; exact s7 _ _ esh, tabD.mono nn.door⟩, ⟨_, upd_same, ?_⟩, some (.str nd.1), some (.str nd.2.a), y5, y6, y7, y8, some (.ref t1), some (.ref t2), some (.ref t3), rfl⟩
        rw [take_next1 hg]
        have hz : Nd H7 (upd H7 fo (.dK (gs ++ [(.inr nd.1, .ref x)]))) := Nd.put efo7
        exact Lw.Tab.snoc (tabP.mono nn.pers) ⟨x, rfl, ⟨dx, t1, t2, t3, hz _ _ ex (fun _ z => by cases z), hz.tup (.inl (.inl (s57 _ _ h1))), hz.tup (.inl (.inl (s57 _ _ h2))), hz.tup (.inl (.inl (s57 _ _ h3)))⟩, (bok.people nd hm).2.1⟩
      · obtain ⟨s5, ⟨es, esh, tabD⟩, ⟨gs, efo, tabP⟩, y3, y4, y5, y6, y7, y8, y9, y10, y11, rfl⟩ := hP
        rw [List.length_map, Paired.length I.peopleT, List.take_length] at tabP
        refine ⟨sh, .dK es, esh, trivial, fun oa => ⟨fo, .dK gs, by rw [upd_ne nfs.symm]; exact efo, trivial, fun oq => ?_⟩⟩
        have n2 : Nd H5 (upd (upd H5 sh (.frz oa (.dK es))) fo (.frz oq (.dK gs))) := (Nd.put esh).trans (Nd.put (by rw [upd_ne nfs.symm]; exact efo))
        have s6 : Same H (upd (upd H5 sh (.frz oa (.dK es))) fo (.frz oq (.dK gs))) := Same.up (Same.up s5 nsh) nHf
        have e1 : (upd (upd H5 sh (.frz oa (.dK es))) fo (.frz oq (.dK gs))) sh = some (.frz oa (.dK es)) := by rw [upd_ne nfs]; exact upd_same
        have e2 : (upd (upd H5 sh (.frz oa (.dK es))) fo (.frz oq (.dK gs))) fo = some (.frz oq (.dK gs)) := upd_same
        have tD6 := tabD.mono n2.door
        have tP6 := tabP.mono n2.pers
        generalize (upd (upd H5 sh (.frz oa (.dK es))) fo (.frz oq (.dK gs))) = H6 at *
        refine ⟨.ref t, rfl, t, _, 0, _, rfl, rfl, sqt s6, rfl, .ref t, rfl, t, _, 1, _, rfl, rfl, sqt s6, rfl, k, kas, b.keys.map keyKV, rfl, .inl (.inl (s6 _ _ I.keys)), pair_keys (Paired.mono (rowK.tt (TT.of s6)) I.keysT), fun kd nkd => ?_⟩
        rw [merge_keys bok.knd]
        refine ⟨kd, _, rfl, upd_same, trivial, fun ok => ?_⟩
        have s7 : Same H6 (upd (upd H6 kd (.dK (b.keys.map keyKV))) kd (.frz ok (.dK (b.keys.map keyKV)))) := Same.up (same_new nkd) nkd
        have e7 : (upd (upd H6 kd (.dK (b.keys.map keyKV))) kd (.frz ok (.dK (b.keys.map keyKV)))) kd = some (.frz ok (.dK (b.keys.map keyKV))) := upd_same
        generalize (upd (upd H6 kd (.dK (b.keys.map keyKV))) kd (.frz ok (.dK (b.keys.map keyKV)))) = H7 at s7 e7 ⊢
        refine ⟨.ref sh, rfl, .ref fo, rfl, fun x dx nx ndx ne => ?_⟩
        have sm : Same H7 (upd (upd H7 dx (.own x)) x (.ins CB dx [])) := Same.up (same_new ndx) nx
        have s8 := s7.trans sm
        have s68 := s6.trans s8
        refine ⟨x, dx, r, kd, sh, fo, b, ok, oa, oq, b.keys.map keyKV, es, gs, rfl, upd_same, bok, .inl (.inl (s68 _ _ I.rooms)), sm _ _ e7, tab_keys _, s8 _ _ e1, tD6.mono (doorR.same s8), s8 _ _ e2, tP6.mono (persR.same s8), fun H8 kp at_ => ⟨rfl, q H8 x ?_ at_⟩⟩
        exact (s6.trans s7).trans (Same.made nx ndx kp)
/-! ### _law_locks -/
structure LkT (P : Program) (w : World) (K : PySem.W.Frag) (mg : Str → Option Value) (base : Heap) (C : Addr) : Prop where
  c : LkC K mg C
  mks : ∃ f, Mk K C f ∧ FnR P w K mg base CX0 2 f (spNew C)
  or : ∃ f fd, OwnM K C f (PySem.dunder Operator.BitOr.info.2) ∧ FnOk P w K mg base CX0 4 f fd ["self", "other"] (spBin C gOr) ∧ Binds K fd ["self", "other"] []
def spLocks (K : PySem.W.Frag) (CL : Addr) : Sp := fun vs H Q _ => ∃ (t : Addr) (zs : List Str), vs = [.ref t] ∧ SqT K H t (zs.map V.str) ∧ (∀ z ∈ zs, isNm z = true) ∧ zs.length ≤ 20 ∧ ∀ H' c, Same H H' → LkAt CL H' c (srt zs) → Q (.ref c) H'
theorem scLocks : FnScope ["_law_names_here", "_law_found", "_law_name"] ["_law_names_here"] (defScope s__law_locks) := ⟨rfl, rfl, rfl, by decide +kernel, rfl, by decide +kernel, by decide +kernel⟩
theorem new_lk {C : Addr} {H : Hp} {Q : VK} {zs : List Str} (nm : ∀ z ∈ zs, isNm z = true) (few : zs.length < 64) (q : ∀ H' c, Same H H' → LkAt C H' c (srt zs) → Q (.ref c) H') :
    ∀ x dx, H x = none → H dx = none → dx ≠ x → spNew C (V.ref x :: zs.map V.str) (upd (upd H dx (.own x)) x (.ins C dx [])) (fun v H2 => v = .non ∧ Q (.ref x) H2) E0 := fun x dx nx nd ne =>
  ⟨x, dx, zs, rfl, upd_same, nm, few, fun H' t kp e1 e2 => ⟨rfl, by
    obtain ⟨s2, m2⟩ := made_at nx nd ne nm kp e1 e2
    exact q H' x s2 m2⟩⟩
theorem ok_locks {f : Addr} {fd : FuncData} (F : Fun K "_law_locks" "_law_locks" s__law_locks f fd) (T : LkT P w K mg base CL) : FnOk P w K mg base CX0 5 f fd ["_law_names_here"] (spLocks K CL) := by
  obtain ⟨fI, M, GI⟩ := T.mks
  obtain ⟨fO, fdO, mO, GO, bO⟩ := T.or
  refine F.ok scLocks (fun vs H Q E h => ?_) (fun cdv A outer s H vs Q E hr h => ?_)
  · obtain ⟨t, zs, rfl, _⟩ := h
    rfl
  · obtain ⟨t, zs, rfl, ht, nm, few, q⟩ := h
    have hr3 := hr.mono (show 3 ≤ 4 by decide)
    refine ⟨_, pss_cons (ps_set (i := 1) scLocks.nd rfl (.inl rfl) (pe_makeR0 (E := E0) M GI hr3 (by rfl) T.c.mgC pass0))
      (pss_cons (ps_for PassesOwn.never rfl (pi_tup (pv 0)) (pg_name (i := 2) scLocks.nd rfl (Or.inl rfl)) (pss_one (ps_set (i := 1) scLocks.nd rfl (.inl rfl) (pe_op (op_own (E := E0) T.c.sf mO GO hr bO pass0) (pv 1) (StX.pe_makeR (E := E0) M GI hr3 (by rfl) T.c.mgC pass0 (pa_cons (pv 2) pa_nil))))))
      (pss_one (ps_ret (pv 1)))), ?_⟩
    intro c dc nc ndc nec
    have nm0 : ∀ z ∈ ([] : List Str), isNm z = true := fun _ z => by cases z
    refine ⟨c, dc, [], rfl, upd_same, nm0, by decide, fun H1 t1 kp e1 e2 => ⟨rfl, ?_⟩⟩
    obtain ⟨s1, at1⟩ := made_at nc ndc nec nm0 kp e1 e2
    refine ⟨.ref t, rfl, t, rfl, ⟨_, Same.tup s1 ht⟩, for_it (walk_tup (xs := zs.map V.str)) (fun i σ H' => Same H H' ∧ ∃ c y2, LkAt CL H' c (srt (zs.take i)) ∧ σ = [some (.ref t), some (.ref c), y2]) ⟨s1, c, none, at1, rfl⟩ (fun i σ H' _ hP => Same.tup hP.1 ht) (fun i v σ H4 H5 hi hP hY => ?_) (fun σ H4 hP => ?_)⟩
    · obtain ⟨rfl, hv⟩ := hY
      obtain ⟨s4, c, y2, at_, rfl⟩ := hP
      obtain ⟨z, hz, rfl⟩ := at_map hv
      have nm1 : ∀ u ∈ [z], isNm u = true := fun u hu => by rw [List.mem_singleton.mp hu]; exact nm z (List.mem_of_getElem? hz)
      refine ⟨.ref c, rfl, .str z, rfl, fun d dd nd ndd ned => ⟨d, dd, [z], rfl, upd_same, nm1, by show 1 < 64; decide, fun H6 t6 kp e1 e2 => ⟨rfl, ?_⟩⟩⟩
      obtain ⟨s6, at6⟩ := made_at nd ndd ned nm1 kp e1 e2
      have at5 := at_.same s6
      obtain ⟨⟨d1, t1, g1, _⟩, _, _⟩ := id at5
      obtain ⟨⟨d2, t2, g2, _⟩, _, _⟩ := id at6
      refine ⟨c, d1, _, d, d2, _, rfl, rfl, g1, g2, c, d, _, _, rfl, at5, at6, ?_, fun H7 e s7 at7 => ⟨s4.trans (s6.trans s7), e, some (.str z), ?_, rfl⟩⟩
      · have l1 := len_srt (zs.take i)
        have l2 := len_srt [z]
        rw [List.length_take] at l1
        simp only [List.length_singleton] at l2
        omega
      · have e1 : gOr (srt (zs.take i)) (srt [z]) = srt (zs.take (i + 1)) := by
          unfold gOr
          refine srt_eq fun u => ?_
          rw [take_next1 hz, List.mem_append, List.mem_append, mem_srt, mem_srt]
        rw [e1] at at7
        exact at7
    · obtain ⟨s4, c, y2, at_, rfl⟩ := hP
      rw [List.length_map, List.take_length] at at_
      exact ⟨.ref c, rfl, q _ c s4 at_⟩
end
end Lw
set_option Elab.async false
set_option linter.all false
set_option maxRecDepth 100000
set_option maxHeartbeats 4000000
namespace Lw
open PySem PySem.Spec PyProof.Rows L2 TxS LkO Lk
theorem pair_zip {α β : Type} {F : α → β → Prop} : ∀ {l : List α} {m : List β}, Paired F l m → ∀ a ∈ l.zip m, F a.1 a.2
  | _, _, .nil, _, h => by simp at h
  | _, _, .cons f r, a, h => by
    rw [List.zip_cons_cons] at h
    rcases List.mem_cons.mp h with z | z
    · subst z
      exact f
    · exact pair_zip r a z
theorem zip_len {α β : Type} {F : α → β → Prop} {l : List α} {m : List β} (p : Paired F l m) : (l.zip m).length = l.length := by
  rw [List.length_zip, Paired.length p, Nat.min_self]
theorem zip_at {α β : Type} {l : List α} {m : List β} {i : Nat} {a : α × β} (h : (l.zip m)[i]? = some a) : l[i]? = some a.1 ∧ m[i]? = some a.2 := List.getElem?_zip_eq_some.mp h
theorem zip_snd {α β : Type} {F : α → β → Prop} : ∀ {l : List α} {m : List β}, Paired F l m → (l.zip m).map (·.2) = m
  | _, _, .nil => rfl
  | _, _, .cons _ r => by rw [List.zip_cons_cons, List.map_cons, zip_snd r]
theorem dec_str (x y : Str) : decide (V.str x = V.str y) = decide (x = y) := by
  by_cases h : x = y
  · simp [h]
  · have : V.str x ≠ V.str y := fun e => h (V.str.inj e)
    rw [decide_eq_false h, decide_eq_false this]
abbrev rDictP (K : PySem.W.Frag) : List V → Hp → VK → Prop := fun xs H Q => ∃ (a : Addr) (ps : List Addr) (kvs : List (Key × V)), xs = [.ref a] ∧ SqL K H a (ps.map V.ref) ∧ Paired (fun p kv => SqT K H p [kV kv.1, kv.2]) ps kvs ∧ ∀ p, H p = none → Q (.ref p) (upd H p (.dK (mergeK [] kvs)))
section
variable {P : Program} {w : World} {K : PySem.W.Frag} {mg : Str → Option Value} {base : Heap}
/-! ### _law_person -/
def spPers (K : PySem.W.Frag) : Sp := fun vs H Q _ => ∃ (t : Addr) (b : BldD) (n : Str) (p : PersonD), vs = [.ref t, .str n] ∧ PlAt H t b ∧ b.people.lookup n = some p ∧ ∀ H' y, Same H H' → rowP H' y (n, p) → Q (.ref y) H'
theorem scPers : FnScope ["_law_plan", "_law_name", "_law_row"] ["_law_plan", "_law_name"] (defScope s__law_person) := ⟨rfl, rfl, rfl, by decide +kernel, rfl, by decide +kernel, by decide +kernel⟩
theorem ok_pers {f : Addr} {fd : FuncData} {k : Nat} (F : Fun K "_law_person" "_law_person" s__law_person f fd) : FnOk P w K mg base CX0 (k + 1) f fd ["_law_plan", "_law_name"] (spPers K) := by
  refine F.ok scPers (fun vs H Q E h => ?_) (fun cdv A outer s H vs Q E hr h => ?_)
  · obtain ⟨t, b, n, p, rfl, _⟩ := h
    rfl
  · obtain ⟨t, b, n, p, rfl, ⟨⟨r, k, dd, pd, kas, das, pas, I⟩, bok⟩, hn, q⟩ := h
    refine ⟨_, pss_one (ps_ret (pe_ix ix_list (pe_lc (own := [("_law_row", 2)]) (g := gName 2) (tt := tTest (tOp rEq (tOp (rIxT K) (tVar 2) (tC (.int 0))) (tVar 1))) (te := tVar 2) rfl scPers.nd (pi_list (pe_ix ix_tup (pv 0) pe_int (fun _ _ => rfl))) (blkOk_by (N := ["_law_plan", "_law_name", "_law_row"]) (sc := defScope s__law_person) (by decide +kernel))
      (fun _ _ _ _ _ => pg_name (i := 2) scPers.nd rfl (Or.inl rfl)) (fun _ _ _ _ _ => pts_one (pt_cmpR op_eq (pe_ix ix_tup (pv 2) pe_int (fun _ _ => rfl)) (pv 1) (nomark _))) (fun _ _ _ _ _ => pv 2)) pe_int (fun _ _ => rfl))), ?_⟩
    have few := bok.p4
    have lz := zip_len I.peopleT
    have lp := Paired.length I.peopleT
    refine ⟨.ref t, rfl, t, _, 3, _, rfl, rfl, .inl (.inl I.ob), rfl, pd, rfl, ⟨_, .inl (.inl I.people)⟩, fun D nD => lc_mf (walk_list (xs := pas.map V.ref)) (pas.zip b.people) (fun a => decide (a.2.1 = n)) (fun a => .ref a.1) (by rw [List.length_map, lz]) nD (by omega) (fun H' s' => .inl (.inl (s' _ _ I.people))) (fun i a v H7 H8 Kt Kf hz s7 hY kt kf => ?_) (fun H7 s7 eD => ?_)⟩
    · obtain ⟨rfl, hx⟩ := hY
      obtain ⟨z1, z2⟩ := zip_at hz
      rw [List.getElem?_map, z1] at hx
      cases hx
      obtain ⟨t1, t2, t3, row, _⟩ := pair_zip I.peopleT a (List.mem_of_getElem? hz)
      refine ⟨rfl, .ref a.1, rfl, a.1, _, 0, .str a.2.1, rfl, rfl, .inl (.inl (s7 _ _ row)), rfl, .str n, rfl, rfl, _, rfl, ?_⟩
      rw [dec_str]
      refine ite2 (fun e => ?_) (fun e => ?_)
      · exact ⟨.ref a.1, rfl, kt e _ (Same.refl _)⟩
      · exact kf (Bool.eq_false_iff.mpr e) _ (Same.refl _)
    · have hin : (n, p) ∈ (pas.zip b.people).map (·.2) := by rw [zip_snd I.peopleT]; exact look_mem hn
      obtain ⟨a0, ha0, e0⟩ := List.mem_map.mp hin
      have hf : a0 ∈ (pas.zip b.people).filter fun a => decide (a.2.1 = n) := List.mem_filter.mpr ⟨ha0, decide_eq_true (by rw [e0])⟩
      cases ef : (pas.zip b.people).filter fun a => decide (a.2.1 = n) with
      | nil =>
        rw [ef] at hf
        cases hf
      | cons a rest =>
        have ha : a ∈ (pas.zip b.people).filter fun a => decide (a.2.1 = n) := by rw [ef]; exact List.mem_cons_self
        obtain ⟨h1, h2⟩ := List.mem_filter.mp ha
        have h2 : a.2.1 = n := of_decide_eq_true h2
        have hm : a.2 ∈ b.people := by
          have := List.mem_map_of_mem (f := (·.2)) h1
          rw [zip_snd I.peopleT] at this
          exact this
        have h3 := look_at bok.pnd hm
        rw [h2, hn] at h3
        have e3 : a.2 = (n, p) := by
          rw [← h2, Option.some.inj h3]
        rw [ef] at eD
        have row := rowP.tt (TT.of s7) _ _ (pair_zip I.peopleT a h1)
        rw [e3] at row
        exact ⟨D, _, 0, .ref a.1, rfl, rfl, .inl (.inl eD), atI_nat (j := 0) rfl, q _ _ s7 row⟩
/-! ### _law_behind -/
def behOf (b : BldD) (p : PersonD) (rooms : List Str) (d : DoorD) : List Str := if keyOk d.key (heldOf b p rooms) = true then (if decide (d.a ∈ rooms) = true then [d.b] else []) ++ (if (d.both && decide (d.b ∈ rooms)) = true then [d.a] else []) else []
def spBehind (K : PySem.W.Frag) : Sp := fun vs H Q _ => ∃ (t pr l dr : Addr) (b : BldD) (n : Str) (p : PersonD) (rooms : List Str) (m : Str) (d : DoorD), vs = [.ref t, .ref pr, .ref l, .ref dr] ∧ PlAt H t b ∧ rowP H pr (n, p) ∧ SqL K H l (rooms.map V.str) ∧ rowD H dr (m, d) ∧ (m, d) ∈ b.doors ∧
  ∀ H' x, Same H H' → H' x = some (.lst ((behOf b p rooms d).map V.str)) → Q (.ref x) H'
abbrev nBehind : List Str := ["_law_plan", "_law_person_here", "_law_rooms", "_law_door", "_law_found"]
theorem scBehind : FnScope nBehind ["_law_plan", "_law_person_here", "_law_rooms", "_law_door"] (defScope s__law_behind) := ⟨rfl, rfl, rfl, by decide +kernel, rfl, by decide +kernel, by decide +kernel⟩
/-- whether the key is missing -/
theorem key_read {t pr l dr : Addr} {b : BldD} {n : Str} {p : PersonD} {rooms : List Str} {m : Str} {d : DoorD} {H : Hp} {σ : L2.St} {Q : Bool → Hp → Prop} (h0 : σ[0]? = some (some (.ref t))) (h1 : σ[1]? = some (some (.ref pr))) (h2 : σ[2]? = some (some (.ref l))) (h3 : σ[3]? = some (some (.ref dr)))
    (hb : PlAt H t b) (hp : rowP H pr (n, p)) (hl : SqL K H l (rooms.map V.str)) (hd : rowD H dr (m, d)) (hm : (m, d) ∈ b.doors) (q : ∀ H', Same H H' → Q (!keyOk d.key (heldOf b p rooms)) H') :
    tAnd (tB (tNotN (tOp (rIxT K) (tVar 3) (tC (.int 3))))) (tAnd (tTest (tOp (rIn K true) (tOp (rIxT K) (tVar 3) (tC (.int 3))) (tOp (rIxT K) (tVar 1) (tC (.int 2))))) (tTest (tOp (rIn K true) (tDGet (tCB (rDictP K) (tCons (tOp (rIxT K) (tVar 0) (tC (.int 1))) tNil)) (tOp (rIxT K) (tVar 3) (tC (.int 3)))) (tVar 2)))) σ H Q := by
  obtain ⟨⟨r, k, dd, pd, kas, das, pas, I⟩, bok⟩ := hb
  obtain ⟨t1, t2, t3, row, g1, _⟩ := hp
  cases hk : d.key with
  | none =>
    have hd : H dr = some (.tup [.str m, .str d.a, .str d.b, .non, .bl d.both, .int d.cost]) := by
      have := hd
      unfold rowD at this
      rw [hk] at this
      exact this
    have q1 := q H (Same.refl _)
    rw [hk] at q1
    exact ⟨.ref dr, h3, dr, _, 3, _, rfl, rfl, .inl (.inl hd), rfl, false, rfl, iteF q1⟩
  | some z =>
    have hd : H dr = some (.tup [.str m, .str d.a, .str d.b, .str z, .bl d.both, .int d.cost]) := by
      have := hd
      unfold rowD at this
      rw [hk] at this
      exact this
    have sqd : ∀ {H' : Hp}, Same H H' → SqT K H' dr [.str m, .str d.a, .str d.b, .str z, .bl d.both, .int d.cost] := fun s' => .inl (.inl (s' _ _ hd))
    refine ⟨.ref dr, h3, dr, _, 3, _, rfl, rfl, sqd (Same.refl _), rfl, true, rfl, iteT ?_⟩
    refine ⟨.ref dr, h3, dr, _, 3, _, rfl, rfl, sqd (Same.refl _), rfl, .ref pr, h1, pr, _, 2, _, rfl, rfl, .inl (.inl row), rfl, t1, _, rfl, .inr (.inl (.inl g1)), rfl, Lk.flat_strs _, _, rfl, ?_⟩
    rw [inV_str]
    refine ite2 (fun e1 => ?_) (fun e1 => ?_)
    · have nc : z ∉ p.carried := by
        have e1 : (!decide (z ∈ p.carried)) = true := e1
        simpa using e1
      have hz : z ∈ b.keys.map (·.1) := by
        obtain ⟨_, _, _, _, z5⟩ := bok.doors _ hm
        exact z5 z hk
      obtain ⟨room, hroom⟩ := look_name hz
      obtain ⟨v3, hv3, ev3⟩ := (tab_keys b.keys).val hroom
      have ev3 : v3 = .str room := ev3
      subst ev3
      refine ⟨.ref t, h0, t, _, 1, _, rfl, rfl, .inl (.inl I.ob), rfl, k, kas, b.keys.map keyKV, rfl, .inl (.inl I.keys), pair_keys I.keysT, fun kd nkd => ?_⟩
      rw [merge_keys bok.knd]
      have s1 := same_new (o := .dK (b.keys.map keyKV)) nkd
      refine ⟨.ref dr, h3, dr, _, 3, _, rfl, rfl, sqd s1, rfl, kd, .str room, rfl, .inl ⟨b.keys.map keyKV, .inr z, .inl upd_same, rfl, hv3.symm⟩, .ref l, h2, l, _, rfl, .inl (s1.seq hl), rfl, Lk.flat_strs rooms, _, rfl, ?_⟩
      rw [inV_str]
      have q1 := q _ s1
      have e2 : keyOk d.key (heldOf b p rooms) = decide (room ∈ rooms) := by
        rw [hk]
        show decide (z ∈ heldOf b p rooms) = decide (room ∈ rooms)
        refine decide_eq_decide.mpr ⟨fun h => ?_, fun h => mem_held.mpr (.inr ⟨room, hroom, h⟩)⟩
        rcases mem_held.mp h with c | ⟨room', y1, y2⟩
        · exact absurd c nc
        · rw [hroom] at y1
          cases y1
          exact y2
      rw [e2] at q1
      exact q1
    · have hin : z ∈ p.carried := by
        have e1 : ¬ ((!decide (z ∈ p.carried)) = true) := e1
        simpa using e1
      have q1 := q H (Same.refl _)
      have e2 : keyOk d.key (heldOf b p rooms) = true := by
        rw [hk]
        exact decide_eq_true (mem_held.mpr (.inl hin))
      rw [e2] at q1
      exact q1
theorem ok_behind {f : Addr} {fd : FuncData} {k : Nat} (F : Fun K "_law_behind" "_law_behind" s__law_behind f fd) (B : Blt mg) : FnOk P w K mg base CX0 (k + 1) f fd ["_law_plan", "_law_person_here", "_law_rooms", "_law_door"] (spBehind K) := by
  refine F.ok scBehind (fun vs H Q E h => ?_) (fun cdv A outer s H vs Q E hr h => ?_)
  · obtain ⟨t, pr, l, dr, b, n, p, rooms, m, d, rfl, _⟩ := h
    rfl
  · obtain ⟨t, pr, l, dr, b, n, p, rooms, m, d, rfl, hb, hp, hl, hd, hm, q⟩ := h
    have hu := hu_of hr
    refine ⟨_, pss_cons (ps_if (pw_and (pt_cmp (pc_notN (pe_ix ix_tup (pv 3) pe_int (fun _ _ => rfl)))) (pw_and (pt_cmpR (r := rIn K true) op_notIn_seq (pe_ix ix_tup (pv 3) pe_int (fun _ _ => rfl)) (pe_ix ix_tup (pv 1) pe_int (fun _ _ => rfl)) rfl) (pw_and1 (pt_cmpR (r := rIn K true) op_notIn_seq (pe_dget hu (pe_callTy (call_dictP rfl) (by rfl) B.dct PyProof.Rows.boot_dict (pa_cons (pe_ix ix_tup (pv 0) pe_int (fun _ _ => rfl)) pa_nil)) (pe_ix ix_tup (pv 3) pe_int (fun _ _ => rfl)) (fun _ _ => rfl)) (pv 2) rfl)))).pt (pss_one (ps_ret (pe_lst pa_nil))) pss_nil)
      (pss_cons (ps_set (i := 4) scBehind.nd rfl (.inl rfl) (pe_ifExp (pt_cmpR (r := rIn K false) op_in_seq (pe_ix ix_tup (pv 3) pe_int (fun _ _ => rfl)) (pv 2) rfl) (pe_lst (pa_cons (pe_ix ix_tup (pv 3) pe_int (fun _ _ => rfl)) pa_nil)) (pe_lst pa_nil)))
      (pss_one (ps_ret (pe_op op_cat (pv 4) (pe_ifExp (pw_and (pt_val (pe_ix ix_tup (pv 3) pe_int (fun _ _ => rfl))) (pw_and1 (pt_cmpR (r := rIn K false) op_in_seq (pe_ix ix_tup (pv 3) pe_int (fun _ _ => rfl)) (pv 2) rfl))).pt (pe_lst (pa_cons (pe_ix ix_tup (pv 3) pe_int (fun _ _ => rfl)) pa_nil)) (pe_lst pa_nil)))))), ?_⟩
    refine key_read (K := K) rfl rfl rfl rfl hb hp hl hd hm fun H1 s1 => ite2 (fun e => ?_) (fun e => ?_)
    · refine ⟨Nat.zero_le _, fun x nx => q _ x (s1.trans (same_new nx)) ?_⟩
      unfold behOf
      rw [if_neg (by simpa using e)]
      exact upd_same
    · have hk : keyOk d.key (heldOf b p rooms) = true := by simpa using e
      have sqd : ∀ {H' : Hp}, Same H H' → SqT K H' dr [.str m, .str d.a, .str d.b, oV d.key, .bl d.both, .int d.cost] := fun s' => .inl (.inl (s' _ _ hd))
      have fin : ∀ (H2 : Hp) (x1 : Addr) (l1 : List Str), Same H H2 → H2 x1 = some (.lst (l1.map V.str)) → l1 = (if decide (d.a ∈ rooms) = true then [d.b] else []) →
          tOp rCat (tVar 4) (tIf (tAnd (tB (tOp (rIxT K) (tVar 3) (tC (.int 4)))) (tTest (tOp (rIn K false) (tOp (rIxT K) (tVar 3) (tC (.int 2))) (tVar 2)))) (tLst (tCons (tOp (rIxT K) (tVar 3) (tC (.int 1))) tNil)) (tLst tNil)) [some (.ref t), some (.ref pr), some (.ref l), some (.ref dr), some (.ref x1)] H2 Q := fun H2 x1 l1 s2 e1 el => by
        have ll : l1.length ≤ 1 := by
          rw [el]
          split <;> simp
        have last : ∀ (H3 : Hp) (x2 : Addr) (l2 : List Str), Same H2 H3 → H3 x2 = some (.lst (l2.map V.str)) → l2 = (if (d.both && decide (d.b ∈ rooms)) = true then [d.a] else []) → rCat (.ref x1) (.ref x2) H3 Q := fun H3 x2 l2 s3 e2 el2 => by
          have ll2 : l2.length ≤ 1 := by
            rw [el2]
            split <;> simp
          refine ⟨x1, x2, _, _, rfl, rfl, s3 _ _ e1, e2, by rw [List.length_map, List.length_map, sizeLine_eq]; omega, fun x nx => q _ x ((s2.trans s3).trans (same_new nx)) ?_⟩
          unfold behOf
          rw [if_pos hk, ← el, ← el2, List.map_append]
          exact upd_same
        refine ⟨.ref x1, rfl, .ref dr, rfl, dr, _, 4, _, rfl, rfl, sqd s2, rfl, d.both, rfl, ite2 (fun c1 => ?_) (fun c1 => ?_)⟩
        · refine ⟨.ref dr, rfl, dr, _, 2, _, rfl, rfl, sqd s2, rfl, .ref l, rfl, l, _, rfl, .inl (s2.seq hl), rfl, Lk.flat_strs rooms, _, rfl, ?_⟩
          rw [inV_str]
          refine ite2 (fun c2 => ?_) (fun c2 => ?_)
          · have c2 : decide (d.b ∈ rooms) = true := c2
            refine ⟨.ref dr, rfl, dr, _, 1, _, rfl, rfl, sqd s2, rfl, by show 1 ≤ sizeLine; rw [sizeLine_eq]; decide, fun x2 n2 => last _ x2 [d.a] (same_new n2) upd_same (by rw [c1, c2]; rfl)⟩
          · have c2 : decide (d.b ∈ rooms) = false := Bool.eq_false_iff.mpr c2
            exact ⟨Nat.zero_le _, fun x2 n2 => last _ x2 [] (same_new n2) upd_same (by rw [c2, Bool.and_false]; rfl)⟩
        · exact iteF ⟨Nat.zero_le _, fun x2 n2 => last _ x2 [] (same_new n2) upd_same (by rw [Bool.eq_false_iff.mpr c1, Bool.false_and]; rfl)⟩
      refine ⟨.ref dr, rfl, dr, _, 1, _, rfl, rfl, sqd s1, rfl, .ref l, rfl, l, _, rfl, .inl (s1.seq hl), rfl, Lk.flat_strs rooms, _, rfl, ?_⟩
      rw [inV_str]
      refine ite2 (fun c => ?_) (fun c => ?_)
      · exact ⟨.ref dr, rfl, dr, _, 2, _, rfl, rfl, sqd s1, rfl, by show 1 ≤ sizeLine; rw [sizeLine_eq]; decide, fun x1 n1 => fin _ x1 [d.b] (s1.trans (same_new n1)) upd_same (by rw [if_pos (show decide (d.a ∈ rooms) = true from c)])⟩
      · exact ⟨Nat.zero_le _, fun x1 n1 => fin _ x1 [] (s1.trans (same_new n1)) upd_same (by rw [if_neg (show ¬ decide (d.a ∈ rooms) = true from c)])⟩
end
end Lw
set_option Elab.async false
set_option linter.all false
set_option maxRecDepth 100000
set_option maxHeartbeats 4000000
namespace Lw
open PySem PySem.Spec PyProof.Rows L2 TxS LkO Lk
theorem len_sub : ∀ {rs l : List Str}, rs.Nodup → (∀ z ∈ rs, z ∈ l) → rs.length ≤ l.length
  | [], _, _, _ => Nat.zero_le _
  | x :: r, l, nd, h => by
    have hx := h x List.mem_cons_self
    have ih := len_sub (rs := r) (l := l.erase x) (List.nodup_cons.mp nd).2 fun z hz => by
      refine (List.mem_erase_of_ne fun e => ?_).mpr (h z (List.mem_cons_of_mem _ hz))
      subst e
      exact (List.nodup_cons.mp nd).1 hz
    rw [List.length_erase_of_mem hx] at ih
    have := List.length_pos_of_mem hx
    rw [List.length_cons]
    omega
theorem mem_beh {b : BldD} {p : PersonD} {rooms : List Str} {d : DoorD} {e : Str} : e ∈ behOf b p rooms d ↔ keyOk d.key (heldOf b p rooms) = true ∧ ∃ r, (r, e) ∈ waysOf d ∧ r ∈ rooms := by
  unfold behOf
  by_cases hk : keyOk d.key (heldOf b p rooms) = true
  · rw [if_pos hk, List.mem_append]
    constructor
    · rintro (h | h)
      · by_cases ha : d.a ∈ rooms
        · rw [if_pos (decide_eq_true ha)] at h
          rw [List.mem_singleton.mp h]
          exact ⟨hk, d.a, List.mem_cons_self, ha⟩
        · rw [if_neg (by simp [ha])] at h
          cases h
      · by_cases hb : (d.both && decide (d.b ∈ rooms)) = true
        · rw [if_pos hb] at h
          rw [List.mem_singleton.mp h]
          rw [Bool.and_eq_true] at hb
          refine ⟨hk, d.b, ?_, of_decide_eq_true hb.2⟩
          unfold waysOf
          rw [hb.1]
          simp
        · rw [if_neg hb] at h
          cases h
    · rintro ⟨_, r, hw, hr⟩
      unfold waysOf at hw
      rcases List.mem_cons.mp hw with z | z
      · cases z
        left
        rw [if_pos (decide_eq_true hr)]
        exact List.mem_singleton.mpr rfl
      · right
        cases hb : d.both with
        | false =>
          rw [hb] at z
          cases z
        | true =>
          rw [hb] at z
          have z := List.mem_singleton.mp z
          cases z
          rw [decide_eq_true hr]
          exact List.mem_singleton.mpr rfl
  · rw [if_neg hk]
    constructor
    · intro h
      cases h
    · intro h
      exact absurd h.1 hk
theorem beh_nd {b : BldD} {p : PersonD} {rooms : List Str} {d : DoorD} (ok : d.ok) : (behOf b p rooms d).Nodup := by
  unfold behOf
  split
  · split <;> split <;> simp [ok.ne.symm]
  · simp
theorem beh_len {b : BldD} {p : PersonD} {rooms : List Str} {d : DoorD} : (behOf b p rooms d).length ≤ 2 := by
  unfold behOf
  split
  · split <;> split <;> simp
  · simp
/-- rooms found so far -/
structure Fnd (b : BldD) (p : PersonD) (ls rs : List Str) : Prop where
  start : p.a ∈ rs
  sound : ∀ z ∈ rs, Rch b p ls z
  nd : rs.Nodup
theorem Fnd.len {b : BldD} {n : Str} {p : PersonD} {ls rs : List Str} (f : Fnd b p ls rs) (ok : b.ok) (hp : (n, p) ∈ b.people) : rs.length ≤ 6 := Nat.le_trans (len_sub f.nd fun z hz => rch_in ok hp (f.sound z hz)) ok.r6
theorem beh_sound {b : BldD} {p : PersonD} {ls rooms : List Str} (h : ∀ z ∈ rooms, Rch b p ls z) {q : Str × DoorD} (hq : q ∈ b.doors) (hn : q.1 ∉ ls) {e : Str} (he : e ∈ behOf b p rooms q.2) : Rch b p ls e := by
  obtain ⟨hk, r, hw, hr⟩ := mem_beh.mp he
  obtain ⟨n, d⟩ := q
  cases hd : d.key with
  | none => exact .free hq hn hd hw (h r hr)
  | some z =>
    have hk : keyOk d.key (heldOf b p rooms) = true := hk
    rw [hd] at hk
    rcases mem_held.mp (of_decide_eq_true hk) with c | ⟨room, h1, h2⟩
    · exact .got hq hn hd c hw (h r hr)
    · exact .found hq hn hd h1 hw (h room h2) (h r hr)
def newOf (b : BldD) (p : PersonD) (rs : List Str) (d : DoorD) : List Str := (behOf b p rs d).filter fun z => !decide (z ∈ rs)
theorem Fnd.put {b : BldD} {p : PersonD} {ls rs : List Str} (f : Fnd b p ls rs) (ok : b.ok) {q : Str × DoorD} (hq : q ∈ b.doors) (hn : q.1 ∉ ls) : Fnd b p ls (rs ++ newOf b p rs q.2) := by
  refine ⟨List.mem_append_left _ f.start, fun z hz => ?_, ?_⟩
  · rcases List.mem_append.mp hz with u | u
    · exact f.sound z u
    · exact beh_sound f.sound hq hn (List.mem_filter.mp u).1
  · rw [List.nodup_append]
    refine ⟨f.nd, (beh_nd (ok.doors q hq).2.1).sublist List.filter_sublist, fun a ha c hc e => ?_⟩
    subst e
    have := (List.mem_filter.mp hc).2
    simp at this
    exact this ha
theorem new_left {b : BldD} (ok : b.ok) {p : PersonD} {rs : List Str} {q : Str × DoorD} (hq : q ∈ b.doors) (h : newOf b p rs q.2 ≠ []) : leftOf b (rs ++ newOf b p rs q.2) < leftOf b rs := by
  obtain ⟨e, he⟩ := List.exists_mem_of_ne_nil _ h
  obtain ⟨h1, h2⟩ := List.mem_filter.mp he
  obtain ⟨_, r, hw, _⟩ := mem_beh.mp h1
  have hne : e ∉ rs := by simpa using h2
  unfold leftOf
  refine filt_lt (z := e) (ways_in ok (n := q.1) (d := q.2) hq hw).2 (fun y hy => ?_) (by simp [hne]) (by simp [he])
  simp only [List.mem_append, Bool.not_eq_eq_eq_not, Bool.not_true, decide_eq_false_iff_not, not_or] at hy ⊢
  exact hy.1
theorem beh_done {b : BldD} {p : PersonD} {ls rs : List Str} (h0 : p.a ∈ rs) (h : ∀ q ∈ b.doors, q.1 ∉ ls → newOf b p rs q.2 = []) {z : Str} (hz : Rch b p ls z) : z ∈ rs := by
  have key : ∀ {n : Str} {d : DoorD} {r e : Str}, (n, d) ∈ b.doors → n ∉ ls → keyOk d.key (heldOf b p rs) = true → (r, e) ∈ waysOf d → r ∈ rs → e ∈ rs := fun {n d r e} hq hn hk hw hr => by
    by_cases he : e ∈ rs
    · exact he
    · have hm : e ∈ newOf b p rs d := List.mem_filter.mpr ⟨mem_beh.mpr ⟨hk, r, hw, hr⟩, by simp [he]⟩
      have e0 : newOf b p rs d = [] := h _ hq hn
      rw [e0] at hm
      cases hm
  induction hz with
  | start => exact h0
  | @free n d r e hq hn hd hw _ ih => exact key hq hn (by rw [hd]; rfl) hw ih
  | @got n d r e z hq hn hd hc hw _ ih => exact key hq hn (by rw [hd]; exact decide_eq_true (mem_held.mpr (.inl hc))) hw ih
  | @found n d r e z room hq hn hd hk hw _ _ ih1 ih2 => exact key hq hn (by rw [hd]; exact decide_eq_true (mem_held.mpr (.inr ⟨room, hk, ih1⟩))) hw ih2
section
variable {P : Program} {w : World} {K : PySem.W.Frag} {mg : Str → Option Value} {base : Heap}
/-! ### _law_reach -/
def spLReach (K : PySem.W.Frag) : Sp := fun vs H Q _ => ∃ (t lk : Addr) (b : BldD) (n : Str) (p : PersonD) (ls : List Str), vs = [.ref t, .str n, .ref lk] ∧ PlAt H t b ∧ b.people.lookup n = some p ∧ SqT K H lk (ls.map V.str) ∧
  ∀ H' m (g : Str → Bool), Same H H' → H' m = some (.lst ((b.rooms.filter g).map V.str)) → (∀ z, g z = true ↔ Rch b p ls z) → Q (.ref m) H'
abbrev nReach : List Str := ["_law_plan", "_law_name", "_law_locked", "_law_person_here", "_law_rooms", "_law_size", "_law_door", "_law_room"]
theorem scLReach : FnScope nReach ["_law_plan", "_law_name", "_law_locked"] (defScope s__law_reach) := ⟨rfl, rfl, rfl, by decide +kernel, rfl, by decide +kernel, by decide +kernel⟩
theorem ok_lreach {f : Addr} {fd : FuncData} (F : Fun K "_law_reach" "_law_reach" s__law_reach f fd) (B : Blt mg) (GP : Fn P w K mg base 1 "_law_person" ["_law_plan", "_law_name"] (spPers K)) (GB : Fn P w K mg base 1 "_law_behind" ["_law_plan", "_law_person_here", "_law_rooms", "_law_door"] (spBehind K)) : FnOk P w K mg base CX0 2 f fd ["_law_plan", "_law_name", "_law_locked"] (spLReach K) := by
  refine F.ok scLReach (fun vs H Q E h => ?_) (fun cdv A outer s H vs Q E hr h => ?_)
  · obtain ⟨t, lk, b, n, p, ls, rfl, _⟩ := h
    rfl
  · obtain ⟨t, lk, b, n, p, ls, rfl, hb, hn, hl, q⟩ := h
    obtain ⟨⟨r, k, dd, pd, kas, das, pas, I⟩, bok⟩ := id hb
    refine ⟨_, pss_cons (ps_set (i := 3) scLReach.nd rfl (.inl rfl) (pe_fn GP hr (by rfl) (pa_cons (pv 0) (pa_cons (pv 1) pa_nil))))
      (pss_cons (ps_asg (pe_tup (pa_cons (pe_lst (pa_cons (pe_ix ix_tup (pv 3) pe_int (fun _ _ => rfl)) pa_nil)) (pa_cons pe_int pa_nil))) (pg_tup rfl (pgs_cons (pg_name (i := 4) scLReach.nd rfl (Or.inr rfl)) (pgs_cons (pg_name (i := 5) scLReach.nd rfl (Or.inl rfl)) pgs_nil))))
      (pss_cons (ps_while PassesOwn.never (pt_cmpR op_lt (pv 5) (pe_callB call_len_seq (by rfl) B.len PySem.boot_len (pa_cons (pv 4) pa_nil)) (nomark _)) (pss_cons (ps_set (i := 5) scLReach.nd rfl (.inl rfl) (pe_callB call_len_seq (by rfl) B.len PySem.boot_len (pa_cons (pv 4) pa_nil)))
        (pss_one (ps_for PassesOwn.never rfl (pi_list (pe_ix ix_tup (pv 0) pe_int (fun _ _ => rfl))) (pg_name (i := 6) scLReach.nd rfl (Or.inl rfl))
          (pss_one (ps_if (pt_cmpR (r := rIn K true) op_notIn_seq (pe_ix ix_tup (pv 6) pe_int (fun _ _ => rfl)) (pv 2) rfl) (pss_one (ps_set (i := 4) scLReach.nd rfl (.inr rfl) (pe_op op_cat (pv 4) (pe_lc (own := [("_law_room", 7)]) (g := gName 7) (tt := tTest (tOp (rIn K true) (tVar 7) (tVar 4))) (te := tVar 7) rfl scLReach.nd (pi_list (pe_fn GB hr (by rfl) (pa_cons (pv 0) (pa_cons (pv 3) (pa_cons (pv 4) (pa_cons (pv 6) pa_nil)))))) (blkOk_by (N := nReach) (sc := defScope s__law_reach) (by decide +kernel))
            (fun _ _ _ _ _ => pg_name (i := 7) scLReach.nd rfl (Or.inl rfl)) (fun _ _ _ _ _ => pts_one (pt_cmpR op_notIn_seq (pv 7) (pv 4) rfl)) (fun _ _ _ _ _ => pv 7))))) pss_nil))))))
      (pss_one (ps_ret (pe_lc (own := [("_law_room", 7)]) (g := gName 7) (tt := tTest (tOp (rIn K false) (tVar 7) (tVar 4))) (te := tVar 7) rfl scLReach.nd (pi_tup (pe_ix ix_tup (pv 0) pe_int (fun _ _ => rfl))) (blkOk_by (N := nReach) (sc := defScope s__law_reach) (by decide +kernel))
        (fun _ _ _ _ _ => pg_name (i := 7) scLReach.nd rfl (Or.inl rfl)) (fun _ _ _ _ _ => pts_one (pt_cmpR op_in_seq (pv 7) (pv 4) rfl)) (fun _ _ _ _ _ => pv 7)))))), ?_⟩
    have hp := look_mem hn
    have sqt : ∀ {H' : Hp}, Same H H' → SqT K H' t [.ref r, .ref k, .ref dd, .ref pd] := fun s' => .inl (.inl (s' _ _ I.ob))
    refine ⟨.ref t, rfl, .str n, rfl, t, b, n, p, rfl, hb, hn, fun H1 pr s1 rowp => ?_⟩
    obtain ⟨t1, t2, t3, epr, _⟩ := id rowp
    refine ⟨.ref pr, rfl, pr, _, 1, .str p.a, rfl, rfl, .inl (.inl epr), rfl, by show 1 ≤ sizeLine; rw [sizeLine_eq]; decide, fun rl nrl => ⟨by show 2 ≤ sizeLine; rw [sizeLine_eq]; decide, fun tp ntp => ?_⟩⟩
    have s2 : Same H1 (upd (upd H1 rl (.lst [.str p.a])) tp (.tup [.ref rl, .int 0])) := (same_new nrl).trans (same_new ntp)
    have erl : (upd (upd H1 rl (.lst [.str p.a])) tp (.tup [.ref rl, .int 0])) rl = some (.lst [.str p.a]) := same_new ntp _ _ upd_same
    have etp : (upd (upd H1 rl (.lst [.str p.a])) tp (.tup [.ref rl, .int 0])) tp = some (.tup [.ref rl, .int 0]) := upd_same
    generalize (upd (upd H1 rl (.lst [.str p.a])) tp (.tup [.ref rl, .int 0])) = H2 at s2 erl etp ⊢
    refine ⟨tp, _, rfl, .inl (.inl etp), rfl, _, _, rfl, _, _, rfl, rfl, ?_⟩
    have f0 : Fnd b p ls [p.a] := ⟨by simp, fun z hz => by rw [List.mem_singleton.mp hz]; exact .start, by simp⟩
    refine ⟨fun m σ H' => ∃ (rl : Addr) (rs : List Str) (sz : Nat) (y6 : Option V), Same H1 H' ∧ H' rl = some (.lst (rs.map V.str)) ∧ Fnd b p ls rs ∧ sz ≤ rs.length ∧ m = leftOf b rs + (if sz < rs.length then 1 else 0) ∧ (sz = rs.length → ∀ q ∈ b.doors, q.1 ∉ ls → newOf b p rs q.2 = []) ∧
      σ = [some (.ref t), some (.str n), some (.ref lk), some (.ref pr), some (.ref rl), some (.int sz), y6, none], ⟨_, rl, [p.a], 0, none, s2, erl, f0, Nat.zero_le _, rfl, (fun z => by simp at z), rfl⟩, ?_⟩
    rintro m σ H4 ⟨rl, rs, sz, y6, s4, erl, fd, lsz, rfl, hdone, rfl⟩
    have lrs := fd.len bok hp
    refine ⟨.int sz, rfl, .ref rl, rfl, rl, _, rfl, .inl (.inl (.inl erl)), _, _, rfl, rfl, _, rfl, ite2 (fun e => ?_) (fun e => ?_)⟩
    · have lt : sz < rs.length := by
        have := of_decide_eq_true e
        rw [List.length_map] at this
        omega
      refine ⟨fun σ H' => ∃ (rl : Addr) (rs' : List Str) (y6 : Option V), Same H1 H' ∧ H' rl = some (.lst (rs'.map V.str)) ∧ Fnd b p ls rs' ∧ rs.length ≤ rs'.length ∧ (rs.length < rs'.length → leftOf b rs' < leftOf b rs) ∧ (rs.length = rs'.length → leftOf b rs' = leftOf b rs ∧ ∀ q ∈ b.doors, q.1 ∉ ls → newOf b p rs' q.2 = []) ∧
        σ = [some (.ref t), some (.str n), some (.ref lk), some (.ref pr), some (.ref rl), some (.int rs.length), y6, none], ?_, ?_⟩
      · rintro σ' H' ⟨rl', rs', y6', a1, a2, a3, a4, a5, a6, a7⟩
        refine ⟨leftOf b rs' + (if rs.length < rs'.length then 1 else 0), ?_, rl', rs', rs.length, y6', a1, a2, a3, a4, rfl, fun z => (a6 z).2, a7⟩
        rw [if_pos lt]
        by_cases g : rs.length < rs'.length
        · rw [if_pos g]
          have := a5 g
          omega
        · rw [if_neg g]
          have := (a6 (by omega)).1
          omega
      · refine ⟨.ref rl, rfl, rl, _, rfl, .inl (.inl (.inl erl)), ?_⟩
        have s14 := s1.trans s4
        rw [List.length_map]
        refine ⟨.ref t, rfl, t, _, 2, _, rfl, rfl, sqt s14, rfl, dd, rfl, ⟨_, .inl (.inl (s14 _ _ I.doors))⟩, for_it (walk_list (xs := das.map V.ref)) (fun i σ H' => ∃ (rl : Addr) (rs' : List Str) (y6 : Option V), Same H1 H' ∧ H' rl = some (.lst (rs'.map V.str)) ∧ Fnd b p ls rs' ∧ rs.length ≤ rs'.length ∧ (rs.length < rs'.length → leftOf b rs' < leftOf b rs) ∧
          (rs.length = rs'.length → rs' = rs ∧ ∀ q ∈ b.doors.take i, q.1 ∉ ls → newOf b p rs q.2 = []) ∧ σ = [some (.ref t), some (.str n), some (.ref lk), some (.ref pr), some (.ref rl), some (.int rs.length), y6, none]) ?_ (fun i σ H' _ hP => by obtain ⟨_, _, _, z, _⟩ := hP; exact .inl (.inl (z _ _ (s1 _ _ I.doors)))) (fun i v σ H5 H6 hi hP hY => ?_) (fun σ H5 hP => ?_)⟩
        · exact ⟨rl, rs, y6, s4, erl, fd, Nat.le_refl _, (fun z => absurd z (Nat.lt_irrefl _)), (fun _ => ⟨rfl, fun q hq => by simp at hq⟩), rfl⟩
        · obtain ⟨rfl, hv⟩ := hY
          obtain ⟨rl', rs', y6', a1, a2, a3, a4, a5, a6, rfl⟩ := hP
          obtain ⟨tr, htr, rfl⟩ := at_map hv
          obtain ⟨nd, hg, row⟩ := pair_at I.doorsT htr
          have hm := List.mem_of_getElem? hg
          have s6 := s1.trans a1
          have sqd : ∀ {H' : Hp}, Same H6 H' → SqT K H' tr [.str nd.1, .str nd.2.a, .str nd.2.b, oV nd.2.key, .bl nd.2.both, .int nd.2.cost] := fun s' => .inl (.inl (s' _ _ (s6 _ _ row)))
          refine ⟨.ref tr, rfl, tr, _, 0, _, rfl, rfl, sqd (Same.refl _), rfl, .ref lk, rfl, lk, _, rfl, .inr (Same.tup s6 hl), rfl, Lk.flat_strs ls, _, rfl, ?_⟩
          rw [inV_str]
          refine ite2 (fun e1 => ?_) (fun e1 => ?_)
          · have nin : nd.1 ∉ ls := by
              have e1 : (!decide (nd.1 ∈ ls)) = true := e1
              simpa using e1
            refine ⟨.ref rl', rfl, .ref t, rfl, .ref pr, rfl, .ref rl', rfl, .ref tr, rfl, t, pr, rl', tr, b, n, p, rs', nd.1, nd.2, rfl, hb.same s6, rowP.tt (TT.of a1) _ _ rowp, .inl (.inl a2), s6 _ _ row, hm, fun H7 bl s7 ebl => ?_⟩
            refine ⟨bl, rfl, ⟨_, .inl (.inl ebl)⟩, fun D nD => lc_mf (walk_list (xs := (behOf b p rs' nd.2).map V.str)) (behOf b p rs' nd.2) (fun z => !decide (z ∈ rs')) V.str (by rw [List.length_map]) nD (Nat.le_trans beh_len (by decide)) (fun H' s' => .inl (.inl (s' _ _ ebl))) (fun j u v H8 H9 Kt Kf hz s8 hY kt kf => ?_) (fun H8 s8 eD => ?_)⟩
            · obtain ⟨rfl, hx⟩ := hY
              rw [List.getElem?_map, hz] at hx
              cases hx
              refine ⟨rfl, .str u, rfl, .ref rl', rfl, rl', _, rfl, .inl (.inl (.inl (s8 _ _ (s7 _ _ a2)))), rfl, Lk.flat_strs rs', _, rfl, ?_⟩
              rw [inV_str]
              refine ite2 (fun t2 => ?_) (fun t2 => ?_)
              · exact ⟨.str u, rfl, kt t2 _ (Same.refl _)⟩
              · exact kf (Bool.eq_false_iff.mpr t2) _ (Same.refl _)
            · have fp := a3.put bok hm nin
              have lp := fp.len bok hp
              rw [List.length_append] at lp
              have eD' : H8 D = some (.lst ((newOf b p rs' nd.2).map V.str)) := eD
              refine ⟨rl', D, _, _, rfl, rfl, s8 _ _ (s7 _ _ a2), eD', by rw [List.length_map, List.length_map, sizeLine_eq]; omega, fun x nx => ⟨x, rs' ++ newOf b p rs' nd.2, some (.ref tr), ((a1.trans s7).trans s8).trans (same_new nx), by rw [upd_same, List.map_append], fp, by rw [List.length_append]; omega, fun g => ?_, fun g => ?_, rfl⟩⟩
              · by_cases hne : newOf b p rs' nd.2 = []
                · rw [hne, List.append_nil] at g ⊢
                  exact a5 g
                · have l1 := new_left bok hm hne
                  by_cases g2 : rs.length < rs'.length
                  · have := a5 g2
                    omega
                  · rw [(a6 (by omega)).1] at l1 ⊢
                    exact l1
              · rw [List.length_append] at g
                have l0 : (newOf b p rs' nd.2).length = 0 := by omega
                have hne : newOf b p rs' nd.2 = [] := List.length_eq_zero_iff.mp l0
                obtain ⟨e2, e3⟩ := a6 (by omega)
                rw [hne, List.append_nil]
                refine ⟨e2, fun q hq hn' => ?_⟩
                rw [take_next1 hg] at hq
                rcases List.mem_append.mp hq with z | z
                · exact e3 q z hn'
                · rw [List.mem_singleton.mp z, ← e2]
                  exact hne
          · have yin : nd.1 ∈ ls := by
              have e1 : ¬ ((!decide (nd.1 ∈ ls)) = true) := e1
              simpa using e1
            refine ⟨rl', rs', some (.ref tr), a1, a2, a3, a4, a5, fun g => ⟨(a6 g).1, fun q hq hn' => ?_⟩, rfl⟩
            rw [take_next1 hg] at hq
            rcases List.mem_append.mp hq with z | z
            · exact (a6 g).2 q z hn'
            · rw [List.mem_singleton.mp z] at hn'
              exact absurd yin hn'
        · obtain ⟨rl', rs', y6', a1, a2, a3, a4, a5, a6, rfl⟩ := hP
          refine ⟨rl', rs', y6', a1, a2, a3, a4, a5, fun g => ?_, rfl⟩
          obtain ⟨e2, e3⟩ := a6 g
          rw [List.length_map, Paired.length I.doorsT, List.take_length] at e3
          rw [e2]
          exact ⟨rfl, e3⟩
    · have eq : sz = rs.length := by
        have := of_decide_eq_false (Bool.eq_false_iff.mpr e)
        rw [List.length_map] at this
        omega
      have s14 := s1.trans s4
      have lr := bok.r6
      refine ⟨.ref t, rfl, t, _, 0, _, rfl, rfl, sqt s14, rfl, r, rfl, ⟨_, .inl (.inl (s14 _ _ I.rooms))⟩, fun D nD => lc_mf (walk_tup (xs := b.rooms.map V.str)) b.rooms (fun z => decide (z ∈ rs)) V.str (by rw [List.length_map]) nD (by omega) (fun H' s' => .inl (.inl (s' _ _ (s14 _ _ I.rooms)))) (fun j u v H8 H9 Kt Kf hz s8 hY kt kf => ?_) (fun H8 s8 eD => ?_)⟩
      · obtain ⟨rfl, hx⟩ := hY
        rw [List.getElem?_map, hz] at hx
        cases hx
        refine ⟨rfl, .str u, rfl, .ref rl, rfl, rl, _, rfl, .inl (.inl (.inl (s8 _ _ erl))), rfl, Lk.flat_strs rs, _, rfl, ?_⟩
        rw [inV_str]
        refine ite2 (fun t2 => ?_) (fun t2 => ?_)
        · exact ⟨.str u, rfl, kt t2 _ (Same.refl _)⟩
        · exact kf (Bool.eq_false_iff.mpr t2) _ (Same.refl _)
      · exact q _ D (fun z => decide (z ∈ rs)) (s14.trans s8) eD fun z => ⟨fun h => fd.sound z (of_decide_eq_true h), fun h => decide_eq_true (beh_done fd.start (hdone eq) h)⟩
end
end Lw
set_option Elab.async false
set_option linter.all false
set_option maxRecDepth 100000
set_option maxHeartbeats 4000000
namespace Lw
open PySem PySem.Spec PyProof.Rows L2 TxS LkO Lk
theorem zip_filter {α β : Type} {F : α → β → Prop} {l : List α} {m : List β} (h : Paired F l m) (p : β → Bool) : ((l.zip m).filter fun a => p a.2).map (·.2) = m.filter p := by
  have := List.filter_map (f := fun a : α × β => a.2) (p := p) (l := l.zip m)
  rw [zip_snd h] at this
  rw [this]
  rfl
section
variable {P : Program} {w : World} {K : PySem.W.Frag} {mg : Str → Option Value} {base : Heap}
/-! ### _law_names -/
def spLNames (K : PySem.W.Frag) : Sp := fun vs H Q _ => ∃ (t : Addr) (b : BldD), vs = [.ref t] ∧ PlAt H t b ∧ ∀ H' l, Same H H' → H l = none → H' l = some (.lst ((b.doors.map (·.1)).map V.str)) → Q (.ref l) H'
theorem scLNames : FnScope ["_law_plan", "_law_row"] ["_law_plan"] (defScope s__law_names) := ⟨rfl, rfl, rfl, by decide +kernel, rfl, by decide +kernel, by decide +kernel⟩
theorem ok_lnames {f : Addr} {fd : FuncData} {k : Nat} (F : Fun K "_law_names" "_law_names" s__law_names f fd) : FnOk P w K mg base CX0 (k + 1) f fd ["_law_plan"] (spLNames K) := by
  refine F.ok scLNames (fun vs H Q E h => ?_) (fun cdv A outer s H vs Q E hr h => ?_)
  · obtain ⟨t, b, rfl, _⟩ := h
    rfl
  · obtain ⟨t, b, rfl, ⟨⟨r, k, dd, pd, kas, das, pas, I⟩, bok⟩, q⟩ := h
    refine ⟨_, pss_one (ps_ret (pe_lc (own := [("_law_row", 1)]) (g := gName 1) (tt := tYes) (te := tOp (rIxT K) (tVar 1) (tC (.int 0))) rfl scLNames.nd (pi_list (pe_ix ix_tup (pv 0) pe_int (fun _ _ => rfl))) (blkOk_by (N := ["_law_plan", "_law_row"]) (sc := defScope s__law_names) (by decide +kernel))
      (fun _ _ _ _ _ => pg_name (i := 1) scLNames.nd rfl (Or.inl rfl)) (fun _ _ _ _ _ => pts_nil) (fun _ _ _ _ _ => pe_ix ix_tup (pv 1) pe_int (fun _ _ => rfl)))), ?_⟩
    have few := bok.d8
    have ld := Paired.length I.doorsT
    refine ⟨.ref t, rfl, t, _, 2, _, rfl, rfl, .inl (.inl I.ob), rfl, dd, rfl, ⟨_, .inl (.inl I.doors)⟩, fun D nD => lc_m (walk_list (xs := das.map V.ref)) b.doors (fun q => .str q.1) (by rw [List.length_map, ld]) nD (by omega) (fun H' s' => .inl (.inl (s' _ _ I.doors))) (fun i u v H7 H8 Kt hz s7 hY kk => ?_) (fun H7 s7 eD => ?_)⟩
    · obtain ⟨rfl, hx⟩ := hY
      obtain ⟨a, ha, row⟩ := pair_get I.doorsT hz
      rw [List.getElem?_map, ha] at hx
      cases hx
      exact ⟨rfl, .ref a, rfl, a, _, 0, .str u.1, rfl, rfl, .inl (.inl (s7 _ _ row)), rfl, kk _ (Same.refl _)⟩
    · exact q _ D s7 nD (by rw [List.map_map]; exact eD)
end
end Lw
set_option Elab.async false
set_option linter.all false
set_option maxRecDepth 100000
set_option maxHeartbeats 4000000
/-! Trails as data: the rooms of a tuple of doors, the first door that can follow, the trail of first doors. -/
namespace Lk
open PySem PySem.Spec PyProof.Rows L2 TxS LkO LkG
def roomsFrom (b : BldD) (p : PersonD) (ls : List Str) : List Str → List Str → Option (List Str)
  | rooms, [] => some rooms
  | rooms, n :: r => match b.doors.lookup n with
    | none => none
    | some d => match addOf b p ls rooms (n, d) with
      | none => none
      | some e => roomsFrom b p ls (rooms ++ [e]) r
def roomsOf (b : BldD) (p : PersonD) (ls tr : List Str) : Option (List Str) := roomsFrom b p ls [p.a] tr
def stepOf (b : BldD) (p : PersonD) (ls rooms : List Str) : Option (Str × Str) := b.doors.findSome? fun q => (addOf b p ls rooms q).map fun e => (q.1, e)
def trailFrom (b : BldD) (p : PersonD) (ls : List Str) : Nat → List Str → List Str
  | 0, _ => []
  | k + 1, rooms => match stepOf b p ls rooms with
    | none => []
    | some (n, e) => n :: trailFrom b p ls k (rooms ++ [e])
def trailOf (b : BldD) (p : PersonD) (ls : List Str) : List Str := trailFrom b p ls 6 [p.a]
section
variable {b : BldD} {p : PersonD} {ls rooms tr : List Str}
theorem step_some {n e : Str} (h : stepOf b p ls rooms = some (n, e)) : ∃ d, (n, d) ∈ b.doors ∧ addOf b p ls rooms (n, d) = some e := by
  unfold stepOf at h
  obtain ⟨q, hq, he⟩ := List.exists_of_findSome?_eq_some h
  cases ha : addOf b p ls rooms q with
  | none =>
    rw [ha] at he
    cases he
  | some z =>
    rw [ha] at he
    cases he
    exact ⟨q.2, hq, ha⟩
theorem step_none : stepOf b p ls rooms = none ↔ beyondOf b p ls rooms = [] := by
  unfold stepOf beyondOf
  rw [List.findSome?_eq_none_iff, List.filterMap_eq_nil_iff]
  refine forall_congr' fun q => forall_congr' fun _ => ?_
  cases addOf b p ls rooms q <;> simp
theorem add_new {n e : Str} {d : DoorD} (h : addOf b p ls rooms (n, d) = some e) : e ∉ rooms := (add_iff.mp h).2.2.elim fun _ h => h.2.2
theorem add_in (ok : b.ok) {n e : Str} {d : DoorD} (hm : (n, d) ∈ b.doors) (h : addOf b p ls rooms (n, d) = some e) : e ∈ b.rooms := by
  obtain ⟨_, _, r, hw, _, _⟩ := add_iff.mp h
  exact (ways_in ok hm hw).2
theorem add_beyond {n e : Str} {d : DoorD} (hm : (n, d) ∈ b.doors) (h : addOf b p ls rooms (n, d) = some e) : e ∈ beyondOf b p ls rooms := List.mem_filterMap.mpr ⟨(n, d), hm, h⟩
theorem left_one (ok : b.ok) {n e : Str} {d : DoorD} (hm : (n, d) ∈ b.doors) (h : addOf b p ls rooms (n, d) = some e) : leftOf b (rooms ++ [e]) < leftOf b rooms := by
  unfold leftOf
  refine filt_lt (z := e) (add_in ok hm h) (fun y hy => ?_) (by simp [add_new h]) (by simp)
  simp only [List.mem_append, Bool.not_eq_eq_eq_not, Bool.not_true, decide_eq_false_iff_not, not_or] at hy ⊢
  exact hy.1
theorem trail_fuel (ok : b.ok) : ∀ (k j : Nat) (rooms : List Str), leftOf b rooms ≤ k → leftOf b rooms ≤ j → trailFrom b p ls k rooms = trailFrom b p ls j rooms
  | 0, 0, _, _, _ => rfl
  | 0, j + 1, rooms, h, _ => by
    show [] = match stepOf b p ls rooms with | none => [] | some (n, e) => n :: trailFrom b p ls j (rooms ++ [e])
    cases hs : stepOf b p ls rooms with
    | none => rfl
    | some q =>
      obtain ⟨d, hm, ha⟩ := step_some (n := q.1) (e := q.2) hs
      have := left_one ok hm ha
      omega
  | k + 1, 0, rooms, _, h => by
    show (match stepOf b p ls rooms with | none => [] | some (n, e) => n :: trailFrom b p ls k (rooms ++ [e])) = []
    cases hs : stepOf b p ls rooms with
    | none => rfl
    | some q =>
      obtain ⟨d, hm, ha⟩ := step_some (n := q.1) (e := q.2) hs
      have := left_one ok hm ha
      omega
  | k + 1, j + 1, rooms, h1, h2 => by
    show (match stepOf b p ls rooms with | none => [] | some (n, e) => n :: trailFrom b p ls k (rooms ++ [e])) = match stepOf b p ls rooms with | none => [] | some (n, e) => n :: trailFrom b p ls j (rooms ++ [e])
    cases hs : stepOf b p ls rooms with
    | none => rfl
    | some q =>
      obtain ⟨d, hm, ha⟩ := step_some (n := q.1) (e := q.2) hs
      have := left_one ok hm ha
      show q.1 :: _ = q.1 :: _
      rw [trail_fuel ok k j (rooms ++ [q.2]) (by omega) (by omega)]
theorem trail_none {k : Nat} (h : stepOf b p ls rooms = none) : trailFrom b p ls k rooms = [] := by
  cases k with
  | zero => rfl
  | succ k =>
    show (match stepOf b p ls rooms with | none => [] | some (n, e) => n :: trailFrom b p ls k (rooms ++ [e])) = []
    rw [h]
theorem trail_some (ok : b.ok) {n e : Str} (h : stepOf b p ls rooms = some (n, e)) : trailFrom b p ls 6 rooms = n :: trailFrom b p ls 6 (rooms ++ [e]) := by
  obtain ⟨d, hm, ha⟩ := step_some h
  have h1 := left_one ok hm ha
  have h2 := left_le b ok rooms
  show (match stepOf b p ls rooms with | none => [] | some (n, e) => n :: trailFrom b p ls 5 (rooms ++ [e])) = _
  rw [h]
  show n :: _ = _
  rw [trail_fuel ok 5 6 (rooms ++ [e]) (by omega) (by omega)]
theorem look_of (ok : b.ok) {n : Str} {d : DoorD} (hm : (n, d) ∈ b.doors) : b.doors.lookup n = some d := look_at ok.dnd hm
/-- what a trail of first doors gives -/
theorem trail_rooms (ok : b.ok) : ∀ (k : Nat) (rooms : List Str), leftOf b rooms ≤ k → ∃ R, roomsFrom b p ls rooms (trailFrom b p ls k rooms) = some R ∧ beyondOf b p ls R = []
  | 0, rooms, h => by
    refine ⟨rooms, rfl, step_none.mp ?_⟩
    cases hs : stepOf b p ls rooms with
    | none => rfl
    | some q =>
      obtain ⟨d, hm, ha⟩ := step_some (n := q.1) (e := q.2) hs
      have := left_one ok hm ha
      omega
  | k + 1, rooms, h => by
    cases hs : stepOf b p ls rooms with
    | none =>
      refine ⟨rooms, ?_, step_none.mp hs⟩
      rw [trail_none hs]
      rfl
    | some q =>
      obtain ⟨n, e⟩ := q
      obtain ⟨d, hm, ha⟩ := step_some hs
      have := left_one ok hm ha
      obtain ⟨R, h1, h2⟩ := trail_rooms ok k (rooms ++ [e]) (by omega)
      refine ⟨R, ?_, h2⟩
      show roomsFrom b p ls rooms (match stepOf b p ls rooms with | none => [] | some (n, e) => n :: trailFrom b p ls k (rooms ++ [e])) = _
      rw [hs]
      show (match b.doors.lookup n with | none => none | some d => match addOf b p ls rooms (n, d) with | none => none | some e => roomsFrom b p ls (rooms ++ [e]) _) = _
      rw [look_of ok hm]
      show (match addOf b p ls rooms (n, d) with | none => none | some e => roomsFrom b p ls (rooms ++ [e]) _) = _
      rw [ha]
      exact h1
theorem rooms_app : ∀ (tr tr' rooms : List Str), roomsFrom b p ls rooms (tr ++ tr') = (roomsFrom b p ls rooms tr).bind fun R => roomsFrom b p ls R tr'
  | [], _, _ => rfl
  | n :: r, tr', rooms => by
    show (match b.doors.lookup n with | none => none | some d => match addOf b p ls rooms (n, d) with | none => none | some e => roomsFrom b p ls (rooms ++ [e]) (r ++ tr')) = (match b.doors.lookup n with | none => none | some d => match addOf b p ls rooms (n, d) with | none => none | some e => roomsFrom b p ls (rooms ++ [e]) r).bind _
    cases b.doors.lookup n with
    | none => rfl
    | some d =>
      show (match addOf b p ls rooms (n, d) with | none => none | some e => roomsFrom b p ls (rooms ++ [e]) (r ++ tr')) = (match addOf b p ls rooms (n, d) with | none => none | some e => roomsFrom b p ls (rooms ++ [e]) r).bind _
      cases addOf b p ls rooms (n, d) with
      | none => rfl
      | some e => exact rooms_app r tr' _
theorem rooms_one {n e : Str} {d : DoorD} (hl : b.doors.lookup n = some d) (ha : addOf b p ls rooms (n, d) = some e) : roomsFrom b p ls rooms [n] = some (rooms ++ [e]) := by
  show (match b.doors.lookup n with | none => none | some d => match addOf b p ls rooms (n, d) with | none => none | some e => roomsFrom b p ls (rooms ++ [e]) []) = _
  rw [hl]
  show (match addOf b p ls rooms (n, d) with | none => none | some e => roomsFrom b p ls (rooms ++ [e]) []) = _
  rw [ha]
  rfl
theorem rooms_noOne {n : Str} {d : DoorD} (hl : b.doors.lookup n = some d) (ha : addOf b p ls rooms (n, d) = none) : roomsFrom b p ls rooms [n] = none := by
  show (match b.doors.lookup n with | none => none | some d => match addOf b p ls rooms (n, d) with | none => none | some e => roomsFrom b p ls (rooms ++ [e]) []) = _
  rw [hl]
  show (match addOf b p ls rooms (n, d) with | none => none | some e => roomsFrom b p ls (rooms ++ [e]) []) = _
  rw [ha]
/-- the rooms of a trail: different ones, of the reach, with the start -/
structure Path (b : BldD) (p : PersonD) (ls rooms : List Str) : Prop where
  nd : rooms.Nodup
  rch : ∀ z ∈ rooms, Rch b p ls z
  st : p.a ∈ rooms
theorem Path.one : Path b p ls [p.a] := ⟨by simp, fun z hz => by rw [List.mem_singleton.mp hz]; exact .start, by simp⟩
theorem Path.add (h : Path b p ls rooms) {n e : Str} {d : DoorD} (hm : (n, d) ∈ b.doors) (ha : addOf b p ls rooms (n, d) = some e) : Path b p ls (rooms ++ [e]) := by
  refine ⟨List.nodup_append.mpr ⟨h.nd, by simp, fun x hx y hy => ?_⟩, fun z hz => ?_, List.mem_append_left _ h.st⟩
  · rw [List.mem_singleton.mp hy]
    intro e'
    exact add_new ha (e' ▸ hx)
  · rcases List.mem_append.mp hz with c | c
    · exact h.rch z c
    · rw [List.mem_singleton.mp c]
      exact beyond_sound h.rch _ (add_beyond hm ha)
theorem path_of : ∀ (tr rooms : List Str) {R : List Str}, Path b p ls rooms → roomsFrom b p ls rooms tr = some R → Path b p ls R
  | [], _, _, h, e => by
    cases e
    exact h
  | n :: r, rooms, R, h, e => by
    have e : (match b.doors.lookup n with | none => none | some d => match addOf b p ls rooms (n, d) with | none => none | some e => roomsFrom b p ls (rooms ++ [e]) r) = some R := e
    cases hl : b.doors.lookup n with
    | none =>
      rw [hl] at e
      cases e
    | some d =>
      rw [hl] at e
      have e : (match addOf b p ls rooms (n, d) with | none => none | some e => roomsFrom b p ls (rooms ++ [e]) r) = some R := e
      cases ha : addOf b p ls rooms (n, d) with
      | none =>
        rw [ha] at e
        cases e
      | some z =>
        rw [ha] at e
        exact path_of r _ (h.add (look_mem hl) ha) e
theorem Path.len (ok : b.ok) {n : Str} (hp : (n, p) ∈ b.people) (h : Path b p ls rooms) : rooms.length ≤ 6 := by
  have h1 : ∀ z ∈ rooms, z ∈ b.rooms := fun z hz => rch_in ok hp (h.rch z hz)
  exact Nat.le_trans (List.Nodup.length_le_of_subset h.nd h1) ok.r6
/-- complete: all of the reach -/
theorem Path.full (h : Path b p ls rooms) {L : List Str} (nd : L.Nodup) (hL : ∀ z, z ∈ L ↔ Rch b p ls z) : beyondOf b p ls rooms = [] ↔ rooms.length = L.length := by
  constructor
  · intro e
    exact len_same h.nd nd fun z => ⟨fun hz => (hL z).2 (h.rch z hz), fun hz => beyond_done h.st e ((hL z).1 hz)⟩
  · intro e
    have sub : rooms ⊆ L := fun z hz => (hL z).2 (h.rch z hz)
    have all : ∀ z ∈ L, z ∈ rooms := fun z hz => by
      refine Classical.byContradiction fun hn => ?_
      have h1 : (z :: rooms).Nodup := List.nodup_cons.mpr ⟨hn, h.nd⟩
      have h2 : z :: rooms ⊆ L := fun y hy => (List.mem_cons.mp hy).elim (fun e => e ▸ hz) fun hy => sub hy
      have := List.Nodup.length_le_of_subset h1 h2
      rw [List.length_cons] at this
      omega
    refine List.eq_nil_iff_forall_not_mem.mpr fun e he => ?_
    have h1 := beyond_sound h.rch e he
    obtain ⟨_, _, _, _, _, _, _, _, hn⟩ := mem_beyond.mp he
    exact hn (all e ((hL e).2 h1))
end
theorem trail_sub {b : BldD} {p : PersonD} {ls : List Str} : ∀ (k : Nat) (rooms : List Str), (trailFrom b p ls k rooms).length ≤ k ∧ ∀ z ∈ trailFrom b p ls k rooms, z ∈ b.doors.map (·.1)
  | 0, _ => ⟨Nat.le_refl _, fun _ h => by cases h⟩
  | k + 1, rooms => by
    show (match stepOf b p ls rooms with | none => [] | some (n, e) => n :: trailFrom b p ls k (rooms ++ [e])).length ≤ _ ∧ ∀ z ∈ (match stepOf b p ls rooms with | none => [] | some (n, e) => n :: trailFrom b p ls k (rooms ++ [e])), _
    cases hs : stepOf b p ls rooms with
    | none => exact ⟨Nat.zero_le _, fun _ h => by cases h⟩
    | some qn =>
      obtain ⟨n, e⟩ := qn
      obtain ⟨d, hm, _⟩ := step_some hs
      obtain ⟨h1, h2⟩ := trail_sub (b := b) (p := p) (ls := ls) k (rooms ++ [e])
      refine ⟨Nat.succ_le_succ h1, fun z hz => ?_⟩
      rcases List.mem_cons.mp hz with c | c
      · rw [c]
        exact List.mem_map.mpr ⟨(n, d), hm, rfl⟩
      · exact h2 z c
theorem trail_comp {b : BldD} (ok : b.ok) (p : PersonD) (ls : List Str) : ∃ R, roomsOf b p ls (trailOf b p ls) = some R ∧ beyondOf b p ls R = [] := trail_rooms ok 6 [p.a] (left_le b ok _)
end Lk
set_option Elab.async false
set_option linter.all false
set_option maxRecDepth 100000
set_option maxHeartbeats 4000000
namespace Lk
open PySem PySem.Spec PyProof.Rows L2 TxS LkO LkG
section
variable {P : Program} {w : World} {K : PySem.W.Frag} {mg : Str → Option Value} {base : Heap} {CD CP CB CL : Addr}
theorem rooms_cons {b : BldD} {p : PersonD} {ls rooms r : List Str} {n : Str} {d : DoorD} (hl : b.doors.lookup n = some d) : roomsFrom b p ls rooms (n :: r) = match addOf b p ls rooms (n, d) with
    | none => none
    | some e => roomsFrom b p ls (rooms ++ [e]) r := by
  show (match b.doors.lookup n with | none => none | some d => match addOf b p ls rooms (n, d) with | none => none | some e => roomsFrom b p ls (rooms ++ [e]) r) = _
  rw [hl]
theorem was_new {H H' : Hp} {a : Addr} (s : Same H H') (h : H' a = none) : H a = none := by
  cases e : H a with
  | none => rfl
  | some o =>
    have := s _ _ e
    rw [h] at this
    cases this
theorem name_look {b : BldD} {n : Str} (h : n ∈ b.doors.map (·.1)) (nd : (b.doors.map (·.1)).Nodup) : ∃ d, b.doors.lookup n = some d ∧ (n, d) ∈ b.doors := by
  obtain ⟨⟨n', d⟩, hm, rfl⟩ := List.mem_map.mp h
  exact ⟨d, look_at nd hm, hm⟩
/-- one more in a tuple of texts -/
theorem cat_one {K : PySem.W.Frag} {H : Hp} {tl p1 : Addr} {tr : List Str} {n : Str} {C : VK} (h1 : SqT K H tl (tr.map V.str)) (h2 : H p1 = some (.tup [.str n])) (few : tr.length ≤ 1000) (h : ∀ H' t, Same H H' → SqT K H' t ((tr ++ [n]).map V.str) → C (.ref t) H') : rCatA K (.ref tl) (.ref p1) H C := by
  refine ⟨tl, p1, tr.map V.str, [.str n], rfl, rfl, h1, .inl (.inl h2), ?_, fun e => ?_, fun _ e => (by cases e), fun _ _ p np => ?_⟩
  · rw [List.length_map, sizeLine_eq]
    simp only [List.length_singleton]
    omega
  · have e : tr = [] := List.map_eq_nil_iff.mp e
    subst e
    exact h _ _ (Same.refl _) (.inl (.inl h2))
  · refine h _ _ (same_new np) (.inl (.inl ?_))
    rw [upd_same, List.map_append]
    rfl
/-! ### rooms_of -/
def spRoomsOf (K : PySem.W.Frag) (CD CP CB CL : Addr) : Sp := fun vs H Q _ => ∃ (x y z t : Addr) (b : BldD) (p : PersonD) (ls tr : List Str), vs = [.ref x, .ref y, .ref z, .ref t] ∧ BldAt K CD CP CB H x b ∧ PersonAt K CP H y p ∧ LkAt CL H z ls ∧ SqT K H t (tr.map V.str) ∧ tr.length ≤ 1000 ∧ (∀ n ∈ tr, n ∈ b.doors.map (·.1)) ∧
  (roomsOf b p ls tr = none → ∀ H', Same H H' → Q .non H') ∧ ∀ R, roomsOf b p ls tr = some R → ∀ H' m, Same H H' → H m = none → H' m = some (.lst (R.map V.str)) → Q (.ref m) H'
theorem scRoomsOf : FnScope ["building", "person", "locks", "trail", "rooms", "name", "room"] ["building", "person", "locks", "trail"] (defScope s_rooms_of) := ⟨rfl, rfl, rfl, by decide +kernel, rfl, by decide +kernel, by decide +kernel⟩
theorem ok_roomsOf {f : Addr} {fd : FuncData} (F : Fun K "rooms_of" "rooms_of" s_rooms_of f fd) (TP : PersT P w K mg base CP) (GA : Fn P w K mg base 5 "room_added" ["building", "person", "locks", "rooms", "name"] (spAdded K CD CP CB CL)) :
    FnOk P w K mg base CX0 6 f fd ["building", "person", "locks", "trail"] (spRoomsOf K CD CP CB CL) := by
  refine F.ok scRoomsOf (fun vs H Q E h => ?_) (fun cdv A outer s H vs Q E hr h => ?_)
  · obtain ⟨x, y, z, t, b, p, ls, tr, rfl, _⟩ := h
    rfl
  · obtain ⟨x, y, z, t, b, p, ls, tr, rfl, hb, hp, hz, ht, few, sub, q0, q1⟩ := h
    have hr2 := hr.mono (show 2 ≤ 5 by decide)
    refine ⟨_, pss_cons (ps_set (i := 4) scRoomsOf.nd rfl (.inl rfl) (pe_lst (pa_cons (pe_pr TP.start hr2 TP.c.cl (pv 1) rfl) pa_nil)))
      (pss_cons (ps_for PassesOwn.never rfl (pi_tup (pv 3)) (pg_name (i := 5) scRoomsOf.nd rfl (Or.inl rfl))
        (pss_cons (ps_set (i := 6) scRoomsOf.nd rfl (.inl rfl) (pe_fn GA hr (by rfl) (pa_cons (pv 0) (pa_cons (pv 1) (pa_cons (pv 2) (pa_cons (pv 4) (pa_cons (pv 5) pa_nil)))))))
        (pss_cons (ps_if (pt_cmp (pc_isN (pv 6))) (pss_one (ps_ret pe_non)) pss_nil)
        (pss_one (ps_set (i := 4) scRoomsOf.nd rfl (.inl rfl) (pe_op op_cat (pv 4) (pe_lst (pa_cons (pv 6) pa_nil))))))))
      (pss_one (ps_ret (pv 4)))), ?_⟩
    have bok := hb.ok
    obtain ⟨⟨dy, t1, t2, t3, h0, _⟩, pok⟩ := id hp
    refine ⟨.ref y, rfl, y, dy, _, rfl, h0, y, dy, _, _, rfl, h0, (look_person p.a t1 t2 t3).1, by show 1 ≤ sizeLine; rw [sizeLine_eq]; decide, fun rl0 nrl0 => ?_⟩
    refine ⟨.ref t, rfl, t, rfl, ⟨_, Same.tup (same_new nrl0) ht⟩, for_it (walk_tup (xs := tr.map V.str)) (fun i σ H' => Same H H' ∧ ∃ rl rooms y5 y6, H rl = none ∧ H' rl = some (.lst (rooms.map V.str)) ∧ roomsFrom b p ls rooms (tr.drop i) = roomsOf b p ls tr ∧ rooms.length = i + 1 ∧
      σ = [some (.ref x), some (.ref y), some (.ref z), some (.ref t), some (.ref rl), y5, y6]) ⟨same_new nrl0, rl0, [p.a], none, none, nrl0, upd_same, rfl, rfl, rfl⟩ (fun i σ H' _ hP => Same.tup hP.1 ht) (fun i v σ H4 H5 hi hP hY => ?_) (fun σ H4 hP => ?_)⟩
    · obtain ⟨rfl, hv⟩ := hY
      obtain ⟨s4, rl, rooms, y5, y6, nrl, erl, er, elen, rfl⟩ := hP
      obtain ⟨n, hn, rfl⟩ := at_map hv
      have hil : i < tr.length := by
        rw [List.length_map] at hi
        exact hi
      have hd : tr.drop i = n :: tr.drop (i + 1) := by
        have := List.drop_eq_getElem_cons hil
        rw [List.getElem?_eq_getElem hil] at hn
        cases hn
        exact this
      obtain ⟨d, hl, hm⟩ := name_look (sub n (List.mem_of_getElem? hn)) bok.dnd
      rw [hd, rooms_cons hl] at er
      refine ⟨.ref x, rfl, .ref y, rfl, .ref z, rfl, .ref rl, rfl, .str n, rfl, x, y, z, rl, b, p, ls, rooms, n, d, rfl, hb.same s4, hp.same s4, hz.same s4, .inl (.inl erl), hl, fun H6 s6 => ?_⟩
      have s46 := s4.trans s6
      cases ha : addOf b p ls rooms (n, d) with
      | none =>
        rw [ha] at er
        exact ⟨.non, rfl, true, rfl, iteT (q0 er.symm _ s46)⟩
      | some e =>
        rw [ha] at er
        refine ⟨.str e, rfl, false, rfl, iteF ?_⟩
        refine ⟨.ref rl, rfl, .str e, rfl, by show 1 ≤ sizeLine; rw [sizeLine_eq]; decide, fun l2 nl2 => ?_⟩
        have s7 := same_new (o := .lst [.str e]) nl2
        refine ⟨rl, l2, _, _, rfl, rfl, s7 _ _ (s6 _ _ erl), upd_same, ?_, fun m nm => ?_⟩
        · rw [List.length_map, sizeLine_eq, elen]
          simp only [List.length_singleton]
          omega
        have s8 := same_new (o := .lst (rooms.map V.str ++ [.str e])) nm
        have s48 := s46.trans (s7.trans s8)
        refine ⟨s48, m, rooms ++ [e], _, _, was_new (s46.trans s7) nm, ?_, er, ?_, rfl⟩
        · rw [upd_same, List.map_append]
          rfl
        · rw [List.length_append, elen]
          rfl
    · obtain ⟨s4, rl, rooms, y5, y6, nrl, erl, er, elen, rfl⟩ := hP
      rw [List.length_map, List.drop_length] at er
      exact ⟨.ref rl, rfl, q1 rooms er.symm _ rl s4 nrl erl⟩
/-! ### first_step -/
def StepV (b : BldD) (p : PersonD) (ls rooms : List Str) (H : Hp) (v : V) : Prop := match stepOf b p ls rooms with
  | none => v = .non
  | some q => ∃ m, v = .ref m ∧ H m = some (.tup [.str q.1, .str q.2])
theorem StepV.same {b : BldD} {p : PersonD} {ls rooms : List Str} {H H' : Hp} {v : V} (h : StepV b p ls rooms H v) (s : Same H H') : StepV b p ls rooms H' v := by
  unfold StepV at h ⊢
  cases hs : stepOf b p ls rooms with
  | none =>
    rw [hs] at h
    exact h
  | some q =>
    rw [hs] at h
    obtain ⟨m, e, hm⟩ := h
    exact ⟨m, e, s _ _ hm⟩
theorem step_at {b : BldD} {p : PersonD} {ls rooms : List Str} {i : Nat} {n e : Str} {d : DoorD} (h0 : ∀ q ∈ b.doors.take i, addOf b p ls rooms q = none) (hi : b.doors[i]? = some (n, d)) (ha : addOf b p ls rooms (n, d) = some e) : stepOf b p ls rooms = some (n, e) := by
  unfold stepOf
  have hlt := (List.getElem?_eq_some_iff.mp hi)
  have hd : b.doors.drop i = (n, d) :: b.doors.drop (i + 1) := by
    rw [← hlt.2]
    exact List.drop_eq_getElem_cons hlt.1
  rw [← List.take_append_drop i b.doors, List.findSome?_append, List.findSome?_eq_none_iff.mpr fun q hq => by rw [h0 q hq]; rfl, hd, List.findSome?_cons, ha]
  rfl
theorem step_no {b : BldD} {p : PersonD} {ls rooms : List Str} (h0 : ∀ q ∈ b.doors, addOf b p ls rooms q = none) : stepOf b p ls rooms = none := by
  unfold stepOf
  exact List.findSome?_eq_none_iff.mpr fun q hq => by rw [h0 q hq]; rfl
def spStep (K : PySem.W.Frag) (CD CP CB CL : Addr) : Sp := fun vs H Q _ => ∃ (x y z l : Addr) (b : BldD) (p : PersonD) (ls rooms : List Str), vs = [.ref x, .ref y, .ref z, .ref l] ∧ BldAt K CD CP CB H x b ∧ PersonAt K CP H y p ∧ LkAt CL H z ls ∧ SqL K H l (rooms.map V.str) ∧
  ∀ H' v, Same H H' → StepV b p ls rooms H' v → Q v H'
theorem scStep : FnScope ["building", "person", "locks", "rooms", "name", "room"] ["building", "person", "locks", "rooms"] (defScope s_first_step) := ⟨rfl, rfl, rfl, by decide +kernel, rfl, by decide +kernel, by decide +kernel⟩
theorem ok_step {f : Addr} {fd : FuncData} (F : Fun K "first_step" "first_step" s_first_step f fd) (T : OwnC K mg CB "Building" bldF) (GA : Fn P w K mg base 5 "room_added" ["building", "person", "locks", "rooms", "name"] (spAdded K CD CP CB CL))
    (PD : Pr P w K mg base 1 CB "doors" (spBDoors K CD CP CB)) : FnOk P w K mg base CX0 6 f fd ["building", "person", "locks", "rooms"] (spStep K CD CP CB CL) := by
  refine F.ok scStep (fun vs H Q E h => ?_) (fun cdv A outer s H vs Q E hr h => ?_)
  · obtain ⟨x, y, z, l, b, p, ls, rooms, rfl, _⟩ := h
    rfl
  · obtain ⟨x, y, z, l, b, p, ls, rooms, rfl, hb, hp, hz, hl, q⟩ := h
    have hr2 := hr.mono (show 2 ≤ 5 by decide)
    refine ⟨_, pss_cons (ps_for PassesOwn.never rfl (pi_list (pe_pr PD hr2 T.cl (pv 0) rfl)) (pg_name (i := 4) scStep.nd rfl (Or.inl rfl))
        (pss_cons (ps_set (i := 5) scStep.nd rfl (.inl rfl) (pe_fn GA hr (by rfl) (pa_cons (pv 0) (pa_cons (pv 1) (pa_cons (pv 2) (pa_cons (pv 3) (pa_cons (pv 4) pa_nil)))))))
        (pss_one (ps_if (pt_cmp (pc_notN (pv 5))) (pss_one (ps_ret (pe_tup (pa_cons (pv 4) (pa_cons (pv 5) pa_nil))))) pss_nil))))
      (pss_one (ps_ret pe_non)), ?_⟩
    obtain ⟨⟨dx, r, k, dn, dd, pn, pd, ok, od, op, kvs, ds, ps, I⟩, bok⟩ := id hb
    refine ⟨.ref x, rfl, x, dx, _, rfl, I.ob, x, b, rfl, hb, fun dl ndl => ⟨dl, rfl, ⟨_, .inl (.inl upd_same)⟩, ?_⟩⟩
    refine for_it (walk_list (xs := (b.doors.map (·.1)).map V.str)) (fun i σ H' => Same H H' ∧ H' dl = some (.lst ((b.doors.map (·.1)).map V.str)) ∧ (∀ q ∈ b.doors.take i, addOf b p ls rooms q = none) ∧ ∃ y4 y5, σ = [some (.ref x), some (.ref y), some (.ref z), some (.ref l), y4, y5])
      ⟨same_new ndl, upd_same, fun _ h => by simp at h, none, none, rfl⟩ (fun i σ H' _ hP => .inl (.inl hP.2.1)) (fun i v σ H4 H5 hi hP hY => ?_) (fun σ H4 hP => ?_)
    · obtain ⟨rfl, hv⟩ := hY
      obtain ⟨s4, edl, no, y4, y5, rfl⟩ := hP
      have hid : i < b.doors.length := by
        rw [List.length_map, List.length_map] at hi
        exact hi
      have hg : b.doors[i]? = some b.doors[i] := List.getElem?_eq_getElem hid
      rw [List.getElem?_map, List.getElem?_map, hg] at hv
      cases hv
      generalize b.doors[i] = nd at hg
      obtain ⟨n, d⟩ := nd
      have hmem : (n, d) ∈ b.doors := List.mem_of_getElem? hg
      refine ⟨.ref x, rfl, .ref y, rfl, .ref z, rfl, .ref l, rfl, .str n, rfl, x, y, z, l, b, p, ls, rooms, n, d, rfl, hb.same s4, hp.same s4, hz.same s4, s4.seq hl, look_at bok.dnd hmem, fun H6 s6 => ?_⟩
      have s46 := s4.trans s6
      cases ha : addOf b p ls rooms (n, d) with
      | none =>
        refine ⟨.non, rfl, false, rfl, iteF ⟨s46, s6 _ _ edl, fun q' hq' => ?_, _, _, rfl⟩⟩
        rw [take_next1 hg] at hq'
        rcases List.mem_append.mp hq' with c | c
        · exact no q' c
        · rw [List.mem_singleton.mp c]
          exact ha
      | some e =>
        refine ⟨.str e, rfl, true, rfl, iteT ⟨.str n, rfl, .str e, rfl, by show 2 ≤ sizeLine; rw [sizeLine_eq]; decide, fun m nm => q _ _ (s46.trans (same_new nm)) ?_⟩⟩
        unfold StepV
        rw [step_at no hg ha]
        exact ⟨m, rfl, upd_same⟩
    · obtain ⟨s4, edl, no, y4, y5, rfl⟩ := hP
      rw [List.length_map, List.length_map, List.take_length] at no
      refine q _ _ s4 ?_
      unfold StepV
      rw [step_no no]
/-! ### trail_of -/
def spTrailOf (K : PySem.W.Frag) (CD CP CB CL : Addr) : Sp := fun vs H Q _ => ∃ (x z : Addr) (b : BldD) (n : Str) (p : PersonD) (ls : List Str), vs = [.ref x, .str n, .ref z] ∧ BldAt K CD CP CB H x b ∧ b.people.lookup n = some p ∧ LkAt CL H z ls ∧ ls.length ≤ 1000 ∧ (∀ z ∈ ls, z ∈ b.doors.map (·.1)) ∧
  ∀ H' t, Same H H' → SqT K H' t ((trailOf b p ls).map V.str) → Q (.ref t) H'
theorem scTrailOf : FnScope ["building", "name", "locks", "person", "trail", "rooms", "step", "door", "room"] ["building", "name", "locks"] (defScope s_trail_of) := ⟨rfl, rfl, rfl, by decide +kernel, rfl, by decide +kernel, by decide +kernel⟩
theorem ok_trailOf {f : Addr} {fd : FuncData} (F : Fun K "trail_of" "trail_of" s_trail_of f fd) (T : OwnC K mg CB "Building" bldF) (TP : PersT P w K mg base CP) (GB : Fn P w K mg base 1 "check_building" ["building"] (fun vs H Q _ => ∃ (a dx : Addr) (fs : List (Str × V)), vs = [.ref a] ∧ H a = some (.ins CB dx fs) ∧ Q .non H))
    (MP : Mt P w K mg base 2 CB "person" ["self", "name"] (spPersOf K CD CP CB)) (GC : Fn P w K mg base 3 "check_locks" ["building", "locks"] (spChk K CD CP CB CL))
    (GS : Fn P w K mg base 6 "first_step" ["building", "person", "locks", "rooms"] (spStep K CD CP CB CL)) : FnOk P w K mg base CX0 7 f fd ["building", "name", "locks"] (spTrailOf K CD CP CB CL) := by
  refine F.ok scTrailOf (fun vs H Q E h => ?_) (fun cdv A outer s H vs Q E hr h => ?_)
  · obtain ⟨x, z, b, n, p, ls, rfl, _⟩ := h
    rfl
  · obtain ⟨x, z, b, n, p, ls, rfl, hb, hn, hz, few, sub, q⟩ := h
    have hr1 := hr.mono (show 1 ≤ 6 by decide)
    have hr2 := hr.mono (show 2 ≤ 6 by decide)
    have hr3 := hr.mono (show 3 ≤ 6 by decide)
    refine ⟨_, pss_cons (ps_expr (pe_fn GB hr1 (by rfl) (pa_cons (pv 0) pa_nil)))
      (pss_cons (ps_set (i := 3) scTrailOf.nd rfl (.inl rfl) (pe_mt MP hr2 T.cl (pv 0) (pa_cons (pv 1) pa_nil)))
      (pss_cons (ps_expr (pe_fn GC hr3 (by rfl) (pa_cons (pv 0) (pa_cons (pv 2) pa_nil))))
      (pss_cons (ps_set (i := 4) scTrailOf.nd rfl (.inl rfl) (pe_tup pa_nil))
      (pss_cons (ps_set (i := 5) scTrailOf.nd rfl (.inl rfl) (pe_lst (pa_cons (pe_pr TP.start hr2 TP.c.cl (pv 3) rfl) pa_nil)))
      (pss_cons (ps_set (i := 6) scTrailOf.nd rfl (.inl rfl) (pe_fn GS hr (by rfl) (pa_cons (pv 0) (pa_cons (pv 3) (pa_cons (pv 2) (pa_cons (pv 5) pa_nil))))))
      (pss_cons (ps_while PassesOwn.never (pt_cmp (pc_notN (pv 6)))
        (pss_cons (ps_asg (pv 6) (pg_tup rfl (pgs_cons (pg_name (i := 7) scTrailOf.nd rfl (Or.inl rfl)) (pgs_cons (pg_name (i := 8) scTrailOf.nd rfl (Or.inl rfl)) pgs_nil))))
        (pss_cons (ps_set (i := 4) scTrailOf.nd rfl (.inl rfl) (pe_op op_catA (pv 4) (pe_tup (pa_cons (pv 7) pa_nil))))
        (pss_cons (ps_set (i := 5) scTrailOf.nd rfl (.inl rfl) (pe_op op_cat (pv 5) (pe_lst (pa_cons (pv 8) pa_nil))))
        (pss_one (ps_set (i := 6) scTrailOf.nd rfl (.inl rfl) (pe_fn GS hr (by rfl) (pa_cons (pv 0) (pa_cons (pv 3) (pa_cons (pv 2) (pa_cons (pv 5) pa_nil)))))))))))
      (pss_one (ps_ret (pv 4))))))))), ?_⟩
    obtain ⟨⟨dx, r, k, dn, dd, pn, pd, ok, od, op, kvs, ds, ps, I⟩, bok⟩ := id hb
    have one : (1 : Nat) ≤ sizeLine := by rw [sizeLine_eq]; decide
    refine ⟨.ref x, rfl, x, dx, _, rfl, I.ob, ?_⟩
    refine ⟨.ref x, rfl, x, dx, _, rfl, I.ob, rfl, .str n, rfl, x, b, n, p, rfl, hb, hn, fun H1 y s1 hy => ?_⟩
    refine ⟨.ref x, rfl, .ref z, rfl, x, z, b, ls, rfl, hb.same s1, hz.same s1, few, sub, fun H2 s2 => ?_⟩
    have s12 := s1.trans s2
    refine ⟨by show 0 ≤ sizeLine; exact Nat.zero_le _, fun t0 nt0 => ?_⟩
    have s13 := s12.trans (same_new (o := .tup []) nt0)
    have hy3 := (hy.same s2).same (same_new (o := .tup []) nt0)
    obtain ⟨⟨dy, t1, t2, t3, h0, _⟩, pok⟩ := id hy3
    refine ⟨.ref y, rfl, y, dy, _, rfl, h0, y, dy, _, _, rfl, h0, (look_person p.a t1 t2 t3).1, one, fun rl nrl => ?_⟩
    have s4 := same_new (o := .lst [.str p.a]) nrl
    have s14 := s13.trans s4
    refine ⟨.ref x, rfl, .ref y, rfl, .ref z, rfl, .ref rl, rfl, x, y, z, rl, b, p, ls, [p.a], rfl, hb.same s14, hy3.same s4, hz.same s14, .inl (.inl upd_same), fun H5 sv s5 hsv => ?_⟩
    have s15 := s14.trans s5
    refine ⟨fun m σ H' => ∃ (rooms tr : List Str) (tl rl : Addr) (sv : V) (y7 y8 : Option V), Same H H' ∧ PersonAt K CP H' y p ∧ H' rl = some (.lst (rooms.map V.str)) ∧ SqT K H' tl (tr.map V.str) ∧ StepV b p ls rooms H' sv ∧ Path b p ls rooms ∧ tr ++ trailFrom b p ls 6 rooms = trailOf b p ls ∧ m = leftOf b rooms ∧ tr.length + m ≤ 6 ∧
      σ = [some (.ref x), some (.str n), some (.ref z), some (.ref y), some (.ref tl), some (.ref rl), some sv, y7, y8], ⟨leftOf b [p.a], [p.a], [], t0, rl, sv, none, none, s15, (hy3.same s4).same s5, s5 _ _ upd_same, .inl (.inl (s5 _ _ (s4 _ _ upd_same))), hsv, Path.one, rfl, rfl, ?_, rfl⟩, ?_⟩
    · have := left_le b bok [p.a]
      simp only [List.length_nil]
      omega
    rintro m σ H6 ⟨rooms, tr, tl, rl, sv, y7, y8, s6, hy6, erl, etl, hsv, hP, etr, rfl, hlen, rfl⟩
    have hmem : (n, p) ∈ b.people := look_mem hn
    cases hs : stepOf b p ls rooms with
    | none =>
      unfold StepV at hsv
      rw [hs] at hsv
      subst hsv
      refine ⟨.non, rfl, false, rfl, iteF ⟨.ref tl, rfl, q _ tl s6 ?_⟩⟩
      rw [trail_none hs, List.append_nil] at etr
      rw [← etr]
      exact etl
    | some qn =>
      obtain ⟨dn', e⟩ := qn
      unfold StepV at hsv
      rw [hs] at hsv
      obtain ⟨ms, rfl, ems⟩ := hsv
      obtain ⟨d, hm, ha⟩ := step_some hs
      have hlt := left_one bok hm ha
      have hP' := hP.add hm ha
      have l6 := hP.len bok hmem
      refine ⟨.ref ms, rfl, true, rfl, iteT ?_⟩
      refine ⟨fun σ H' => ∃ (tl rl : Addr) (sv : V) (y7 y8 : Option V), Same H H' ∧ PersonAt K CP H' y p ∧ H' rl = some (.lst ((rooms ++ [e]).map V.str)) ∧ SqT K H' tl ((tr ++ [dn']).map V.str) ∧ StepV b p ls (rooms ++ [e]) H' sv ∧
        σ = [some (.ref x), some (.str n), some (.ref z), some (.ref y), some (.ref tl), some (.ref rl), some sv, y7, y8], ?_, ?_⟩
      · rintro σ' H' ⟨tl', rl', sv', y7', y8', a1, a2, a3, a4, a5, a6⟩
        refine ⟨leftOf b (rooms ++ [e]), hlt, rooms ++ [e], tr ++ [dn'], tl', rl', sv', y7', y8', a1, a2, a3, a4, a5, hP', ?_, rfl, ?_, a6⟩
        · rw [trail_some bok hs] at etr
          rw [← etr, List.append_assoc]
          rfl
        · rw [List.length_append]
          simp only [List.length_singleton]
          omega
      · refine ⟨.ref ms, rfl, ms, _, rfl, .inl (.inl ems), rfl, _, _, rfl, _, _, rfl, rfl, ?_⟩
        refine ⟨.ref tl, rfl, .str dn', rfl, one, fun p1 np1 => ?_⟩
        have s7 := same_new (o := .tup [.str dn']) np1
        refine cat_one (n := dn') (Same.tup s7 etl) upd_same (by omega) fun H8 tl2 s8 etl2 => ?_
        have s68 := s7.trans s8
        refine ⟨.ref rl, rfl, .str e, rfl, one, fun l2 nl2 => ?_⟩
        have s9 := same_new (o := .lst [.str e]) nl2
        refine ⟨rl, l2, _, _, rfl, rfl, s9 _ _ (s68 _ _ erl), upd_same, ?_, fun m nm => ?_⟩
        · rw [List.length_map, sizeLine_eq]
          simp only [List.length_singleton]
          omega
        have s10 := same_new (o := .lst (rooms.map V.str ++ [.str e])) nm
        have s610 := s68.trans (s9.trans s10)
        have s0 := s6.trans s610
        have em : (upd (upd H8 l2 (.lst [.str e])) m (.lst (rooms.map V.str ++ [.str e]))) m = some (.lst ((rooms ++ [e]).map V.str)) := by
          rw [upd_same, List.map_append]
          rfl
        refine ⟨.ref x, rfl, .ref y, rfl, .ref z, rfl, .ref m, rfl, x, y, z, m, b, p, ls, rooms ++ [e], rfl, hb.same s0, hy6.same s610, hz.same s0, .inl (.inl em), fun H11 sv2 s11 hsv2 => ?_⟩
        exact ⟨tl2, m, sv2, _, _, s0.trans s11, (hy6.same s610).same s11, s11 _ _ em, Same.tup (s9.trans (s10.trans s11)) etl2, hsv2, rfl⟩
end
end Lk
set_option Elab.async false
set_option linter.all false
set_option maxRecDepth 100000
set_option maxHeartbeats 4000000
namespace Lw
open PySem PySem.Spec PyProof.Rows L2 TxS LkO Lk
/-! ### the judge's own reading of a door -/
theorem new_adds {b : BldD} {p : PersonD} {rs : List Str} {d : DoorD} : newOf b p rs d = if keyOk d.key (heldOf b p rs) = true then addsOf rs d else [] := by
  unfold newOf behOf addsOf waysOf
  by_cases hk : keyOk d.key (heldOf b p rs) = true
  · rw [if_pos hk, if_pos hk]
    cases d.both <;> by_cases ha : d.a ∈ rs <;> by_cases hb : d.b ∈ rs <;> simp [ha, hb]
  · rw [if_neg hk, if_neg hk]
    rfl
theorem add_head {b : BldD} {p : PersonD} {ls rs : List Str} {n : Str} {d : DoorD} : addOf b p ls rs (n, d) = if n ∈ ls then none else (newOf b p rs d).head? := by
  rw [new_adds]
  unfold addOf passOf
  by_cases hn : n ∈ ls
  · simp [hn]
  · by_cases hk : keyOk d.key (heldOf b p rs) = true
    · simp [hn, hk]
    · simp [hn, hk]
theorem add_same {b : BldD} {p : PersonD} {ls ls' rs : List Str} (h : ∀ z, z ∈ ls ↔ z ∈ ls') (q : Str × DoorD) : addOf b p ls rs q = addOf b p ls' rs q := by
  unfold addOf passOf
  rw [decide_eq_decide.mpr (h q.1)]
theorem rooms_same {b : BldD} {p : PersonD} {ls ls' : List Str} (h : ∀ z, z ∈ ls ↔ z ∈ ls') : ∀ (tr rs : List Str), roomsFrom b p ls rs tr = roomsFrom b p ls' rs tr
  | [], _ => rfl
  | n :: r, rs => by
    show (match b.doors.lookup n with | none => none | some d => match addOf b p ls rs (n, d) with | none => none | some e => roomsFrom b p ls (rs ++ [e]) r) = match b.doors.lookup n with | none => none | some d => match addOf b p ls' rs (n, d) with | none => none | some e => roomsFrom b p ls' (rs ++ [e]) r
    cases b.doors.lookup n with
    | none => rfl
    | some d =>
      show (match addOf b p ls rs (n, d) with | none => none | some e => roomsFrom b p ls (rs ++ [e]) r) = match addOf b p ls' rs (n, d) with | none => none | some e => roomsFrom b p ls' (rs ++ [e]) r
      rw [add_same h]
      cases addOf b p ls' rs (n, d) with
      | none => rfl
      | some e => exact rooms_same h r _
theorem step_same {b : BldD} {p : PersonD} {ls ls' rs : List Str} (h : ∀ z, z ∈ ls ↔ z ∈ ls') : stepOf b p ls rs = stepOf b p ls' rs := by
  unfold stepOf
  rw [show (fun q : Str × DoorD => (addOf b p ls rs q).map fun e => (q.1, e)) = fun q => (addOf b p ls' rs q).map fun e => (q.1, e) from funext fun q => by rw [add_same h]]
theorem trail_same {b : BldD} {p : PersonD} {ls ls' : List Str} (h : ∀ z, z ∈ ls ↔ z ∈ ls') : ∀ (k : Nat) (rs : List Str), trailFrom b p ls k rs = trailFrom b p ls' k rs
  | 0, _ => rfl
  | k + 1, rs => by
    show (match stepOf b p ls rs with | none => [] | some (n, e) => n :: trailFrom b p ls k (rs ++ [e])) = match stepOf b p ls' rs with | none => [] | some (n, e) => n :: trailFrom b p ls' k (rs ++ [e])
    rw [step_same h]
    cases stepOf b p ls' rs with
    | none => rfl
    | some q =>
      show q.1 :: _ = q.1 :: _
      rw [trail_same h k]
theorem beyond_same {b : BldD} {p : PersonD} {ls ls' rs : List Str} (h : ∀ z, z ∈ ls ↔ z ∈ ls') : beyondOf b p ls rs = beyondOf b p ls' rs := by
  unfold beyondOf
  rw [show addOf b p ls rs = addOf b p ls' rs from funext fun q => add_same h q]
theorem new_in {b : BldD} (ok : b.ok) {p : PersonD} {rs : List Str} {m : Str} {d : DoorD} (hm : (m, d) ∈ b.doors) : ∀ z ∈ newOf b p rs d, z ∈ b.rooms := fun z hz => by
  unfold newOf at hz
  obtain ⟨_, r, hw, _⟩ := mem_beh.mp (List.mem_filter.mp hz).1
  exact (ways_in ok hm hw).2
theorem eqv_nil (zs : List Str) : PyData.eqv (.list (zs.map PyData.str)) (.list []) = zs.isEmpty := by
  cases zs <;> simp [PyData.eqv, PyData.eqvAll]
theorem cut_one (zs : List Str) : cutV (zs.map V.str) none (some 1) = (zs.take 1).map V.str := by
  have := cut_take (zs.map V.str) 1
  rw [← List.map_take] at this
  exact this
section
variable {P : Program} {w : World} {K : PySem.W.Frag} {mg : Str → Option Value} {base : Heap}
/-! ### _law_walked -/
def spWalked (K : PySem.W.Frag) : Sp := fun vs H Q _ => ∃ (t lk tt : Addr) (b : BldD) (n : Str) (p : PersonD) (ls tr : List Str), vs = [.ref t, .str n, .ref lk, .ref tt] ∧ PlAt H t b ∧ b.people.lookup n = some p ∧ SqT K H lk (ls.map V.str) ∧ SqT K H tt (tr.map V.str) ∧ tr.length ≤ 1000 ∧ (∀ z ∈ tr, z ∈ b.doors.map (·.1)) ∧
  (roomsOf b p ls tr = none → ∀ H', Same H H' → Q .non H') ∧ ∀ R, roomsOf b p ls tr = some R → ∀ H' m, Same H H' → H m = none → H' m = some (.lst (R.map V.str)) → Q (.ref m) H'
abbrev nWalked : List Str := ["_law_plan", "_law_name", "_law_locked", "_law_trail", "_law_person_here", "_law_rooms", "_law_one", "_law_door", "_law_row", "_law_more", "_law_room"]
theorem scWalked : FnScope nWalked ["_law_plan", "_law_name", "_law_locked", "_law_trail"] (defScope s__law_walked) := ⟨rfl, rfl, rfl, by decide +kernel, rfl, by decide +kernel, by decide +kernel⟩
theorem ok_walked {f : Addr} {fd : FuncData} (F : Fun K "_law_walked" "_law_walked" s__law_walked f fd) (GP : Fn P w K mg base 1 "_law_person" ["_law_plan", "_law_name"] (spPers K)) (GB : Fn P w K mg base 1 "_law_behind" ["_law_plan", "_law_person_here", "_law_rooms", "_law_door"] (spBehind K)) : FnOk P w K mg base CX0 2 f fd ["_law_plan", "_law_name", "_law_locked", "_law_trail"] (spWalked K) := by
  refine F.ok scWalked (fun vs H Q E h => ?_) (fun cdv A outer s H vs Q E hr h => ?_)
  · obtain ⟨t, lk, tt, b, n, p, ls, tr, rfl, _⟩ := h
    rfl
  · obtain ⟨t, lk, tt, b, n, p, ls, tr, rfl, hb, hn, hl, ht, few, sub, q0, q1⟩ := h
    obtain ⟨⟨r, k, dd, pd, kas, das, pas, I⟩, bok⟩ := id hb
    refine ⟨_, pss_cons (ps_set (i := 4) scWalked.nd rfl (.inl rfl) (pe_fn GP hr (by rfl) (pa_cons (pv 0) (pa_cons (pv 1) pa_nil))))
      (pss_cons (ps_set (i := 5) scWalked.nd rfl (.inr rfl) (pe_lst (pa_cons (pe_ix ix_tup (pv 4) pe_int (fun _ _ => rfl)) pa_nil)))
      (pss_cons (ps_for PassesOwn.never rfl (pi_tup (pv 3)) (pg_name (i := 6) scWalked.nd rfl (Or.inr rfl))
        (pss_cons (ps_set (i := 7) scWalked.nd rfl (.inl rfl) (pe_ix ix_list (pe_lc (own := [("_law_row", 8)]) (g := gName 8) (tt := tTest (tOp rEq (tOp (rIxT K) (tVar 8) (tC (.int 0))) (tVar 6))) (te := tVar 8) rfl scWalked.nd (pi_list (pe_ix ix_tup (pv 0) pe_int (fun _ _ => rfl))) (blkOk_by (N := nWalked) (sc := defScope s__law_walked) (by decide +kernel))
          (fun _ _ _ _ _ => pg_name (i := 8) scWalked.nd rfl (Or.inl rfl)) (fun _ _ _ _ _ => pts_one (pt_cmpR op_eq (pe_ix ix_tup (pv 8) pe_int (fun _ _ => rfl)) (pv 6) (nomark _))) (fun _ _ _ _ _ => pv 8)) pe_int (fun _ _ => rfl)))
        (pss_cons (ps_setLc (i := 9) (own := [("_law_room", 10)]) (g := gName 10) (tt := tTest (tOp (rIn K true) (tVar 10) (tVar 5))) (te := tVar 10) rfl scWalked.nd rfl rfl (sw_true rfl rfl rfl (by decide +kernel)) (pi_list (pe_fn GB hr (by rfl) (pa_cons (pv 0) (pa_cons (pv 4) (pa_cons (pv 5) (pa_cons (pv 7) pa_nil)))))) (blkOk_by (N := nWalked) (sc := defScope s__law_walked) (by decide +kernel))
          (fun _ _ _ _ _ => pg_name (i := 10) scWalked.nd rfl (Or.inl rfl)) (fun _ _ _ _ _ => pts_one (pt_cmpR op_notIn_seq (pv 10) (pv 5) rfl)) (fun _ _ _ _ _ => pv 10))
        (pss_cons (ps_if (pw_or (pt_cmpR (r := rIn K false) op_in_seq (pv 6) (pv 2) rfl) (pw_or1 (pt_cmpR (op_eqD hr.units) (pv 9) (pe_lst pa_nil) (nomark _)))).pt (pss_one (ps_ret pe_non)) pss_nil)
        (pss_one (ps_set (i := 5) scWalked.nd rfl (.inr rfl) (pe_op op_cat (pv 5) (pe_slice sl_list (pv 9) po_none (po_some pe_int)))))))))
      (pss_one (ps_ret (pv 5))))), ?_⟩
    have one : (1 : Nat) ≤ sizeLine := by rw [sizeLine_eq]; decide
    have sqt : ∀ {H' : Hp}, Same H H' → SqT K H' t [.ref r, .ref k, .ref dd, .ref pd] := fun s' => .inl (.inl (s' _ _ I.ob))
    refine ⟨.ref t, rfl, .str n, rfl, t, b, n, p, rfl, hb, hn, fun H1 pr s1 rowp => ?_⟩
    obtain ⟨t1, t2, t3, epr, _⟩ := id rowp
    refine ⟨.ref pr, rfl, pr, _, 1, .str p.a, rfl, rfl, .inl (.inl epr), rfl, one, fun rl0 nrl0 => ?_⟩
    have s10 := same_new (o := .lst [.str p.a]) nrl0
    refine ⟨.ref tt, rfl, tt, rfl, ⟨_, Same.tup (s1.trans s10) ht⟩, for_it (walk_tup (xs := tr.map V.str)) (fun i σ H' => Same H1 H' ∧ ∃ rl rooms y6 y7 y9, H rl = none ∧ H' rl = some (.lst (rooms.map V.str)) ∧ roomsFrom b p ls rooms (tr.drop i) = roomsOf b p ls tr ∧ rooms.length = i + 1 ∧
      σ = [some (.ref t), some (.str n), some (.ref lk), some (.ref tt), some (.ref pr), some (.ref rl), y6, y7, none, y9, none]) ⟨s10, rl0, [p.a], none, none, none, was_new s1 nrl0, upd_same, rfl, rfl, rfl⟩ (fun i σ H' _ hP => Same.tup (s1.trans hP.1) ht) (fun i v σ H4 H5 hi hP hY => ?_) (fun σ H4 hP => ?_)⟩
    · obtain ⟨rfl, hv⟩ := hY
      obtain ⟨s4, rl, rooms, y6, y7, y9, nrl, erl, er, elen, rfl⟩ := hP
      obtain ⟨z, hz, rfl⟩ := at_map hv
      have hil : i < tr.length := by
        rw [List.length_map] at hi
        exact hi
      have hd : tr.drop i = z :: tr.drop (i + 1) := by
        have := List.drop_eq_getElem_cons hil
        rw [List.getElem?_eq_getElem hil] at hz
        cases hz
        exact this
      obtain ⟨d, hlk, hm⟩ := name_look (sub z (List.mem_of_getElem? hz)) bok.dnd
      rw [hd, rooms_cons hlk] at er
      have s04 := s1.trans s4
      have few8 := bok.d8
      have lz := zip_len I.doorsT
      have ld := Paired.length I.doorsT
      -- the row of the door
      refine ⟨.ref t, rfl, t, _, 2, _, rfl, rfl, sqt s04, rfl, dd, rfl, ⟨_, .inl (.inl (s04 _ _ I.doors))⟩, fun D nD => lc_mf (walk_list (xs := das.map V.ref)) (das.zip b.doors) (fun a => decide (a.2.1 = z)) (fun a => .ref a.1) (by rw [List.length_map, lz]) nD (by omega) (fun H' s' => .inl (.inl (s' _ _ (s04 _ _ I.doors)))) (fun j a v H7 H8 Kt Kf hz s7 hY kt kf => ?_) (fun H7 s7 eD => ?_)⟩
      · obtain ⟨rfl, hx⟩ := hY
        obtain ⟨z1, z2⟩ := zip_at hz
        rw [List.getElem?_map, z1] at hx
        cases hx
        have row := pair_zip I.doorsT a (List.mem_of_getElem? hz)
        refine ⟨rfl, .ref a.1, rfl, a.1, _, 0, .str a.2.1, rfl, rfl, .inl (.inl (s7 _ _ (s04 _ _ row))), rfl, .str z, rfl, rfl, _, rfl, ?_⟩
        rw [dec_str]
        refine ite2 (fun e => ?_) (fun e => ?_)
        · exact ⟨.ref a.1, rfl, kt e _ (Same.refl _)⟩
        · exact kf (Bool.eq_false_iff.mpr e) _ (Same.refl _)
      · have hin : (z, d) ∈ (das.zip b.doors).map (·.2) := by rw [zip_snd I.doorsT]; exact hm
        obtain ⟨a0, ha0, e0⟩ := List.mem_map.mp hin
        have hf : a0 ∈ (das.zip b.doors).filter fun a => decide (a.2.1 = z) := List.mem_filter.mpr ⟨ha0, decide_eq_true (by rw [e0])⟩
        cases ef : (das.zip b.doors).filter fun a => decide (a.2.1 = z) with
        | nil =>
          rw [ef] at hf
          cases hf
        | cons a rest =>
          have ha : a ∈ (das.zip b.doors).filter fun a => decide (a.2.1 = z) := by rw [ef]; exact List.mem_cons_self
          obtain ⟨h1, h2⟩ := List.mem_filter.mp ha
          have h2 : a.2.1 = z := of_decide_eq_true h2
          have hm2 : a.2 ∈ b.doors := by
            have := List.mem_map_of_mem (f := (·.2)) h1
            rw [zip_snd I.doorsT] at this
            exact this
          have h3 := look_at bok.dnd hm2
          rw [h2, hlk] at h3
          have e3 : a.2 = (z, d) := by
            rw [← h2, Option.some.inj h3]
          rw [ef] at eD
          have row := pair_zip I.doorsT a h1
          rw [e3] at row
          have s07 := s04.trans s7
          have row7 : rowD H7 a.1 (z, d) := s07 _ _ row
          refine ⟨D, _, 0, .ref a.1, rfl, rfl, .inl (.inl eD), atI_nat (j := 0) rfl, ?_⟩
          -- the further rooms
          have s17 := s4.trans s7
          refine ⟨.ref t, rfl, .ref pr, rfl, .ref rl, rfl, .ref a.1, rfl, t, pr, rl, a.1, b, n, p, rooms, z, d, rfl, hb.same s07, rowP.tt (TT.of s17) _ _ rowp, .inl (.inl (s7 _ _ erl)), row7, hm, fun H9 bl s9 ebl => ?_⟩
          refine ⟨bl, rfl, ⟨_, .inl (.inl ebl)⟩, fun D2 nD2 => lc_mf (walk_list (xs := (behOf b p rooms d).map V.str)) (behOf b p rooms d) (fun u => !decide (u ∈ rooms)) V.str (by rw [List.length_map]) nD2 (Nat.le_trans beh_len (by decide)) (fun H' s' => .inl (.inl (s' _ _ ebl))) (fun j u v H10 H11 Kt Kf hz s10 hY kt kf => ?_) (fun H10 s10 eD2 => ?_)⟩
          · obtain ⟨rfl, hx⟩ := hY
            rw [List.getElem?_map, hz] at hx
            cases hx
            refine ⟨rfl, .str u, rfl, .ref rl, rfl, rl, _, rfl, .inl (.inl (.inl (s10 _ _ (s9 _ _ (s7 _ _ erl))))), rfl, Lk.flat_strs rooms, _, rfl, ?_⟩
            rw [inV_str]
            refine ite2 (fun t2 => ?_) (fun t2 => ?_)
            · exact ⟨.str u, rfl, kt t2 _ (Same.refl _)⟩
            · exact kf (Bool.eq_false_iff.mpr t2) _ (Same.refl _)
          · have eD2' : H10 D2 = some (.lst ((newOf b p rooms d).map V.str)) := eD2
            have s410 := (s7.trans s9).trans s10
            have s010 := s04.trans s410
            refine ⟨.str z, rfl, .ref lk, rfl, lk, _, rfl, .inr (Same.tup s010 hl), rfl, Lk.flat_strs ls, _, rfl, ?_⟩
            rw [inV_str]
            refine ite2 (fun e1 => ?_) (fun e1 => ?_)
            · have yin : z ∈ ls := of_decide_eq_true e1
              refine iteT (q0 ?_ _ s010)
              rw [← er, add_head, if_pos yin]
            · have nin : z ∉ ls := fun h => e1 (decide_eq_true h)
              refine ⟨.ref D2, rfl, Nat.zero_le _, fun l0 nl0 => ?_⟩
              have s11 := same_new (o := .lst []) nl0
              refine ⟨_, _, .lst (.inl (.inl (s11 _ _ eD2'))) (dp_strs _), .lst (.inl (.inl upd_same)) .nil, shaped_strsL (fun u hu => nm_ok (are_nm bok.rooms u (new_in bok hm u hu))), shaped_strsL (zs := []) (by simp), _, rfl, ?_⟩
              rw [eqv_nil]
              cases en : newOf b p rooms d with
              | nil =>
                refine iteT (q0 ?_ _ (s010.trans s11))
                rw [← er, add_head, if_neg nin, en]
                rfl
              | cons e rest2 =>
                rw [add_head, if_neg nin, en] at er
                rw [en] at eD2'
                refine iteF ?_
                refine ⟨.ref rl, rfl, .ref D2, rfl, 1, rfl, D2, _, rfl, .inl (.inl (s11 _ _ eD2')), fun p1 np1 => ?_⟩
                rw [cut_one]
                have s12 := same_new (o := .lst (((e :: rest2).take 1).map V.str)) np1
                refine ⟨rl, p1, _, _, rfl, rfl, s12 _ _ (s11 _ _ (s410 _ _ erl)), upd_same, ?_, fun m nm => ?_⟩
                · rw [List.length_map, sizeLine_eq, elen]
                  show i + 1 + 1 ≤ _
                  omega
                have s13 := same_new (o := .lst (rooms.map V.str ++ ((e :: rest2).take 1).map V.str)) nm
                have sall := s410.trans (s11.trans (s12.trans s13))
                refine ⟨s4.trans sall, m, rooms ++ [e], _, _, _, was_new (s04.trans (s410.trans (s11.trans s12))) nm, ?_, er, ?_, rfl⟩
                · rw [upd_same, List.map_append]
                  rfl
                · rw [List.length_append, elen]
                  rfl
    · obtain ⟨s4, rl, rooms, y6, y7, y9, nrl, erl, er, elen, rfl⟩ := hP
      rw [List.length_map, List.drop_length] at er
      exact ⟨.ref rl, rfl, q1 rooms er.symm _ rl (s1.trans s4) nrl erl⟩
end
end Lw
set_option Elab.async false
set_option linter.all false
set_option maxRecDepth 100000
set_option maxHeartbeats 4000000
namespace Lw
open PySem PySem.Spec PyProof.Rows L2 TxS LkO Lk
theorem cat_tup {K : PySem.W.Frag} {H : Hp} {tl p1 : Addr} {tr zs : List Str} {C : VK} (h1 : H tl = some (.tup (tr.map V.str))) (h2 : H p1 = some (.tup (zs.map V.str))) (few : tr.length + zs.length ≤ 1000) (h : ∀ H' t, Same H H' → H' t = some (.tup ((tr ++ zs).map V.str)) → C (.ref t) H') : rCatA K (.ref tl) (.ref p1) H C := by
  refine ⟨tl, p1, tr.map V.str, zs.map V.str, rfl, rfl, .inl (.inl h1), .inl (.inl h2), ?_, fun e => ?_, fun _ e => ?_, fun _ _ p np => ?_⟩
  · rw [List.length_map, List.length_map, sizeLine_eq]
    omega
  · have e : tr = [] := List.map_eq_nil_iff.mp e
    subst e
    exact h _ _ (Same.refl _) h2
  · have e : zs = [] := List.map_eq_nil_iff.mp e
    subst e
    refine h _ _ (Same.refl _) ?_
    rw [List.append_nil]
    exact h1
  · refine h _ _ (same_new np) ?_
    rw [upd_same, List.map_append]
theorem cut_sub (zs : List Str) (lo hi : Option Int) : ∃ ys : List Str, cutV (zs.map V.str) lo hi = ys.map V.str ∧ ys.length ≤ zs.length ∧ ∀ z ∈ ys, z ∈ zs := by
  unfold cutV
  rw [← List.map_drop, ← List.map_take]
  refine ⟨_, rfl, ?_, fun z hz => List.mem_of_mem_drop (List.mem_of_mem_take hz)⟩
  rw [List.length_take, List.length_drop]
  omega
theorem keys_nil (keys : List (Str × Str)) : PyData.eqv (.list (keys.map keyPD)) (.list []) = keys.isEmpty := by
  cases keys <;> simp [PyData.eqv, PyData.eqvAll]
section
variable {P : Program} {w : World} {K : PySem.W.Frag} {mg : Str → Option Value} {base : Heap}
def spDTrail (K : PySem.W.Frag) : Sp := fun vs H Q _ => ∃ (dr t lk : Addr) (b : BldD) (n : Str) (p : PersonD) (ls : List Str), vs = [.ref dr, .ref t, .str n, .ref lk] ∧ DrE H dr ∧ PlX dr H t b ∧ b.people.lookup n = some p ∧ SqT K H lk (ls.map V.str) ∧
  ∀ H' x (tr : List Str), Mw dr H H' → H' x = some (.tup (tr.map V.str)) → (∀ z ∈ tr, z ∈ b.doors.map (·.1)) → tr.length ≤ 20 → Q (.ref x) H'
abbrev nDTr : List Str := ["_law_draws", "_law_plan", "_law_name", "_law_locked", "_law_person_here", "_law_rooms", "_law_found", "_law_turn", "_law_some_here", "_law_door", "_law_more", "_law_room", "_law_one", "_law_names_here", "_law_at"]
theorem scDTr : FnScope nDTr ["_law_draws", "_law_plan", "_law_name", "_law_locked"] (defScope s__law_drawn_trail) := ⟨rfl, rfl, rfl, by decide +kernel, rfl, by decide +kernel, by decide +kernel⟩
theorem ok_dtrail {f : Addr} {fd : FuncData} (F : Fun K "_law_drawn_trail" "_law_drawn_trail" s__law_drawn_trail f fd) (B : Blt mg) (GX : Fn P w K mg base 1 "_law_take" ["_law_draws", "_law_many"] spTake) (GP : Fn P w K mg base 1 "_law_person" ["_law_plan", "_law_name"] (spPers K))
    (GB : Fn P w K mg base 1 "_law_behind" ["_law_plan", "_law_person_here", "_law_rooms", "_law_door"] (spBehind K)) (GN : Fn P w K mg base 1 "_law_names" ["_law_plan"] (spLNames K)) :
    FnOk P w K mg base CX0 2 f fd ["_law_draws", "_law_plan", "_law_name", "_law_locked"] (spDTrail K) := by
  refine F.ok scDTr (fun vs H Q E h => ?_) (fun cdv A outer s H vs Q E hr h => ?_)
  · obtain ⟨dr, t, lk, b, n, p, ls, rfl, _⟩ := h
    rfl
  · obtain ⟨dr, t, lk, b, n, p, ls, rfl, hS, pl, hn, hl, q⟩ := h
    refine ⟨_, pss_cons (ps_asg (pe_tup (pa_cons (pe_fn GP hr (by rfl) (pa_cons (pv 1) (pa_cons (pv 2) pa_nil))) (pa_cons (pe_lst (pa_cons (pe_ix ix_tup (pe_fn GP hr (by rfl) (pa_cons (pv 1) (pa_cons (pv 2) pa_nil))) pe_int (fun _ _ => rfl)) pa_nil)) (pa_cons (pe_tup pa_nil) pa_nil)))) (pg_tup rfl (pgs_cons (pg_name (i := 4) scDTr.nd rfl (Or.inl rfl)) (pgs_cons (pg_name (i := 5) scDTr.nd rfl (Or.inr rfl)) (pgs_cons (pg_name (i := 6) scDTr.nd rfl (Or.inl rfl)) pgs_nil)))))
      (pss_cons (ps_for PassesOwn.never rfl (pi_range1 (by rfl) B.rng (pa_cons (pe_fn GX hr (by rfl) (pa_cons (pv 0) (pa_cons pe_int pa_nil))) pa_nil)) (pg_name (i := 7) scDTr.nd rfl (Or.inl rfl))
        (pss_cons (ps_set (i := 8) scDTr.nd rfl (.inl rfl) (pe_lst pa_nil))
        (pss_cons (ps_for PassesOwn.never rfl (pi_list (pe_ix ix_tup (pv 1) pe_int (fun _ _ => rfl))) (pg_name (i := 9) scDTr.nd rfl (Or.inl rfl))
          (pss_cons (ps_setLc (i := 10) (own := [("_law_room", 11)]) (g := gName 11) (tt := tTest (tOp (rIn K true) (tVar 11) (tVar 5))) (te := tVar 11) rfl scDTr.nd rfl rfl (sw_true rfl rfl rfl (by decide +kernel)) (pi_list (pe_fn GB hr (by rfl) (pa_cons (pv 1) (pa_cons (pv 4) (pa_cons (pv 5) (pa_cons (pv 9) pa_nil)))))) (blkOk_by (N := nDTr) (sc := defScope s__law_drawn_trail) (by decide +kernel))
            (fun _ _ _ _ _ => pg_name (i := 11) scDTr.nd rfl (Or.inl rfl)) (fun _ _ _ _ _ => pts_one (pt_cmpR op_notIn_seq (pv 11) (pv 5) rfl)) (fun _ _ _ _ _ => pv 11))
          (pss_one (ps_if (pw_and (pt_cmpR (op_neD hr.units) (pv 10) (pe_lst pa_nil) (nomark _)) (pw_and1 (pt_cmpR (r := rIn K true) op_notIn_seq (pe_ix ix_tup (pv 9) pe_int (fun _ _ => rfl)) (pv 3) rfl))).pt
            (pss_one (ps_expr (pe_bm PySem.F.plainAttrs_list PySem.F.slot_list_append PySem.F.type_list_append mt_append (pv 8) (pa_cons (pe_tup (pa_cons (pe_ix ix_tup (pv 9) pe_int (fun _ _ => rfl)) (pa_cons (pe_ix ix_list (pv 10) pe_int (fun _ _ => rfl)) pa_nil))) pa_nil)))) pss_nil))))
        (pss_one (ps_if (pt_cmpR (op_neD hr.units) (pv 8) (pe_lst pa_nil) (nomark _))
          (pss_cons (ps_asg (pe_ix ix_list (pv 8) (pe_fn GX hr (by rfl) (pa_cons (pv 0) (pa_cons (pe_callB call_len_seq (by rfl) B.len PySem.boot_len (pa_cons (pv 8) pa_nil)) pa_nil))) (fun _ _ => rfl)) (pg_tup rfl (pgs_cons (pg_name (i := 12) scDTr.nd rfl (Or.inl rfl)) (pgs_cons (pg_name (i := 11) scDTr.nd rfl (Or.inl rfl)) pgs_nil))))
          (pss_one (ps_asg (pe_tup (pa_cons (pe_op op_catA (pv 6) (pe_tup (pa_cons (pv 12) pa_nil))) (pa_cons (pe_op op_cat (pv 5) (pe_lst (pa_cons (pv 11) pa_nil))) pa_nil))) (pg_tup rfl (pgs_cons (pg_name (i := 6) scDTr.nd rfl (Or.inl rfl)) (pgs_cons (pg_name (i := 5) scDTr.nd rfl (Or.inr rfl)) pgs_nil)))))) pss_nil)))))
      (pss_cons (ps_if (pt_cmpR op_eq (pe_fn GX hr (by rfl) (pa_cons (pv 0) (pa_cons pe_int pa_nil))) pe_int (nomark _))
        (pss_cons (ps_par (i := 13) (j := 14) rfl scDTr.nd rfl rfl (by decide) rfl rfl (pa_cons (pe_fn GN hr (by rfl) (pa_cons (pv 1) pa_nil)) (pa_cons (pe_fn GX hr (by rfl) (pa_cons (pv 0) (pa_cons (pe_op op_add (pe_callB call_len_seq (by rfl) B.len PySem.boot_len (pa_cons (pv 6) pa_nil)) pe_int) pa_nil))) pa_nil)) rfl)
        (pss_one (ps_set (i := 6) scDTr.nd rfl (.inl rfl) (pe_op op_catA (pe_op op_catA (pe_slice sl_tupB (pv 6) po_none (po_some (pv 14))) (pe_tup (pa_cons (pe_ix ix_list (pv 13) (pe_fn GX hr (by rfl) (pa_cons (pv 0) (pa_cons (pe_callB call_len_seq (by rfl) B.len PySem.boot_len (pa_cons (pv 13) pa_nil)) pa_nil))) (fun _ _ => rfl)) pa_nil))) (pe_slice sl_tupB (pv 6) (po_some (pe_op op_add (pv 14) (pe_fn GX hr (by rfl) (pa_cons (pv 0) (pa_cons pe_int pa_nil))))) po_none))))) pss_nil)
      (pss_one (ps_ret (pv 6))))), ?_⟩
    have one : (1 : Nat) ≤ sizeLine := by rw [sizeLine_eq]; decide
    have two : (2 : Nat) ≤ sizeLine := by rw [sizeLine_eq]; decide
    have three : (3 : Nat) ≤ sizeLine := by rw [sizeLine_eq]; decide
    have bok := pl.ok
    have d8 := bok.d8
    refine ⟨.ref t, rfl, .str n, rfl, t, b, n, p, rfl, pl.at_, hn, fun H1 pr s1 rowp => ?_⟩
    refine ⟨.ref t, rfl, .str n, rfl, t, b, n, p, rfl, pl.at_.same s1, hn, fun H2 pr2 s2 rowp2 => ?_⟩
    obtain ⟨t1, t2, t3, epr2, _⟩ := id rowp2
    refine ⟨pr2, _, 1, .str p.a, rfl, rfl, .inl (.inl epr2), rfl, one, fun rl0 nrl0 => ⟨Nat.zero_le _, fun t0 nt0 => ⟨three, fun tp ntp => ?_⟩⟩⟩
    have s3 := (same_new (o := .lst [.str p.a]) nrl0).trans ((same_new (o := .tup []) nt0).trans (same_new (o := .tup [.ref pr, .ref rl0, .ref t0]) ntp))
    have erl0 := same_new (o := .tup [.ref pr, .ref rl0, .ref t0]) ntp _ _ (same_new (o := .tup []) nt0 _ _ (upd_same (H := H2) (a := rl0) (o := .lst [.str p.a])))
    have et0 := same_new (o := .tup [.ref pr, .ref rl0, .ref t0]) ntp _ _ (upd_same (H := upd H2 rl0 (.lst [.str p.a])) (a := t0) (o := .tup []))
    have etp := upd_same (H := upd (upd H2 rl0 (.lst [.str p.a])) t0 (.tup [])) (a := tp) (o := .tup [.ref pr, .ref rl0, .ref t0])
    generalize upd (upd (upd H2 rl0 (.lst [.str p.a])) t0 (.tup [])) tp (.tup [.ref pr, .ref rl0, .ref t0]) = H3 at s3 erl0 et0 etp ⊢
    have s03 := s1.trans (s2.trans s3)
    have rowp3 := rowP.tt (TT.of (s2.trans s3)) _ _ rowp
    refine ⟨tp, _, rfl, .inl (.inl etp), rfl, _, _, rfl, _, _, rfl, _, _, rfl, rfl, ?_⟩
    have S3 := hS.same s03
    have nrl0dr : rl0 ≠ dr := (hS.same (s1.trans s2)).new nrl0
    refine ⟨.ref dr, rfl, dr, 6, rfl, S3, by decide, fun c0 H4 c00 c01 m4 => ⟨c0, rfl, by omega, by omega, ?_⟩⟩
    have m04 := (Mw.of hS s03).trans m4
    obtain ⟨cn, rfl⟩ : ∃ cn : Nat, c0 = (cn : Int) := ⟨c0.toNat, by omega⟩
    have pl4 := pl.mv hS m04
    refine for_it walk_range (fun i σ H' => ∃ (rl tl : Addr) (rooms fnd : List Str) (y7 y8 y9 y10 y11 y12 : Option V), Mw dr H H' ∧ rowP H' pr (n, p) ∧ rl ≠ dr ∧ H' rl = some (.lst (rooms.map V.str)) ∧ H' tl = some (.tup (fnd.map V.str)) ∧ rooms.length ≤ i + 1 ∧ fnd.length ≤ i ∧ (∀ z ∈ fnd, z ∈ b.doors.map (·.1)) ∧
      σ = [some (.ref dr), some (.ref t), some (.str n), some (.ref lk), some (.ref pr), some (.ref rl), some (.ref tl), y7, y8, y9, y10, y11, y12, none, none]) ⟨rl0, t0, [p.a], [], none, none, none, none, none, none, m04, rowP.tt (TT.mv S3 m4) _ _ rowp3, nrl0dr, m4.sx _ _ erl0 nrl0dr, TT.mv S3 m4 _ _ et0, Nat.le_refl _, Nat.le_refl _, (fun _ h => by cases h), rfl⟩ (fun _ _ _ _ _ => trivial) (fun i v σ H6 H5 hi hP hY => ?_) (fun σ H5 hP => ?_)
    · obtain ⟨rfl, rfl⟩ := hY
      obtain ⟨rl, tl, rooms, fnd, y7, y8, y9, y10, y11, y12, m5, rowp5, nrl, erl, etl, lrm, lfn, fsub, rfl⟩ := hP
      have hi6 : i < 6 := by omega
      have pl5 := pl.mv hS m5
      have S5 := m5.se
      obtain ⟨⟨r, k, dd, pd, kas, das, pas, I, n1, n2, n3⟩, _⟩ := id pl5
      refine ⟨Nat.zero_le _, fun D8 nD8 => ?_⟩
      have sD8 := same_new (o := .lst []) nD8
      have nD8dr : D8 ≠ dr := S5.new nD8
      refine ⟨.ref t, rfl, t, _, 2, _, rfl, rfl, .inl (.inl (sD8 _ _ I.ob)), rfl, dd, rfl, ⟨_, .inl (.inl (sD8 _ _ I.doors))⟩, ?_⟩
      refine for_it (walk_list (xs := das.map V.ref)) (fun j σ H' => Same H5 H' ∧ ∃ (prs : List Addr) (pairs : List (Str × Str)) (y9 y10 : Option V), H' D8 = some (.lst (prs.map V.ref)) ∧ Paired (rowK H') prs pairs ∧ (∀ q ∈ pairs, q.1 ∈ b.doors.map (·.1) ∧ q.2 ∈ b.rooms) ∧ prs.length ≤ j ∧
        σ = [some (.ref dr), some (.ref t), some (.str n), some (.ref lk), some (.ref pr), some (.ref rl), some (.ref tl), some (.int (0 + (i : Nat))), some (.ref D8), y9, y10, y11, y12, none, none]) ⟨sD8, [], [], y9, y10, upd_same, .nil, (fun _ h => by cases h), Nat.le_refl _, by simp⟩ (fun j σ H' _ hP => .inl (.inl (hP.1 _ _ I.doors))) (fun j v σ H7 H8 hj hP hY => ?_) (fun σ H7 hP => ?_)
      · obtain ⟨rfl, hv⟩ := hY
        obtain ⟨s7, prs, pairs, y9, y10, eD8, pT, pin, plen, rfl⟩ := hP
        obtain ⟨trw, htr, rfl⟩ := at_map hv
        obtain ⟨nd, hg, row⟩ := pair_at I.doorsT htr
        have hm := List.mem_of_getElem? hg
        have hjd : j < 8 := by
          have h1 := (List.getElem?_eq_some_iff.mp hg).1
          omega
        have sqd : ∀ {H' : Hp}, Same H5 H' → SqT K H' trw [.str nd.1, .str nd.2.a, .str nd.2.b, oV nd.2.key, .bl nd.2.both, .int nd.2.cost] := fun s' => .inl (.inl (s' _ _ row))
        refine ⟨.ref t, rfl, .ref pr, rfl, .ref rl, rfl, .ref trw, rfl, t, pr, rl, trw, b, n, p, rooms, nd.1, nd.2, rfl, pl5.at_.same s7, rowP.tt (TT.of s7) _ _ rowp5, .inl (.inl (s7 _ _ erl)), s7 _ _ row, hm, fun H9 bl s9 ebl => ?_⟩
        refine ⟨bl, rfl, ⟨_, .inl (.inl ebl)⟩, fun D2 nD2 => lc_mf (walk_list (xs := (behOf b p rooms nd.2).map V.str)) (behOf b p rooms nd.2) (fun u => !decide (u ∈ rooms)) V.str (by rw [List.length_map]) nD2 (Nat.le_trans beh_len (by decide)) (fun H' s' => .inl (.inl (s' _ _ ebl))) (fun j u v H10 H11 Kt Kf hz s10 hY kt kf => ?_) (fun H10 s10 eD2 => ?_)⟩
        · obtain ⟨rfl, hx⟩ := hY
          rw [List.getElem?_map, hz] at hx
          cases hx
          refine ⟨rfl, .str u, rfl, .ref rl, rfl, rl, _, rfl, .inl (.inl (.inl (s10 _ _ (s9 _ _ (s7 _ _ erl))))), rfl, Lk.flat_strs rooms, _, rfl, ?_⟩
          rw [inV_str]
          refine ite2 (fun t2 => ?_) (fun t2 => ?_)
          · exact ⟨.str u, rfl, kt t2 _ (Same.refl _)⟩
          · exact kf (Bool.eq_false_iff.mpr t2) _ (Same.refl _)
        · have eD2' : H10 D2 = some (.lst ((newOf b p rooms nd.2).map V.str)) := eD2
          have s810 := s9.trans s10
          have s510 := s7.trans s810
          refine ⟨.ref D2, rfl, Nat.zero_le _, fun l0 nl0 => ?_⟩
          have s11 := same_new (o := .lst []) nl0
          have s811 := s810.trans s11
          have s511 := s510.trans s11
          refine ⟨_, _, .lst (.inl (.inl (s11 _ _ eD2'))) (dp_strs _), .lst (.inl (.inl upd_same)) .nil, shaped_strsL (fun u hu => nm_ok (are_nm bok.rooms u (new_in bok hm u hu))), shaped_strsL (zs := []) (by simp), _, rfl, ?_⟩
          rw [eqv_nil]
          have stay : ∀ y9 y10, Same H5 (upd H10 l0 (.lst [])) ∧ ∃ (prs : List Addr) (pairs : List (Str × Str)) (y9' y10' : Option V), (upd H10 l0 (.lst [])) D8 = some (.lst (prs.map V.ref)) ∧ Paired (rowK (upd H10 l0 (.lst []))) prs pairs ∧ (∀ q ∈ pairs, q.1 ∈ b.doors.map (·.1) ∧ q.2 ∈ b.rooms) ∧ prs.length ≤ j + 1 ∧
              [some (V.ref dr), some (.ref t), some (.str n), some (.ref lk), some (.ref pr), some (.ref rl), some (.ref tl), some (.int (0 + (i : Nat))), some (.ref D8), y9, y10, y11, y12, none, none] = [some (.ref dr), some (.ref t), some (.str n), some (.ref lk), some (.ref pr), some (.ref rl), some (.ref tl), some (.int (0 + (i : Nat))), some (.ref D8), y9', y10', y11, y12, none, none] := fun y9 y10 =>
            ⟨s511, prs, pairs, y9, y10, s811 _ _ eD8, Paired.mono (rowK.tt (TT.of s811)) pT, pin, by omega, rfl⟩
          cases en : newOf b p rooms nd.2 with
          | nil => exact iteF (iteF (stay _ _))
          | cons e rest =>
            rw [en] at eD2'
            refine iteT ?_
            refine ⟨.ref trw, rfl, trw, _, 0, _, rfl, rfl, sqd s511, rfl, .ref lk, rfl, lk, _, rfl, .inr (Same.tup s511 (Mw.tup m5 hS hl)), rfl, Lk.flat_strs ls, _, rfl, ?_⟩
            rw [inV_str]
            refine ite2 (fun e1 => ?_) (fun e1 => ?_)
            · refine ⟨.ref D8, rfl, .inl ⟨rfl, _, .inl (.inl (s811 _ _ eD8))⟩, .ref trw, rfl, trw, _, 0, _, rfl, rfl, sqd s511, rfl, .ref D2, rfl, D2, _, 0, .str e, rfl, rfl, .inl (.inl (s11 _ _ eD2')), atI_nat (j := 0) rfl, two, fun tq ntq => ?_⟩
              have s12 := same_new (o := .tup [.str nd.1, .str e]) ntq
              have s812 := s811.trans s12
              have eD12 := s812 _ _ eD8
              refine ⟨D8, _, _, rfl, rfl, eD12, by rw [List.length_map]; exact small1000 (by omega), Same.up (s7.trans s812) nD8, prs ++ [tq], pairs ++ [(nd.1, e)], _, _, by rw [upd_same, List.map_append]; rfl, ?_, fun q hq => ?_, by rw [List.length_append, List.length_singleton]; omega, rfl⟩
              · exact Paired.snoc (Paired.mono (rowK.tt ((TT.of s812).trans (TT.put eD12))) pT) (TT.put eD12 _ _ upd_same)
              · rcases List.mem_append.mp hq with c | c
                · exact pin q c
                · rw [List.mem_singleton.mp c]
                  exact ⟨List.mem_map.mpr ⟨nd, hm, rfl⟩, new_in bok hm e (by rw [en]; exact List.mem_cons_self)⟩
            · exact stay _ _
      · obtain ⟨s7, prs, pairs, y9, y10, eD8, pT, pin, plen, rfl⟩ := hP
        have m7 := m5.more s7
        have S7 := m7.se
        rw [List.length_map] at plen
        have ld : das.length ≤ 8 := by
          rw [Paired.length I.doorsT]
          exact d8
        refine ⟨.ref D8, rfl, Nat.zero_le _, fun l0 nl0 => ?_⟩
        have s8 := same_new (o := .lst []) nl0
        have kn : ∀ q ∈ pairs, PyData.strOk q.1 = true ∧ PyData.strOk q.2 = true := fun q hq => by
          obtain ⟨h1, h2⟩ := pin q hq
          obtain ⟨u, hu, e⟩ := List.mem_map.mp h1
          exact ⟨by rw [← e]; exact nm_ok (bok.doors u hu).1, nm_ok (are_nm bok.rooms _ h2)⟩
        have pT8 := Paired.mono (rowK.tt (TT.of s8)) pT
        refine ⟨_, _, .lst (.inl (.inl (s8 _ _ eD8))) (dp_keys pT8), .lst (.inl (.inl upd_same)) .nil, shaped_keys kn, shaped_strsL (zs := []) (by simp), _, rfl, ?_⟩
        rw [keys_nil]
        have m8 := m7.more s8
        have S8 := m8.se
        have s58 := s7.trans s8
        cases ep : pairs with
        | nil => exact iteF ⟨rl, tl, rooms, fnd, _, _, _, _, _, _, m8, rowP.tt (TT.of s58) _ _ rowp5, nrl, s58 _ _ erl, s58 _ _ etl, by omega, by omega, fsub, rfl⟩
        | cons q0 qs =>
          refine iteT ?_
          have lpr : prs.length = pairs.length := Paired.length pT
          have lpos : 0 < prs.length := by rw [lpr, ep]; exact Nat.succ_pos _
          refine ⟨.ref D8, rfl, .ref dr, rfl, .ref D8, rfl, D8, _, rfl, .inl (.inl (.inl (s8 _ _ eD8))), dr, _, rfl, S8, by rw [List.length_map]; omega, fun jx H9 j0 j1 m9 => ?_⟩
          rw [List.length_map] at j1
          obtain ⟨pa, hpa, apa⟩ := at_ref j0 j1
          obtain ⟨pq, hpq, rowq⟩ := pair_at pT hpa
          have pinq := pin pq (List.mem_of_getElem? hpq)
          have m09 := m8.trans m9
          have S9 := m09.se
          refine ⟨D8, _, jx, .ref pa, rfl, rfl, .inl (.inl (m9.sx _ _ (s8 _ _ eD8) nD8dr)), apa, ?_⟩
          have rowq9 : H9 pa = some (.tup [.str pq.1, .str pq.2]) := TT.mv S8 m9 _ _ (s8 _ _ rowq)
          refine ⟨pa, _, rfl, .inl (.inl rowq9), rfl, _, _, rfl, _, _, rfl, rfl, ?_⟩
          have etl9 := TT.mv S8 m9 _ _ (s58 _ _ etl)
          have erl9 := m9.sx _ _ (s58 _ _ erl) nrl
          refine ⟨.ref tl, rfl, .str pq.1, rfl, one, fun p1 np1 => ?_⟩
          have s10 := same_new (o := .tup [.str pq.1]) np1
          refine cat_tup (zs := [pq.1]) (s10 _ _ etl9) upd_same (by rw [List.length_singleton]; omega) fun H11 t11 s11 e11 => ?_
          have s911 := s10.trans s11
          refine ⟨.ref rl, rfl, .str pq.2, rfl, one, fun l2 nl2 => ?_⟩
          have s12 := same_new (o := .lst [.str pq.2]) nl2
          refine ⟨rl, l2, _, _, rfl, rfl, s12 _ _ (s911 _ _ erl9), upd_same, ?_, fun mm nmm => ⟨two, fun tp2 ntp2 => ?_⟩⟩
          · rw [List.length_map, sizeLine_eq]
            simp only [List.length_singleton]
            omega
          have s13 := same_new (o := .lst (rooms.map V.str ++ [.str pq.2])) nmm
          have s14 := same_new (o := .tup [.ref t11, .ref mm]) ntp2
          have s914 := (s911.trans s12).trans (s13.trans s14)
          have nmm9 : H9 mm = none := was_new (s911.trans s12) nmm
          refine ⟨tp2, _, rfl, .inl (.inl upd_same), rfl, _, _, rfl, _, _, rfl, rfl, mm, t11, rooms ++ [pq.2], fnd ++ [pq.1], _, _, _, _, _, _, m09.more s914, ?_, S9.new nmm9, ?_, ?_, ?_, ?_, fun z hz => ?_, rfl⟩
          · exact rowP.tt ((TT.of s58).trans ((TT.mv S8 m9).trans (TT.of s914))) _ _ rowp5
          · rw [s14 _ _ upd_same, List.map_append]
            rfl
          · exact s14 _ _ (s13 _ _ (s12 _ _ e11))
          · rw [List.length_append, List.length_singleton]
            omega
          · rw [List.length_append, List.length_singleton]
            omega
          · rcases List.mem_append.mp hz with c | c
            · exact fsub z c
            · rw [List.mem_singleton.mp c]
              exact pinq.1
    · obtain ⟨rl, tl, rooms, fnd, y7, y8, y9, y10, y11, y12, m5, rowp5, nrl, erl, etl, lrm, lfn, fsub, rfl⟩ := hP
      have S5 := m5.se
      have lf6 : fnd.length ≤ 6 := by omega
      refine ⟨.ref dr, rfl, dr, 3, rfl, S5, by decide, fun c1 H6 c10 c11 m6 => ⟨rfl, _, rfl, ite2 (fun e => ?_) (fun e => ?_)⟩⟩
      · have m06 := m5.trans m6
        have S6 := m06.se
        have etl6 := TT.mv S5 m6 _ _ etl
        have pl6 := pl.mv hS m06
        refine ⟨.ref t, rfl, t, b, rfl, pl6.at_, fun H7 ln s7 nln eln => ?_⟩
        have m07 := m06.more s7
        have S7 := m07.se
        have nln7 : ln ≠ dr := S6.new nln
        refine ⟨.ref dr, rfl, .ref tl, rfl, tl, _, rfl, .inr (.inl (.inl (s7 _ _ etl6))), _, _, rfl, rfl, dr, _, rfl, S7, by omega, fun at0 H8 a00 a01 m8 => ⟨_, _, rfl, ?_⟩⟩
        have m08 := m07.trans m8
        have S8 := m08.se
        have etl8 := TT.mv S7 m8 _ _ (s7 _ _ etl6)
        have eln8 := m8.sx _ _ eln nln7
        refine ⟨.ref tl, rfl, .int at0, rfl, at0, rfl, tl, _, rfl, etl8, fun pA H9 s9 e9 => ?_⟩
        obtain ⟨ysA, eA, lA, subA⟩ := cut_sub fnd none (some at0)
        rw [eA] at e9
        have d1 := bok.d1
        have ldn : ((b.doors.map (·.1)).map V.str).length = b.doors.length := by rw [List.length_map, List.length_map]
        have S9 := S8.same s9
        refine ⟨.ref ln, rfl, .ref dr, rfl, .ref ln, rfl, ln, _, rfl, .inl (.inl (.inl (s9 _ _ eln8))), dr, _, rfl, S9, by rw [ldn]; omega, fun j1 H10 j10 j11 m10 => ?_⟩
        rw [ldn] at j11
        obtain ⟨zn, hzn, _, azn⟩ := at_str (rs := b.doors.map (·.1)) j10 (by rw [List.length_map]; exact j11)
        refine ⟨ln, _, j1, .str zn, rfl, rfl, .inl (.inl (m10.sx _ _ (s9 _ _ eln8) nln7)), azn, one, fun pB npB => ?_⟩
        have s11 := same_new (o := .tup [.str zn]) npB
        have e10 := TT.mv S9 m10 _ _ e9
        refine cat_tup (zs := [zn]) (s11 _ _ e10) upd_same (by rw [List.length_singleton]; omega) fun H12 pC s12 eC => ?_
        have s1012 := s11.trans s12
        have S10 : DrE H10 dr := m10.se
        have S12 := S10.same s1012
        have etl12 := s1012 _ _ (TT.mv S9 m10 _ _ (s9 _ _ etl8))
        refine ⟨.ref tl, rfl, .int at0, rfl, .ref dr, rfl, dr, 2, rfl, S12, by decide, fun k0 H13 k00 k01 m13 => ⟨_, _, rfl, rfl, _, rfl, tl, _, rfl, TT.mv S12 m13 _ _ etl12, fun pD H14 s14 e14 => ?_⟩⟩
        obtain ⟨ysD, eDd, lD, subD⟩ := cut_sub fnd (some (at0 + k0)) none
        rw [eDd] at e14
        have eC14 := s14 _ _ (TT.mv S12 m13 _ _ eC)
        refine cat_tup (zs := ysD) eC14 e14 (by rw [List.length_append, List.length_singleton]; omega) fun H15 pE s15 eE => ?_
        refine ⟨.ref pE, rfl, q _ pE (ysA ++ [zn] ++ ysD) ?_ eE (fun z hz => ?_) ?_⟩
        · have a1 := (m08.more s9).trans m10
          have a2 := (a1.more s1012).trans m13
          exact (a2.more s14).more s15
        · rcases List.mem_append.mp hz with c | c
          · rcases List.mem_append.mp c with c | c
            · exact fsub z (subA z c)
            · rw [List.mem_singleton.mp c]
              exact hzn
          · exact fsub z (subD z c)
        · rw [List.length_append, List.length_append, List.length_singleton]
          omega
      · exact ⟨.ref tl, rfl, q _ tl fnd (m5.trans m6) (TT.mv S5 m6 _ _ etl) fsub (by omega)⟩
end
end Lw
set_option Elab.async false
set_option linter.all false
set_option maxRecDepth 100000
set_option maxHeartbeats 8000000
namespace Lw
open PySem PySem.Spec PyProof.Rows L2 TxS LkO Lk LkG
mutual
theorem eqv_self : ∀ d : PyData, PyData.canLay0 d = true → PyData.eqv d d = true
  | .none, _ => by simp [PyData.eqv]
  | .bool _, _ => by simp [PyData.eqv]
  | .int _, _ => by simp [PyData.eqv]
  | .str _, _ => by simp [PyData.eqv]
  | .list xs, h => by
    rw [PyData.eqv]
    exact eqvAll_self xs (by simpa [PyData.canLay0] using h)
  | .tuple xs, h => by
    rw [PyData.eqv]
    exact eqvAll_self xs (by simpa [PyData.canLay0] using h)
  | .dict _, h => by simp [PyData.canLay0] at h
theorem eqvAll_self : ∀ ds : List PyData, PyData.canLayAll0 ds = true → PyData.eqvAll ds ds = true
  | [], _ => by simp [PyData.eqvAll]
  | d :: r, h => by
    simp only [PyData.canLayAll0, Bool.and_eq_true] at h
    simp only [PyData.eqvAll, eqv_self d h.1, eqvAll_self r h.2, Bool.and_self]
end
theorem ne_self {d : PyData} (h : SeqAt.shaped d = true) : (!PyData.eqv d d) = false := by
  have h2 : (PyData.canLay0 d && decide (PyData.depth d ≤ 64)) = true := h
  rw [Bool.and_eq_true] at h2
  rw [eqv_self d h2.1]
  rfl
theorem rch_le {b : BldD} {p : PersonD} {ls ms : List Str} (h : ∀ z, z ∈ ms → z ∈ ls) {z : Str} (r : Rch b p ls z) : Rch b p ms z := by
  induction r with
  | start => exact .start
  | free a n k w _ ih => exact .free a (fun e => n (h _ e)) k w ih
  | got a n k c w _ ih => exact .got a (fun e => n (h _ e)) k c w ih
  | found a n k l w _ _ ih1 ih2 => exact .found a (fun e => n (h _ e)) k l w ih1 ih2
theorem rch_same {b : BldD} {p : PersonD} {ls ms : List Str} (h : ∀ z, z ∈ ls ↔ z ∈ ms) {z : Str} : Rch b p ls z ↔ Rch b p ms z := ⟨rch_le fun z => (h z).2, rch_le fun z => (h z).1⟩
theorem neV {x y : V} (h : x = y) : (!decide (x = y)) = false := by
  rw [decide_eq_true h]
  rfl
/-! ### what stands while numbers are drawn -/
section
variable {K : PySem.W.Frag} {dr : Addr} {H H' : Hp}
theorem mv_lk {C a : Addr} {zs : List Str} (h : LkAt C H a zs) (hS : DrE H dr) (m : Mw dr H H') : LkAt C H' a zs := by
  obtain ⟨⟨dx, t, h1, h2⟩, h3, h4⟩ := h
  exact ⟨⟨dx, t, m.at_ hS h1 (fun _ z => by cases z), m.at_ hS h2 (fun _ z => by cases z)⟩, h3, h4⟩
theorem mv_door {C : Addr} (hS : DrE H dr) (m : Mw dr H H') (v : V) (d : DoorD) (h : doorR C H v d) : doorR C H' v d := by
  obtain ⟨x, e, ⟨dx, o⟩, ok⟩ := h
  exact ⟨x, e, ⟨dx, m.at_ hS o (fun _ z => by cases z)⟩, ok⟩
theorem mv_pers {C : Addr} (hS : DrE H dr) (m : Mw dr H H') (v : V) (d : PersonD) (h : persR K C H v d) : persR K C H' v d := by
  obtain ⟨x, e, ⟨dx, t1, t2, t3, o, g1, g2, g3⟩, ok⟩ := h
  exact ⟨x, e, ⟨dx, t1, t2, t3, m.at_ hS o (fun _ z => by cases z), m.tup hS g1, m.tup hS g2, m.tup hS g3⟩, ok⟩
theorem mv_bld {CD CP CB x : Addr} {b : BldD} (h : BldAt K CD CP CB H x b) (hS : DrE H dr) (m : Mw dr H H') : BldAt K CD CP CB H' x b := by
  obtain ⟨⟨dx, r, k, dn, dd, pn, pd, ok, od, op, kvs, ds, ps, i⟩, hok⟩ := h
  exact ⟨⟨dx, r, k, dn, dd, pn, pd, ok, od, op, kvs, ds, ps, ⟨m.at_ hS i.ob (fun _ z => by cases z), m.tup hS i.rooms, m.at_ hS i.keys (fun _ z => by cases z), i.keysT, m.tup hS i.dn, m.at_ hS i.doors (fun _ z => by cases z), i.doorsT.mono (mv_door hS m), m.tup hS i.pn, m.at_ hS i.people (fun _ z => by cases z), i.peopleT.mono (mv_pers hS m)⟩⟩, hok⟩
end
end Lw
set_option Elab.async false
set_option linter.all false
set_option maxRecDepth 100000
set_option maxHeartbeats 4000000
namespace Lw
open PySem PySem.Spec PyProof.Rows L2 TxS LkO Lk
/-- what a set of doors must do -/
def RightS (b : BldD) (ls : List Str) : Prop := ∀ q ∈ b.people, (∀ u ∈ q.2.needs, Rch b q.2 ls u) ∧ ∀ u ∈ q.2.shuns, ¬ Rch b q.2 ls u
section
variable {P : Program} {w : World} {K : PySem.W.Frag} {mg : Str → Option Value} {base : Heap}
def spLRight (K : PySem.W.Frag) : Sp := fun vs H Q _ => ∃ (t lk : Addr) (b : BldD) (ls : List Str), vs = [.ref t, .ref lk] ∧ PlAt H t b ∧ SqT K H lk (ls.map V.str) ∧ ∀ H' (c : Bool), Same H H' → (c = true ↔ RightS b ls) → Q (.bl c) H'
abbrev nLR : List Str := ["_law_plan", "_law_locked", "_law_name", "_law_start", "_law_keys", "_law_wants", "_law_bans", "_law_rooms", "_law_room"]
theorem scLR : FnScope nLR ["_law_plan", "_law_locked"] (defScope s__law_is_right) := ⟨rfl, rfl, rfl, by decide +kernel, rfl, by decide +kernel, by decide +kernel⟩
theorem ok_lright {f : Addr} {fd : FuncData} (F : Fun K "_law_is_right" "_law_is_right" s__law_is_right f fd) (B : Blt mg) (GR : Fn P w K mg base 2 "_law_reach" ["_law_plan", "_law_name", "_law_locked"] (spLReach K)) : FnOk P w K mg base CX0 3 f fd ["_law_plan", "_law_locked"] (spLRight K) := by
  refine F.ok scLR (fun vs H Q E h => ?_) (fun cdv A outer s H vs Q E hr h => ?_)
  · obtain ⟨t, lk, b, ls, rfl, _⟩ := h
    rfl
  · obtain ⟨t, lk, b, ls, rfl, hb, hl, q⟩ := h
    obtain ⟨⟨r, k, dd, pd, kas, das, pas, I⟩, bok⟩ := id hb
    refine ⟨_, pss_cons (ps_for PassesOwn.never rfl (pi_list (pe_ix ix_tup (pv 0) pe_int (fun _ _ => rfl))) (pg_tup rfl (pgs_cons (pg_name (i := 2) scLR.nd rfl (Or.inl rfl)) (pgs_cons (pg_name (i := 3) scLR.nd rfl (Or.inl rfl)) (pgs_cons (pg_name (i := 4) scLR.nd rfl (Or.inl rfl)) (pgs_cons (pg_name (i := 5) scLR.nd rfl (Or.inl rfl)) (pgs_cons (pg_name (i := 6) scLR.nd rfl (Or.inl rfl)) pgs_nil))))))
        (pss_cons (ps_set (i := 7) scLR.nd rfl (.inr rfl) (pe_fn GR hr (by rfl) (pa_cons (pv 0) (pa_cons (pv 2) (pa_cons (pv 1) pa_nil)))))
        (pss_one (ps_if (pw_or (pt_not (pt_val (pe_callB (cr_all rfl) (by rfl) B.all PyProof.Rows.boot_all (pa_cons (pe_lc (own := [("_law_room", 8)]) (g := gName 8) (tt := tYes) (te := tOp (rIn K false) (tVar 8) (tVar 7)) rfl scLR.nd (pi_tup (pv 5)) (blkOk_by (N := nLR) (sc := defScope s__law_is_right) (by decide +kernel))
          (fun _ _ _ _ _ => pg_name (i := 8) scLR.nd rfl (Or.inl rfl)) (fun _ _ _ _ _ => pts_nil) (fun _ _ _ _ _ => pe_cmpR op_in_seq (pv 8) (pv 7) rfl)) pa_nil)))) (pw_or1 (pt_val (pe_callB (cr_any rfl) (by rfl) B.any PyProof.Rows.boot_any (pa_cons (pe_lc (own := [("_law_room", 8)]) (g := gName 8) (tt := tYes) (te := tOp (rIn K false) (tVar 8) (tVar 7)) rfl scLR.nd (pi_tup (pv 6)) (blkOk_by (N := nLR) (sc := defScope s__law_is_right) (by decide +kernel))
          (fun _ _ _ _ _ => pg_name (i := 8) scLR.nd rfl (Or.inl rfl)) (fun _ _ _ _ _ => pts_nil) (fun _ _ _ _ _ => pe_cmpR op_in_seq (pv 8) (pv 7) rfl)) pa_nil))))).pt (pss_one (ps_ret pe_bl)) pss_nil))))
      (pss_one (ps_ret pe_bl)), ?_⟩
    refine ⟨.ref t, rfl, t, _, 3, _, rfl, rfl, .inl (.inl I.ob), rfl, pd, rfl, ⟨_, .inl (.inl I.people)⟩, for_it (walk_list (xs := pas.map V.ref)) (fun i σ H' => Same H H' ∧ (∀ q ∈ b.people.take i, (∀ u ∈ q.2.needs, Rch b q.2 ls u) ∧ ∀ u ∈ q.2.shuns, ¬ Rch b q.2 ls u) ∧ ∃ y2 y3 y4 y5 y6 y7, σ = [some (.ref t), some (.ref lk), y2, y3, y4, y5, y6, y7, none]) ⟨Same.refl _, fun q hq => by simp at hq, none, none, none, none, none, none, rfl⟩ (fun i σ H' _ hP => .inl (.inl (hP.1 _ _ I.people))) (fun i v σ H5 H6 hi hP hY => ?_) (fun σ H5 hP => ?_)⟩
    · obtain ⟨rfl, hv⟩ := hY
      obtain ⟨s5, hall, y2, y3, y4, y5, y6, y7, rfl⟩ := hP
      obtain ⟨tr, htr, rfl⟩ := at_map hv
      obtain ⟨nd, hg, ⟨t1, t2, t3, row, h1, h2, h3⟩⟩ := pair_at I.peopleT htr
      have hm := List.mem_of_getElem? hg
      obtain ⟨_, pok, _, _, inN, inS⟩ := bok.people nd hm
      refine ⟨tr, _, rfl, .inl (.inl (s5 _ _ row)), rfl, _, _, rfl, _, _, rfl, _, _, rfl, _, _, rfl, _, _, rfl, rfl, ?_⟩
      refine ⟨.ref t, rfl, .str nd.1, rfl, .ref lk, rfl, t, lk, b, nd.1, nd.2, ls, rfl, hb.same s5, look_at bok.pnd hm, Same.tup s5 hl, fun H7 m g s7 em hR => ?_⟩
      have s57 := s5.trans s7
      have memN : ∀ u ∈ nd.2.needs, (u ∈ b.rooms.filter g ↔ Rch b nd.2 ls u) := fun u hu => by rw [List.mem_filter, hR]; exact ⟨fun h => h.2, fun h => ⟨inN u hu, h⟩⟩
      have memS : ∀ u ∈ nd.2.shuns, (u ∈ b.rooms.filter g ↔ Rch b nd.2 ls u) := fun u hu => by rw [List.mem_filter, hR]; exact ⟨fun h => h.2, fun h => ⟨inS u hu, h⟩⟩
      generalize b.rooms.filter g = rs at em memN memS
      refine ⟨.ref t2, rfl, t2, rfl, ⟨_, .inl (.inl (s57 _ _ h2))⟩, fun D nD => lc_m (walk_tup (xs := nd.2.needs.map V.str)) nd.2.needs (fun z => .bl (decide (z ∈ rs))) (by rw [List.length_map]) nD (by have := pok.few2; omega) (fun H' s' => .inl (.inl (s' _ _ (s57 _ _ h2)))) (fun j u v H8 H9 Kt hz s8 hY kk => ?_) (fun H8 s8 eD => ?_)⟩
      · obtain ⟨rfl, hx⟩ := hY
        rw [List.getElem?_map, hz] at hx
        cases hx
        refine ⟨rfl, .str u, rfl, .ref m, rfl, m, _, rfl, .inl (.inl (.inl (s8 _ _ em))), rfl, Lk.flat_strs rs, ?_⟩
        rw [inV_str]
        exact kk _ (Same.refl _)
      · refine ⟨D, nd.2.needs.map fun z => decide (z ∈ rs), rfl, .inl (.inl (by rw [List.map_map]; exact eD)), _, rfl, ite2 (fun e1 => ?_) (fun e1 => ?_)⟩
        · -- somebody lacks a room
          refine iteT (q _ false (s57.trans s8) ⟨(fun z => by cases z), fun hh => ?_⟩)
          exfalso
          have e1 : (!((nd.2.needs.map fun z => decide (z ∈ rs)).all id)) = true := e1
          have : (nd.2.needs.map fun z => decide (z ∈ rs)).all id = true := all_yes fun z hz => decide_eq_true ((memN z hz).2 ((hh nd hm).1 z hz))
          rw [this] at e1
          cases e1
        · have e1 : (nd.2.needs.map fun z => decide (z ∈ rs)).all id = true := by
            have e1 : ¬ ((!((nd.2.needs.map fun z => decide (z ∈ rs)).all id)) = true) := e1
            simpa using e1
          have s68 := s57.trans s8
          have em8 := s8 _ _ em
          refine ⟨.ref t3, rfl, t3, rfl, ⟨_, .inl (.inl (s68 _ _ h3))⟩, fun D2 nD2 => lc_m (walk_tup (xs := nd.2.shuns.map V.str)) nd.2.shuns (fun z => .bl (decide (z ∈ rs))) (by rw [List.length_map]) nD2 (by have := pok.few3; omega) (fun H' s' => .inl (.inl (s' _ _ (s68 _ _ h3)))) (fun j u v H9 H10 Kt hz s9 hY kk => ?_) (fun H9 s9 eD2 => ?_)⟩
          · obtain ⟨rfl, hx⟩ := hY
            rw [List.getElem?_map, hz] at hx
            cases hx
            refine ⟨rfl, .str u, rfl, .ref m, rfl, m, _, rfl, .inl (.inl (.inl (s9 _ _ em8))), rfl, Lk.flat_strs rs, ?_⟩
            rw [inV_str]
            exact kk _ (Same.refl _)
          · refine ⟨D2, nd.2.shuns.map fun z => decide (z ∈ rs), rfl, .inl (.inl (by rw [List.map_map]; exact eD2)), _, rfl, ite2 (fun e2 => ?_) (fun e2 => ?_)⟩
            · refine q _ false (s68.trans s9) ⟨(fun z => by cases z), fun hh => ?_⟩
              exfalso
              rw [List.any_map, List.any_eq_true] at e2
              obtain ⟨u, hu', e3⟩ := e2
              exact (hh nd hm).2 u hu' ((memS u hu').1 (of_decide_eq_true e3))
            · refine ⟨s68.trans s9, fun q hq => ?_, _, _, _, _, _, _, rfl⟩
              rw [take_next1 hg] at hq
              rcases List.mem_append.mp hq with z | z
              · exact hall q z
              · rw [List.mem_singleton.mp z]
                refine ⟨fun u hu' => (memN u hu').1 (of_decide_eq_true ?_), fun u hu' hr' => e2 ?_⟩
                · rw [List.all_map, List.all_eq_true] at e1
                  exact e1 u hu'
                · rw [List.any_map, List.any_eq_true]
                  exact ⟨u, hu', decide_eq_true ((memS u hu').2 hr')⟩
    · obtain ⟨s5, hall, y2, y3, y4, y5, y6, y7, rfl⟩ := hP
      rw [List.length_map, Paired.length I.peopleT, List.take_length] at hall
      exact q _ true s5 ⟨fun _ => hall, fun _ => rfl⟩
end
end Lw
set_option Elab.async false
set_option linter.all false
set_option maxRecDepth 100000
set_option maxHeartbeats 4000000
namespace Lk
open PySem PySem.Spec PyProof.Rows L2 TxS LkO LkG
section
variable {P : Program} {w : World} {K : PySem.W.Frag} {mg : Str → Option Value} {base : Heap} {CD CP CB CL : Addr}
/-! ### check_building -/
def spChkB (CB : Addr) : Sp := fun vs H Q _ => ∃ (a dx : Addr) (fs : List (Str × V)), vs = [.ref a] ∧ H a = some (.ins CB dx fs) ∧ Q .non H
theorem scChkB : FnScope ["building"] ["building"] (defScope s_check_building) := ⟨rfl, rfl, rfl, by decide +kernel, rfl, by decide +kernel, by decide +kernel⟩
theorem ok_chkB {f : Addr} {fd : FuncData} {k : Nat} (F : Fun K "check_building" "check_building" s_check_building f fd) (B : Blt mg) (T : OwnC K mg CB "Building" bldF) : FnOk P w K mg base CX0 (k + 1) f fd ["building"] (spChkB CB) := by
  refine F.ok scChkB (fun vs H Q E h => ?_) (fun cdv A outer s H vs Q E hr h => ?_)
  · obtain ⟨a, dx, fs, rfl, _⟩ := h
    rfl
  · obtain ⟨a, dx, fs, rfl, ha, q⟩ := h
    refine ⟨_, pss_one (ps_if (pt_not (pt_val (pe_callB call_isi (by rfl) B.isi PyProof.Rows.boot_isinstance (pa_cons (pv 0) (pa_cons (pe_glob (v := .ref CB) (by rfl) T.mgC rfl) pa_nil))))) (pss_one ps_never) pss_nil), ?_⟩
    exact ⟨.ref a, rfl, .ref a, .ref CB, _, _, true, rfl, .own CB, .base (.ins ha T.cl T.tyc T.tyg T.tyt T.tym), T.kit, true, rfl, iteF q⟩
end
end Lk
set_option Elab.async false
set_option linter.all false
set_option maxRecDepth 100000
set_option maxHeartbeats 4000000
namespace Lk
open PySem PySem.Spec PyProof.Rows L2 TxS LkO LkG
section
variable {P : Program} {w : World} {K : PySem.W.Frag} {mg : Str → Option Value} {base : Heap} {CD CP CB CL : Addr}
/-! ### are_doors_of -/
def areDoors (b : BldD) (zs : List Str) : Bool := zs.all fun z => isNm z && decide (z ∈ b.doors.map (·.1))
def spDoorsOf (K : PySem.W.Frag) (CD CP CB : Addr) : Sp := fun vs H Q _ => ∃ (x t : Addr) (b : BldD) (zs : List Str), vs = [.ref x, .ref t] ∧ BldAt K CD CP CB H x b ∧ SqT K H t (zs.map V.str) ∧ zs.length ≤ 1000 ∧ (∀ z ∈ zs, z.length ≤ sizeLine) ∧ ∀ H', Same H H' → Q (.bl (areDoors b zs)) H'
theorem areDoors_yes {b : BldD} (ok : b.ok) {zs : List Str} (h : ∀ z ∈ zs, z ∈ b.doors.map (·.1)) : areDoors b zs = true := by
  unfold areDoors
  refine List.all_eq_true.mpr fun z hz => ?_
  obtain ⟨q, hq, rfl⟩ := List.mem_map.mp (h z hz)
  rw [(ok.doors _ hq).1, decide_eq_true (h _ hz)]
  rfl
theorem door_line {b : BldD} (ok : b.ok) {zs : List Str} (h : ∀ z ∈ zs, z ∈ b.doors.map (·.1)) : ∀ z ∈ zs, z.length ≤ sizeLine := fun z hz => by
  obtain ⟨q, hq, rfl⟩ := List.mem_map.mp (h z hz)
  exact nm_line (ok.doors _ hq).1
theorem scDoorsOf : FnScope ["building", "names", "name"] ["building", "names"] (defScope s_are_doors_of) := ⟨rfl, rfl, rfl, by decide +kernel, rfl, by decide +kernel, by decide +kernel⟩
theorem ok_doorsOf {f : Addr} {fd : FuncData} (F : Fun K "are_doors_of" "are_doors_of" s_are_doors_of f fd) (B : Blt mg) (T : OwnC K mg CB "Building" bldF) (GN : Fn P w K mg base 1 "is_name" ["value"] spName)
    (PD : Pr P w K mg base 1 CB "doors" (spBDoors K CD CP CB)) : FnOk P w K mg base CX0 3 f fd ["building", "names"] (spDoorsOf K CD CP CB) := by
  refine F.ok scDoorsOf (fun vs H Q E h => ?_) (fun cdv A outer s H vs Q E hr h => ?_)
  · obtain ⟨x, t, b, zs, rfl, _⟩ := h
    rfl
  · obtain ⟨x, t, b, zs, rfl, hb, ht, few, lens, q⟩ := h
    obtain ⟨⟨dx, r, k, dn, dd, pn, pd, ok, od, op, kvs, ds, ps, I⟩, bok⟩ := id hb
    refine ⟨_, pss_one (ps_ret (pe_and (pe_callB call_isi (by rfl) B.isi PyProof.Rows.boot_isinstance (pa_cons (pv 1) (pa_cons (pe_bltn (v := .ty "tuple") (by rfl) B.tup PyProof.Rows.boot_tuple rfl) pa_nil)))
      (pe_one (pe_callB (cr_all rfl) (by rfl) B.all PyProof.Rows.boot_all (pa_cons (pe_lc (own := [("name", 2)]) (g := gName 2) (tt := tYes) (te := tAndV (tCall spName [] E0 (tCons (tVar 2) tNil)) (tOp (rIn K false) (tVar 2) (tProp CB (spBDoors K CD CP CB) [] E0 (tVar 0)))) rfl scDoorsOf.nd (pi_tup (pv 1)) (blkOk_by (N := ["building", "names", "name"]) (sc := defScope s_are_doors_of) (by decide +kernel))
        (fun _ _ _ _ _ => pg_name (i := 2) scDoorsOf.nd rfl (Or.inl rfl)) (fun _ _ _ _ _ => pts_nil) (fun _ _ _ _ _ => pe_and (pe_fn GN (hr.mono (by decide)) (by rfl) (pa_cons (pv 2) pa_nil)) (pe_one (pe_cmpR (r := rIn K false) op_in_seq (pv 2) (pe_pr PD hr T.cl (pv 0) rfl) rfl)))) pa_nil))))), ?_⟩
    refine ⟨.ref t, rfl, .ref t, .ty "tuple", _, _, true, rfl, .ty _, ty_tup ht, kit_ty (by decide +kernel), true, rfl, iteT ?_⟩
    refine ⟨.ref t, rfl, t, rfl, ⟨_, ht⟩, fun D nD => lc_m (walk_tup (xs := zs.map V.str)) zs (fun z => .bl (isNm z && decide (z ∈ b.doors.map (·.1)))) (by rw [List.length_map]) nD few (fun H' s => Same.tup s ht) (fun i z v H2 H3 Kt hz s2 hY k => ?_) (fun H2 s2 e => ?_)⟩
    · obtain ⟨rfl, hx⟩ := hY
      rw [List.getElem?_map, hz] at hx
      cases hx
      refine ⟨rfl, .str z, rfl, z, rfl, lens z (List.mem_of_getElem? hz), fun H4 s4 => ⟨_, rfl, ite2 (fun t1 => ?_) (fun t1 => ?_)⟩⟩
      · have s24 := s2.trans s4
        refine ⟨.str z, rfl, .ref x, rfl, x, dx, _, rfl, s24 _ _ I.ob, x, b, rfl, hb.same s24, fun l nl => ⟨l, _, rfl, .inl (.inl (.inl upd_same)), rfl, flat_strs _, ?_⟩⟩
        rw [inV_str]
        have k2 := k _ (s4.trans (same_new (o := .lst ((b.doors.map (·.1)).map V.str)) nl))
        rw [t1, Bool.true_and] at k2
        exact k2
      · have k2 := k _ s4
        rw [Bool.eq_false_iff.mpr t1, Bool.false_and] at k2
        exact k2
    · refine ⟨D, zs.map fun z => isNm z && decide (z ∈ b.doors.map (·.1)), rfl, .inl (.inl (by rw [List.map_map]; exact e)), ?_⟩
      rw [List.all_map]
      exact q _ s2
end
end Lk
set_option Elab.async false
set_option linter.all false
set_option maxRecDepth 100000
set_option maxHeartbeats 4000000
namespace Lk
open PySem PySem.Spec PyProof.Rows L2 TxS LkO LkG
/-! ### the reach as a list -/
def reachL (b : BldD) (p : PersonD) (ls : List Str) : List Str := (roomsOf b p ls (trailOf b p ls)).getD []
theorem mem_reachL {b : BldD} (ok : b.ok) {p : PersonD} {ls : List Str} {z : Str} : z ∈ reachL b p ls ↔ Rch b p ls z := by
  obtain ⟨R, e, by0⟩ := trail_rooms (p := p) (ls := ls) ok 6 [p.a] (left_le b ok _)
  have hP := path_of _ _ Path.one e
  unfold reachL
  rw [show roomsOf b p ls (trailOf b p ls) = some R from e]
  exact ⟨hP.rch z, beyond_done hP.st by0⟩
/-! ### doubts -/
def wordOf (th : Bool) : Str := if th = true then "through" else "shut"
def thrOf (b : BldD) (p : PersonD) (tr : List Str) : Bool := match roomsOf b p [] tr with
  | none => false
  | some R => R.any fun z => decide (z ∈ p.shuns)
def inOrder (b : BldD) (tr : List Str) : List Str := (b.doors.map (·.1)).filter fun z => decide (z ∈ tr)
def shutOf (b : BldD) (p : PersonD) (tr : List Str) : Bool := decide (tr = inOrder b tr) && !(p.needs.all fun z => decide (z ∈ reachL b p (srt tr)))
def dbtOf (b : BldD) (p : PersonD) (th : Bool) (tr : List Str) : Bool := if th = true then thrOf b p tr else shutOf b p tr
def strikeOf (th : Bool) (tr ls : List Str) : Bool := if th = true then !(tr.any fun z => decide (z ∈ ls)) else tr.all fun z => decide (z ∈ ls)
/-- a tuple in the form of a doubt -/
structure DbtAt (K : PySem.W.Frag) (H : Hp) (x : Addr) (th : Bool) (n : Str) (tr : List Str) : Prop where
  ex : ∃ t, SqT K H x [.str (wordOf th), .str n, .ref t] ∧ SqT K H t (tr.map V.str)
theorem DbtAt.same {K : PySem.W.Frag} {H H' : Hp} {x : Addr} {th : Bool} {n : Str} {tr : List Str} (h : DbtAt K H x th n tr) (s : Same H H') : DbtAt K H' x th n tr := let ⟨t, h1, h2⟩ := h.ex; ⟨t, Same.tup s h1, Same.tup s h2⟩
structure Words (mg : Str → Option Value) : Prop where
  th : ∃ t, mg "THROUGH" = some (.str "through" t)
  sh : ∃ t, mg "SHUT" = some (.str "shut" t)
structure MkLs (P : Program) (w : World) (K : PySem.W.Frag) (mg : Str → Option Value) (base : Heap) (C : Addr) : Prop where
  ex : ∃ f, Mk K C f ∧ FnR P w K mg base CX0 2 f (spNew C)
section
variable {P : Program} {w : World} {K : PySem.W.Frag} {mg : Str → Option Value} {base : Heap} {CD CP CB CL : Addr}
/-! ### has_doubt_form, check_doubt -/
def OkDbt (b : BldD) (n : Str) (p : PersonD) (tr : List Str) : Prop := b.people.lookup n = some p ∧ tr.length ≤ 1000 ∧ ∀ z ∈ tr, z ∈ b.doors.map (·.1)
def spForm (K : PySem.W.Frag) (CD CP CB : Addr) : Sp := fun vs H Q _ => ∃ (x d : Addr) (b : BldD) (th : Bool) (n : Str) (p : PersonD) (tr : List Str), vs = [.ref x, .ref d] ∧ BldAt K CD CP CB H x b ∧ DbtAt K H d th n tr ∧ OkDbt b n p tr ∧ ∀ H', Same H H' → Q (.bl true) H'
abbrev nForm : List Str := ["building", "doubt"]
theorem scForm : FnScope nForm ["building", "doubt"] (defScope s_has_doubt_form) := ⟨rfl, rfl, rfl, by decide +kernel, rfl, by decide +kernel, by decide +kernel⟩
theorem ok_form {f : Addr} {fd : FuncData} (F : Fun K "has_doubt_form" "has_doubt_form" s_has_doubt_form f fd) (B : Blt mg) (W : Words mg) (T : OwnC K mg CB "Building" bldF) (GN : Fn P w K mg base 1 "is_name" ["value"] spName)
    (PP : Pr P w K mg base 1 CB "people" (spBPeople K CD CP CB)) (GD : Fn P w K mg base 3 "are_doors_of" ["building", "names"] (spDoorsOf K CD CP CB)) : FnOk P w K mg base CX0 4 f fd ["building", "doubt"] (spForm K CD CP CB) := by
  obtain ⟨tt, eT⟩ := W.th
  obtain ⟨ts, eS⟩ := W.sh
  refine F.ok scForm (fun vs H Q E h => ?_) (fun cdv A outer s H vs Q E hr h => ?_)
  · obtain ⟨x, d, b, th, n, p, tr, rfl, _⟩ := h
    rfl
  · obtain ⟨x, d, b, th, n, p, tr, rfl, hb, hd, ⟨hn, few, sub⟩, q⟩ := h
    have hr1 := hr.mono (show 1 ≤ 3 by decide)
    have hr2 := hr.mono (show 2 ≤ 3 by decide)
    refine ⟨_, (pss_one (ps_ret (pe_and (pe_callB call_isi (by rfl) B.isi PyProof.Rows.boot_isinstance (pa_cons (pv 1) (pa_cons (pe_bltn (v := .ty "tuple") (by rfl) B.tup PyProof.Rows.boot_tuple rfl) pa_nil))) (pe_and (pe_cmpR op_eq (pe_callB call_len_seq (by rfl) B.len PySem.boot_len (pa_cons (pv 1) pa_nil)) pe_int (nomark _)) (pe_and (pe_callB call_isi (by rfl) B.isi PyProof.Rows.boot_isinstance (pa_cons (pe_ix ix_tup (pv 1) pe_int (fun _ _ => rfl)) (pa_cons (pe_bltn (v := .ty "str") (by rfl) B.str PyProof.Rows.boot_str rfl) pa_nil))) (pe_and (pe_cmpR (r := (rIn K false)) op_in_seq (pe_ix ix_tup (pv 1) pe_int (fun _ _ => rfl)) (pe_tup (pa_cons (pe_glob (v := .str "through") (by rfl) eT ⟨_, rfl⟩) (pa_cons (pe_glob (v := .str "shut") (by rfl) eS ⟨_, rfl⟩) pa_nil))) rfl) (pe_and (pe_fn GN hr1 (by rfl) (pa_cons (pe_ix ix_tup (pv 1) pe_int (fun _ _ => rfl)) pa_nil)) (pe_and (pe_cmpR (r := (rIn K false)) op_in_seq (pe_ix ix_tup (pv 1) pe_int (fun _ _ => rfl)) (pe_pr PP hr2 T.cl (pv 0) rfl) rfl) (pe_one (pe_fn GD hr (by rfl) (pa_cons (pv 0) (pa_cons (pe_ix ix_tup (pv 1) pe_int (fun _ _ => rfl)) pa_nil)))))))))))), ?_⟩
    obtain ⟨⟨dx, r, k, dn, dd, pn, pd, ok, od, op, kvs, ds, ps, I⟩, bok⟩ := id hb
    obtain ⟨t, h1, h2⟩ := hd.ex
    have nm : isNm n = true := (bok.people _ (look_mem hn)).1
    refine ⟨.ref d, rfl, .ref d, .ty "tuple", _, _, true, rfl, .ty _, ty_tup h1, kit_ty (by decide +kernel), true, rfl, iteT ?_⟩
    refine ⟨.ref d, rfl, d, _, rfl, .inr h1, rfl, true, rfl, iteT ?_⟩
    refine ⟨.ref d, rfl, d, _, 0, _, rfl, rfl, h1, rfl, .str (wordOf th), .ty "str", _, _, true, rfl, .ty _, .base (.str _), kit_ty (by decide +kernel), true, rfl, iteT ?_⟩
    refine ⟨.ref d, rfl, d, _, 0, _, rfl, rfl, h1, rfl, by show 2 ≤ sizeLine; rw [sizeLine_eq]; decide, fun t2 nt2 => ?_⟩
    have s1 := same_new (o := .tup [.str "through", .str "shut"]) nt2
    refine ⟨t2, _, rfl, .inr (.inl (.inl upd_same)), rfl, rfl, true, ?_, iteT ?_⟩
    · cases th <;> rfl
    have h11 := Same.tup s1 h1
    refine ⟨.ref d, rfl, d, _, 1, _, rfl, rfl, h11, rfl, n, rfl, nm_line nm, fun H2 s2 => ⟨true, by rw [nm], iteT ?_⟩⟩
    have s12 := s1.trans s2
    have h12 := Same.tup s12 h1
    refine ⟨.ref d, rfl, d, _, 1, _, rfl, rfl, h12, rfl, .ref x, rfl, x, dx, _, rfl, s12 _ _ I.ob, x, b, rfl, hb.same s12, fun l nl => ⟨l, _, rfl, .inl (.inl (.inl upd_same)), rfl, flat_strs _, true, ?_, iteT ?_⟩⟩
    · have hin : n ∈ b.people.map (·.1) := List.mem_map.mpr ⟨(n, p), look_mem hn, rfl⟩
      show V.bl (inV (.str n) _) = _
      rw [inV_str, decide_eq_true hin]
    have s13 := s12.trans (same_new (o := .lst ((b.people.map (·.1)).map V.str)) nl)
    refine ⟨.ref x, rfl, .ref d, rfl, d, _, 2, _, rfl, rfl, Same.tup s13 h1, rfl, x, t, b, tr, rfl, hb.same s13, Same.tup s13 h2, few, door_line bok sub, fun H4 s4 => ?_⟩
    rw [areDoors_yes bok sub]
    exact q _ (s13.trans s4)
def spChkD (K : PySem.W.Frag) (CD CP CB : Addr) : Sp := fun vs H Q _ => ∃ (x d : Addr) (b : BldD) (th : Bool) (n : Str) (p : PersonD) (tr : List Str), vs = [.ref x, .ref d] ∧ BldAt K CD CP CB H x b ∧ DbtAt K H d th n tr ∧ OkDbt b n p tr ∧ ∀ H', Same H H' → Q .non H'
abbrev nChkD : List Str := ["building", "doubt"]
theorem scChkD : FnScope nChkD ["building", "doubt"] (defScope s_check_doubt) := ⟨rfl, rfl, rfl, by decide +kernel, rfl, by decide +kernel, by decide +kernel⟩
theorem ok_chkD {f : Addr} {fd : FuncData} (F : Fun K "check_doubt" "check_doubt" s_check_doubt f fd) (GF : Fn P w K mg base 4 "has_doubt_form" ["building", "doubt"] (spForm K CD CP CB)) : FnOk P w K mg base CX0 5 f fd ["building", "doubt"] (spChkD K CD CP CB) := by
  refine F.ok scChkD (fun vs H Q E h => ?_) (fun cdv A outer s H vs Q E hr h => ?_)
  · obtain ⟨x, d, b, th, n, p, tr, rfl, _⟩ := h
    rfl
  · obtain ⟨x, d, b, th, n, p, tr, rfl, hb, hd, ho, q⟩ := h
    refine ⟨_, (pss_one (ps_if (pt_not (pt_val (pe_fn GF hr (by rfl) (pa_cons (pv 0) (pa_cons (pv 1) pa_nil))))) (pss_one ps_never) pss_nil)), ?_⟩
    exact ⟨.ref x, rfl, .ref d, rfl, x, d, b, th, n, p, tr, rfl, hb, hd, ho, fun H1 s1 => ⟨true, rfl, iteF (q _ s1)⟩⟩
/-! ### leads_to_shunned -/
def spLeads (K : PySem.W.Frag) (CD CP CB : Addr) : Sp := fun vs H Q _ => ∃ (x y t : Addr) (b : BldD) (p : PersonD) (tr : List Str), vs = [.ref x, .ref y, .ref t] ∧ BldAt K CD CP CB H x b ∧ PersonAt K CP H y p ∧ SqT K H t (tr.map V.str) ∧ tr.length ≤ 1000 ∧ (∀ z ∈ tr, z ∈ b.doors.map (·.1)) ∧ ∀ H', Same H H' → Q (.bl (thrOf b p tr)) H'
abbrev nLeads : List Str := ["building", "person", "trail", "rooms", "room"]
theorem scLeads : FnScope nLeads ["building", "person", "trail"] (defScope s_leads_to_shunned) := ⟨rfl, rfl, rfl, by decide +kernel, rfl, by decide +kernel, by decide +kernel⟩
theorem rooms_len : ∀ (tr rooms : List Str) {b : BldD} {p : PersonD} {ls R : List Str}, roomsFrom b p ls rooms tr = some R → R.length = rooms.length + tr.length
  | [], _, _, _, _, _, e => by
    cases e
    rfl
  | n :: r, rooms, b, p, ls, R, e => by
    have e : (match b.doors.lookup n with | none => none | some d => match addOf b p ls rooms (n, d) with | none => none | some e => roomsFrom b p ls (rooms ++ [e]) r) = some R := e
    cases hl : b.doors.lookup n with
    | none =>
      rw [hl] at e
      cases e
    | some d =>
      rw [hl] at e
      have e : (match addOf b p ls rooms (n, d) with | none => none | some e => roomsFrom b p ls (rooms ++ [e]) r) = some R := e
      cases ha : addOf b p ls rooms (n, d) with
      | none =>
        rw [ha] at e
        cases e
      | some z =>
        rw [ha] at e
        have := rooms_len r _ e
        rw [List.length_append, List.length_singleton] at this
        rw [List.length_cons]
        omega
theorem ok_leads {f : Addr} {fd : FuncData} (F : Fun K "leads_to_shunned" "leads_to_shunned" s_leads_to_shunned f fd) (B : Blt mg) (TL : LkC K mg CL) (TP : PersT P w K mg base CP) (ML : MkLs P w K mg base CL)
    (GR : Fn P w K mg base 6 "rooms_of" ["building", "person", "locks", "trail"] (spRoomsOf K CD CP CB CL)) : FnOk P w K mg base CX0 7 f fd ["building", "person", "trail"] (spLeads K CD CP CB) := by
  obtain ⟨fI, M, GI⟩ := ML.ex
  refine F.ok scLeads (fun vs H Q E h => ?_) (fun cdv A outer s H vs Q E hr h => ?_)
  · obtain ⟨x, y, t, b, p, tr, rfl, _⟩ := h
    rfl
  · obtain ⟨x, y, t, b, p, tr, rfl, hb, hp, ht, few, sub, q⟩ := h
    have hr2 := hr.mono (show 2 ≤ 6 by decide)
    have hr3 := hr.mono (show 3 ≤ 6 by decide)
    refine ⟨_, (pss_cons (ps_set (i := 3) scLeads.nd rfl (.inl rfl) (pe_fn GR hr (by rfl) (pa_cons (pv 0) (pa_cons (pv 1) (pa_cons (pe_makeR0 (E := E0) M GI hr3 (by rfl) TL.mgC pass0) (pa_cons (pv 2) pa_nil))))))
      (pss_one (ps_ret (pe_and (pe_cmp (pc_notN (pv 3))) (pe_one (pe_callB (cr_any rfl) (by rfl) B.any PyProof.Rows.boot_any (pa_cons (pe_lc (own := [("room", 4)]) (g := (gName 4)) (tt := tYes) (te := (tOp (rIn K false) (tVar 4) (tProp CP (getSp CP "kept_shuns") [] E0 (tVar 1)))) rfl scLeads.nd  (pi_list (pv 3)) (blkOk_by (N := nLeads) (sc := defScope s_leads_to_shunned) (by decide +kernel)) (fun _ _ _ _ _ => (pg_name (i := 4) scLeads.nd rfl (Or.inl rfl))) (fun _ _ _ _ _ => pts_nil) (fun _ _ _ _ _ => (pe_cmpR (r := (rIn K false)) op_in_seq (pv 4) (pe_pr TP.shuns hr2 TP.c.cl (pv 1) rfl) rfl))) pa_nil))))))), ?_⟩
    obtain ⟨⟨dy, t1, t2, t3, h0, h1, h2, h3⟩, pok⟩ := id hp
    refine ⟨.ref x, rfl, .ref y, rfl, ?_⟩
    intro c dc nc ndc nec
    have nm0 : ∀ z ∈ ([] : List Str), isNm z = true := fun _ z => by cases z
    refine ⟨c, dc, [], rfl, upd_same, nm0, by decide, fun H1 tz kp e1 e2 => ⟨rfl, ?_⟩⟩
    obtain ⟨s1, hc⟩ := made_at nc ndc nec nm0 kp e1 e2
    refine ⟨.ref t, rfl, x, y, c, t, b, p, [], tr, rfl, hb.same s1, hp.same s1, hc, Same.tup s1 ht, few, sub, fun e H2 s2 => ?_, fun R e H2 m s2 nm em => ?_⟩
    · have q2 := q _ (s1.trans s2)
      unfold thrOf at q2
      rw [e] at q2
      exact ⟨.non, rfl, false, rfl, iteF q2⟩
    · have s12 := s1.trans s2
      refine ⟨.ref m, rfl, true, rfl, iteT ?_⟩
      have lR := rooms_len tr _ e
      rw [List.length_singleton] at lR
      refine ⟨.ref m, rfl, m, rfl, ⟨_, .inl (.inl em)⟩, fun D nD => lc_it (walk_list (xs := R.map V.str)) (fun i H' => Grow H2 D ((R.map fun z => V.bl (decide (z ∈ p.shuns))).take i) H') (grow0 nD) (fun i H' _ hP => .inl (.inl (hP.1 _ _ em))) (fun i v H3 H4 hi hP hY => ?_) (fun H3 hP => ?_)⟩
      · obtain ⟨rfl, hx⟩ := hY
        obtain ⟨z, hz, rfl⟩ := at_map hx
        have s3 := s12.trans hP.1
        refine ⟨rfl, .str z, rfl, .ref y, rfl, y, dy, _, rfl, s3 _ _ h0, y, dy, _, _, rfl, s3 _ _ h0, (look_person p.a t1 t2 t3).2.2.2, t3, _, rfl, .inr (Same.tup s3 h3), rfl, flat_strs _, ?_⟩
        rw [inV_str]
        refine grow1 nD hP ?_ (take_next hz)
        rw [List.length_take, List.length_map, sizeLine_eq]
        omega
      · obtain ⟨s3, eD⟩ := hP
        rw [List.length_map, List.take_of_length_le (by rw [List.length_map]; exact Nat.le_refl _)] at eD
        refine ⟨D, R.map fun z => decide (z ∈ p.shuns), rfl, .inl (.inl (by rw [List.map_map]; exact eD)), ?_⟩
        have q2 := q _ (s12.trans s3)
        unfold thrOf at q2
        rw [e] at q2
        rw [List.any_map]
        exact q2
/-! ### shuts_out -/
def spShuts (K : PySem.W.Frag) (CD CP CB : Addr) : Sp := fun vs H Q _ => ∃ (x t : Addr) (b : BldD) (n : Str) (p : PersonD) (tr : List Str), vs = [.ref x, .str n, .ref t] ∧ BldAt K CD CP CB H x b ∧ b.people.lookup n = some p ∧ SqT K H t (tr.map V.str) ∧ tr.length ≤ 60 ∧ (∀ z ∈ tr, z ∈ b.doors.map (·.1)) ∧ ∀ H', Same H H' → Q (.bl (shutOf b p tr)) H'
abbrev nShuts : List Str := ["building", "name", "doors", "door"]
theorem scShuts : FnScope nShuts ["building", "name", "doors"] (defScope s_shuts_out) := ⟨rfl, rfl, rfl, by decide +kernel, rfl, by decide +kernel, by decide +kernel⟩
theorem eqv_lists (zs ws : List Str) : PyData.eqv (.list (zs.map PyData.str)) (.list (ws.map PyData.str)) = decide (zs = ws) := by
  rw [PyData.eqv]
  exact eqvAll_strs zs ws
theorem door_nm {b : BldD} (ok : b.ok) {zs : List Str} (h : ∀ z ∈ zs, z ∈ b.doors.map (·.1)) : ∀ z ∈ zs, isNm z = true := fun z hz => by
  obtain ⟨q, hq, rfl⟩ := List.mem_map.mp (h z hz)
  exact (ok.doors _ hq).1
theorem ok_shuts {f : Addr} {fd : FuncData} (F : Fun K "shuts_out" "shuts_out" s_shuts_out f fd) (B : Blt mg) (TL : LkC K mg CL) (T : OwnC K mg CB "Building" bldF) (TP : PersT P w K mg base CP) (ML : MkLs P w K mg base CL)
    (PD : Pr P w K mg base 1 CB "doors" (spBDoors K CD CP CB)) (GI' : Fn P w K mg base 1 "all_in" ["names", "known"] (spAllIn K)) (MP : Mt P w K mg base 2 CB "person" ["self", "name"] (spPersOf K CD CP CB)) (MR : Mt P w K mg base 7 CB "reach" ["self", "name", "locks"] (spReach K CD CP CB CL)) :
    FnOk P w K mg base CX0 8 f fd ["building", "name", "doors"] (spShuts K CD CP CB) := by
  obtain ⟨fI, M, GI⟩ := ML.ex
  refine F.ok scShuts (fun vs H Q E h => ?_) (fun cdv A outer s H vs Q E hr h => ?_)
  · obtain ⟨x, t, b, n, p, tr, rfl, _⟩ := h
    rfl
  · obtain ⟨x, t, b, n, p, tr, rfl, hb, hn, ht, few, sub, q⟩ := h
    have hr1 := hr.mono (show 1 ≤ 7 by decide)
    have hr2 := hr.mono (show 2 ≤ 7 by decide)
    have hr3 := hr.mono (show 3 ≤ 7 by decide)
    refine ⟨_, (pss_cons (ps_if (pt_cmpR (op_neD hr.units) (pe_callTy call_list_of (by rfl) B.lst PyProof.Rows.boot_list (pa_cons (pv 2) pa_nil)) (pe_lc (own := [("door", 3)]) (g := (gName 3)) (tt := (tTest (tOp (rIn K false) (tVar 3) (tVar 2)))) (te := (tVar 3)) rfl scShuts.nd  (pi_list (pe_pr PD hr2 T.cl (pv 0) rfl)) (blkOk_by (N := nShuts) (sc := defScope s_shuts_out) (by decide +kernel)) (fun _ _ _ _ _ => (pg_name (i := 3) scShuts.nd rfl (Or.inl rfl))) (fun _ _ _ _ _ => (pts_one (pt_cmpR (r := (rIn K false)) op_in_seq (pv 3) (pv 2) rfl))) (fun _ _ _ _ _ => (pv 3))) (nomark _)) (pss_one (ps_ret pe_bl)) pss_nil)
      (pss_one (ps_ret (pe_not (pe_fn GI' hr1 (by rfl) (pa_cons (pe_pr TP.needs hr2 TP.c.cl (pe_mt MP hr2 T.cl (pv 0) (pa_cons (pv 1) pa_nil)) rfl) (pa_cons (pe_mt MR hr T.cl (pv 0) (pa_cons (pv 1) (pa_cons (pe_makeS (E := E0) M GI hr3 (by rfl) TL.mgC pass0 (pv 2)) pa_nil))) pa_nil))))))), ?_⟩
    obtain ⟨⟨dx, r, k, dn, dd, pn, pd, ok, od, op, kvs, ds, ps, I⟩, bok⟩ := id hb
    have nmt := door_nm bok sub
    refine ⟨.ref t, rfl, t, _, rfl, .inr ht, fun l0 nl0 => ?_⟩
    have s0 := same_new (o := .lst (tr.map V.str)) nl0
    refine ⟨.ref x, rfl, x, dx, _, rfl, s0 _ _ I.ob, x, b, rfl, hb.same s0, fun l1 nl1 => ?_⟩
    have s1 := same_new (o := .lst ((b.doors.map (·.1)).map V.str)) nl1
    have s01 := s0.trans s1
    refine ⟨l1, rfl, ⟨_, .inl (.inl upd_same)⟩, fun D nD => lc_mf (walk_list (xs := (b.doors.map (·.1)).map V.str)) (b.doors.map (·.1)) (fun z => decide (z ∈ tr)) V.str (by rw [List.length_map]) nD (by rw [List.length_map]; have := bok.d8; omega) (fun H' s' => .inl (.inl (s' _ _ upd_same))) (fun i u v H3 H4 Kt Kf hz s3 hY kt kf => ?_) (fun H3 s3 eD => ?_)⟩
    · obtain ⟨rfl, hx⟩ := hY
      rw [List.getElem?_map, hz] at hx
      cases hx
      refine ⟨rfl, .str u, rfl, .ref t, rfl, t, _, rfl, .inr (Same.tup (s01.trans s3) ht), rfl, flat_strs tr, _, rfl, ?_⟩
      rw [inV_str]
      exact ite2 (fun e => ⟨.str u, rfl, kt e _ (Same.refl _)⟩) (fun e => kf (Bool.eq_false_iff.mpr e) _ (Same.refl _))
    · have s03 := s01.trans s3
      have eD' : H3 D = some (.lst ((inOrder b tr).map V.str)) := eD
      refine ⟨_, _, .lst (.inl (.inl (s3 _ _ (s1 _ _ upd_same)))) (dp_strs _), .lst (.inl (.inl eD')) (dp_strs _), shaped_strsL fun z hz => nm_ok (nmt z hz), shaped_strsL (fun z hz => nm_ok (nmt z (of_decide_eq_true (List.mem_filter.mp hz).2))), _, rfl, ?_⟩
      rw [eqv_lists]
      by_cases eo : tr = inOrder b tr
      · rw [decide_eq_true eo]
        refine iteF ?_
        refine ⟨.ref x, rfl, x, dx, _, rfl, s03 _ _ I.ob, rfl, .str n, rfl, x, b, n, p, rfl, hb.same s03, hn, fun H4 y s4 hy => ?_⟩
        obtain ⟨⟨dy, t1, t2, t3, h0, h1, h2, h3⟩, pok⟩ := id hy
        have s04 := s03.trans s4
        refine ⟨y, dy, _, rfl, h0, y, dy, _, _, rfl, h0, (look_person p.a t1 t2 t3).2.2.1, ?_⟩
        refine ⟨.ref x, rfl, x, dx, _, rfl, s04 _ _ I.ob, rfl, .str n, rfl, .ref t, rfl, t, _, rfl, .inl (Same.tup s04 ht), ?_⟩
        intro c dc nc ndc nec
        refine ⟨c, dc, tr, rfl, upd_same, nmt, by omega, fun H5 tz kp e1 e2 => ⟨rfl, ?_⟩⟩
        obtain ⟨s5, hc⟩ := made_at nc ndc nec nmt kp e1 e2
        have s05 := s04.trans s5
        refine ⟨x, c, b, n, p, srt tr, rfl, hb.same s05, hn, hc, Nat.le_trans (len_srt tr) (by omega), fun z hz => sub z ((mem_srt tr z).1 hz), fun H6 m g s6 nm hg em => ?_⟩
        have s56 := s5.trans s6
        refine ⟨t2, m, p.needs, b.rooms.filter g, rfl, by have := pok.few2; omega, Same.tup s56 h2, .inl (.inl (.inl em)), fun H7 s7 => ?_⟩
        have q2 := q _ ((s05.trans s6).trans s7)
        unfold shutOf at q2
        rw [decide_eq_true eo, Bool.true_and] at q2
        have e3 : (p.needs.all fun z => decide (z ∈ b.rooms.filter g)) = p.needs.all fun z => decide (z ∈ reachL b p (srt tr)) := by
          rw [Bool.eq_iff_iff, List.all_eq_true, List.all_eq_true]
          refine forall_congr' fun z => forall_congr' fun _ => ?_
          rw [decide_eq_true_eq, decide_eq_true_eq, List.mem_filter, hg z, mem_reachL bok]
          exact ⟨fun h => h.2, fun h => ⟨rch_in bok (look_mem hn) h, h⟩⟩
        rw [← e3] at q2
        exact ⟨_, rfl, q2⟩
      · rw [decide_eq_false eo]
        have q2 := q _ s03
        unfold shutOf at q2
        rw [decide_eq_false eo, Bool.false_and] at q2
        exact iteT q2
end
end Lk
set_option Elab.async false
set_option linter.all false
set_option maxRecDepth 100000
set_option maxHeartbeats 4000000
namespace Lk
open PySem PySem.Spec PyProof.Rows L2 TxS LkO LkG
section
variable {P : Program} {w : World} {K : PySem.W.Frag} {mg : Str → Option Value} {base : Heap} {CD CP CB CL : Addr}
/-! ### all_in of names and a set -/
def spAllInK (K : PySem.W.Frag) (CL : Addr) : Sp := fun vs H Q _ => ∃ (a c : Addr) (zs ls : List Str), vs = [.ref a, .ref c] ∧ zs.length ≤ 1000 ∧ SqT K H a (zs.map V.str) ∧ LkAt CL H c ls ∧ ∀ H', Same H H' → Q (.bl (zs.all fun z => decide (z ∈ ls))) H'
abbrev nAllK : List Str := ["names", "known", "name"]
theorem ok_allInK {f : Addr} {fd : FuncData} (F : Fun K "all_in" "all_in" s_all_in f fd) (B : Blt mg) (HL : Has P w K mg base CL) : FnOk P w K mg base CX0 2 f fd ["names", "known"] (spAllInK K CL) := by
  obtain ⟨fH, fdH, mH, bH, FH⟩ := HL.ex
  refine F.ok scAllIn (fun vs H Q E h => ?_) (fun cdv A outer s H vs Q E hr h => ?_)
  · obtain ⟨a, b, zs, ws, rfl, _⟩ := h
    rfl
  · obtain ⟨a, c, zs, ls, rfl, len, ha, hc, q⟩ := h
    refine ⟨_, pss_one (ps_ret (pe_callB (cr_all rfl) (by rfl) B.all PyProof.Rows.boot_all (pa_cons (pe_lc (own := [("name", 2)]) (g := gName 2) (tt := tYes) (te := tOp (rOwnIn CL (spHas CL) E0 false) (tVar 2) (tVar 1)) rfl scAllIn.nd (pi_tup (pv 0))
      (blkOk_by (N := nAllK) (sc := defScope s_all_in) (by decide +kernel)) (fun _ _ _ _ _ => pg_name (i := 2) scAllIn.nd rfl (Or.inl rfl)) (fun _ _ _ _ _ => pts_nil) (fun _ _ _ _ _ => pe_cmpR (op_ownIn (E := E0) mH FH hr bH pass0) (pv 2) (pv 1) rfl)) pa_nil))), ?_⟩
    obtain ⟨⟨dz, tz, hz1, hz2⟩, za, zn⟩ := id hc
    refine ⟨.ref a, rfl, a, rfl, ⟨_, ha⟩, fun D nD => lc_m (walk_tup (xs := zs.map V.str)) zs (fun z => .bl (decide (z ∈ ls))) (by rw [List.length_map]) nD len (fun H' s => Same.tup s ha) (fun i z x H2 H3 Kt hz s2 hY k => ?_) (fun H2 s2 e => ?_)⟩
    · obtain ⟨rfl, hx⟩ := hY
      rw [List.getElem?_map, hz] at hx
      cases hx
      exact ⟨rfl, .str z, rfl, .ref c, rfl, c, dz, _, rfl, s2 _ _ hz1, c, ls, z, rfl, hc.same s2, _, rfl, k _ (Same.refl _)⟩
    · refine ⟨D, zs.map fun z => decide (z ∈ ls), rfl, .inl (.inl (by rw [List.map_map]; exact e)), ?_⟩
      rw [List.all_map]
      exact q _ s2
/-! ### strikes -/
def spStrikes (K : PySem.W.Frag) (CL : Addr) : Sp := fun vs H Q _ => ∃ (d c : Addr) (th : Bool) (n : Str) (tr ls : List Str), vs = [.ref d, .ref c] ∧ DbtAt K H d th n tr ∧ tr.length ≤ 1000 ∧ LkAt CL H c ls ∧ ∀ H', Same H H' → Q (.bl (strikeOf th tr ls)) H'
abbrev nStrikes : List Str := ["doubt", "locks", "form", "name", "doors", "door"]
theorem scStrikes : FnScope nStrikes ["doubt", "locks"] (defScope s_strikes) := ⟨rfl, rfl, rfl, by decide +kernel, rfl, by decide +kernel, by decide +kernel⟩
theorem word_dec (th : Bool) : decide (V.str (wordOf th) = V.str "through") = th := by cases th <;> rfl
theorem ok_strikes {f : Addr} {fd : FuncData} (F : Fun K "strikes" "strikes" s_strikes f fd) (B : Blt mg) (W : Words mg) (HL : Has P w K mg base CL) (GA : Fn P w K mg base 2 "all_in" ["names", "known"] (spAllInK K CL)) : FnOk P w K mg base CX0 3 f fd ["doubt", "locks"] (spStrikes K CL) := by
  obtain ⟨tt, eT⟩ := W.th
  obtain ⟨fH, fdH, mH, bH, FH⟩ := HL.ex
  refine F.ok scStrikes (fun vs H Q E h => ?_) (fun cdv A outer s H vs Q E hr h => ?_)
  · obtain ⟨d, c, th, n, tr, ls, rfl, _⟩ := h
    rfl
  · obtain ⟨d, c, th, n, tr, ls, rfl, hd, few, hc, q⟩ := h
    have hr1 := hr.mono (show 1 ≤ 2 by decide)
    refine ⟨_, pss_cons (ps_asg (pv 0) (pg_tup rfl (pgs_cons (pg_name (i := 2) scStrikes.nd rfl (Or.inl rfl)) (pgs_cons (pg_name (i := 3) scStrikes.nd rfl (Or.inl rfl)) (pgs_cons (pg_name (i := 4) scStrikes.nd rfl (Or.inl rfl)) pgs_nil)))))
      (pss_cons (ps_if (pt_cmpR op_eq (pv 2) (pe_glob (v := .str "through") (by rfl) eT ⟨_, rfl⟩) (nomark _)) (pss_one (ps_ret (pe_not (pe_callB (cr_any rfl) (by rfl) B.any PyProof.Rows.boot_any (pa_cons (pe_lc (own := [("door", 5)]) (g := gName 5) (tt := tYes) (te := tOp (rOwnIn CL (spHas CL) E0 false) (tVar 5) (tVar 1)) rfl scStrikes.nd (pi_tup (pv 4))
        (blkOk_by (N := nStrikes) (sc := defScope s_strikes) (by decide +kernel)) (fun _ _ _ _ _ => pg_name (i := 5) scStrikes.nd rfl (Or.inl rfl)) (fun _ _ _ _ _ => pts_nil) (fun _ _ _ _ _ => pe_cmpR (op_ownIn (E := E0) mH FH hr1 bH pass0) (pv 5) (pv 1) rfl)) pa_nil))))) pss_nil)
      (pss_one (ps_ret (pe_fn GA hr (by rfl) (pa_cons (pv 4) (pa_cons (pv 1) pa_nil)))))), ?_⟩
    obtain ⟨t, h1, h2⟩ := hd.ex
    obtain ⟨⟨dz, tz, hz1, hz2⟩, za, zn⟩ := id hc
    refine ⟨.ref d, rfl, d, _, rfl, h1, rfl, _, _, rfl, _, _, rfl, _, _, rfl, rfl, ?_⟩
    refine ⟨_, rfl, rfl, _, rfl, ?_⟩
    rw [word_dec]
    cases th with
    | true =>
      refine iteT ?_
      refine ⟨.ref t, rfl, t, rfl, ⟨_, h2⟩, fun D nD => lc_m (walk_tup (xs := tr.map V.str)) tr (fun z => .bl (decide (z ∈ ls))) (by rw [List.length_map]) nD few (fun H' s => Same.tup s h2) (fun i z x H2 H3 Kt hz s2 hY k => ?_) (fun H2 s2 e => ?_)⟩
      · obtain ⟨rfl, hx⟩ := hY
        rw [List.getElem?_map, hz] at hx
        cases hx
        exact ⟨rfl, .str z, rfl, .ref c, rfl, c, dz, _, rfl, s2 _ _ hz1, c, ls, z, rfl, hc.same s2, _, rfl, k _ (Same.refl _)⟩
      · refine ⟨D, tr.map fun z => decide (z ∈ ls), rfl, .inl (.inl (by rw [List.map_map]; exact e)), _, rfl, ?_⟩
        rw [List.any_map]
        exact q _ s2
    | false =>
      exact iteF ⟨.ref t, rfl, .ref c, rfl, t, c, tr, ls, rfl, few, h2, hc, q⟩
/-! ### is_doubt -/
def spIsDbt (K : PySem.W.Frag) (CD CP CB : Addr) : Sp := fun vs H Q _ => ∃ (x d : Addr) (b : BldD) (th : Bool) (n : Str) (p : PersonD) (tr : List Str), vs = [.ref x, .ref d] ∧ BldAt K CD CP CB H x b ∧ DbtAt K H d th n tr ∧ OkDbt b n p tr ∧ tr.length ≤ 60 ∧ ∀ H', Same H H' → Q (.bl (dbtOf b p th tr)) H'
abbrev nIsDbt : List Str := ["building", "doubt", "form", "name", "doors"]
theorem scIsDbt : FnScope nIsDbt ["building", "doubt"] (defScope s_is_doubt) := ⟨rfl, rfl, rfl, by decide +kernel, rfl, by decide +kernel, by decide +kernel⟩
theorem ok_isDbt {f : Addr} {fd : FuncData} (F : Fun K "is_doubt" "is_doubt" s_is_doubt f fd) (W : Words mg) (T : OwnC K mg CB "Building" bldF) (GB : Fn P w K mg base 1 "check_building" ["building"] (spChkB CB)) (GC : Fn P w K mg base 5 "check_doubt" ["building", "doubt"] (spChkD K CD CP CB))
    (MP : Mt P w K mg base 2 CB "person" ["self", "name"] (spPersOf K CD CP CB)) (GL : Fn P w K mg base 7 "leads_to_shunned" ["building", "person", "trail"] (spLeads K CD CP CB)) (GS : Fn P w K mg base 8 "shuts_out" ["building", "name", "doors"] (spShuts K CD CP CB)) :
    FnOk P w K mg base CX0 9 f fd ["building", "doubt"] (spIsDbt K CD CP CB) := by
  obtain ⟨tt, eT⟩ := W.th
  refine F.ok scIsDbt (fun vs H Q E h => ?_) (fun cdv A outer s H vs Q E hr h => ?_)
  · obtain ⟨x, d, b, th, n, p, tr, rfl, _⟩ := h
    rfl
  · obtain ⟨x, d, b, th, n, p, tr, rfl, hb, hd, ho, l60, q⟩ := h
    have hr1 := hr.mono (show 1 ≤ 8 by decide)
    have hr2 := hr.mono (show 2 ≤ 8 by decide)
    have hr5 := hr.mono (show 5 ≤ 8 by decide)
    have hr7 := hr.mono (show 7 ≤ 8 by decide)
    refine ⟨_, (pss_cons (ps_expr (pe_fn GB hr1 (by rfl) (pa_cons (pv 0) pa_nil)))
      (pss_cons (ps_expr (pe_fn GC hr5 (by rfl) (pa_cons (pv 0) (pa_cons (pv 1) pa_nil))))
      (pss_cons (ps_asg (pv 1) (pg_tup rfl (pgs_cons (pg_name (i := 2) scIsDbt.nd rfl (Or.inl rfl)) (pgs_cons (pg_name (i := 3) scIsDbt.nd rfl (Or.inl rfl)) (pgs_cons (pg_name (i := 4) scIsDbt.nd rfl (Or.inl rfl)) pgs_nil)))))
      (pss_cons (ps_if (pt_cmpR op_eq (pv 2) (pe_glob (v := .str "through") (by rfl) eT ⟨_, rfl⟩) (nomark _)) (pss_one (ps_ret (pe_fn GL hr7 (by rfl) (pa_cons (pv 0) (pa_cons (pe_mt MP hr2 T.cl (pv 0) (pa_cons (pv 3) pa_nil)) (pa_cons (pv 4) pa_nil)))))) pss_nil)
      (pss_one (ps_ret (pe_fn GS hr (by rfl) (pa_cons (pv 0) (pa_cons (pv 3) (pa_cons (pv 4) pa_nil)))))))))), ?_⟩
    obtain ⟨⟨dx, r, k, dn, dd, pn, pd, ok, od, op, kvs, ds, ps, I⟩, bok⟩ := id hb
    refine ⟨.ref x, rfl, x, dx, _, rfl, I.ob, ?_⟩
    refine ⟨.ref x, rfl, .ref d, rfl, x, d, b, th, n, p, tr, rfl, hb, hd, ho, fun H1 s1 => ?_⟩
    obtain ⟨t, h1, h2⟩ := (hd.same s1).ex
    obtain ⟨hn, few, sub⟩ := ho
    refine ⟨.ref d, rfl, d, _, rfl, h1, rfl, _, _, rfl, _, _, rfl, _, _, rfl, rfl, ?_⟩
    refine ⟨_, rfl, rfl, _, rfl, ?_⟩
    rw [word_dec]
    cases th with
    | true =>
      refine iteT ⟨.ref x, rfl, .ref x, rfl, x, dx, _, rfl, s1 _ _ I.ob, rfl, .str n, rfl, x, b, n, p, rfl, hb.same s1, hn, fun H2 y s2 hy => ?_⟩
      exact ⟨.ref t, rfl, x, y, t, b, p, tr, rfl, (hb.same s1).same s2, hy, Same.tup s2 h2, few, sub, fun H3 s3 => q _ (s1.trans (s2.trans s3))⟩
    | false => exact iteF ⟨.ref x, rfl, .str n, rfl, .ref t, rfl, x, t, b, n, p, tr, rfl, hb.same s1, hn, h2, l60, sub, fun H3 s3 => q _ (s1.trans s3)⟩
end
end Lk
set_option Elab.async false
set_option linter.all false
set_option maxRecDepth 100000
set_option maxHeartbeats 8000000
namespace Lw
open PySem PySem.Spec PyProof.Rows L2 TxS LkO Lk LkG
/-! ### what doubts are good for -/
theorem add_less {b : BldD} {p : PersonD} {ls ms rs : List Str} (h : ∀ z ∈ ms, z ∈ ls) {q : Str × DoorD} {e : Str} (ha : addOf b p ls rs q = some e) : addOf b p ms rs q = some e := by
  obtain ⟨n, d⟩ := q
  obtain ⟨h1, h2, h3⟩ := add_iff.mp ha
  exact add_iff.mpr ⟨fun z => h1 (h _ z), h2, h3⟩
theorem rooms_less {b : BldD} {p : PersonD} {ls ms : List Str} (h : ∀ z ∈ ms, z ∈ ls) : ∀ (tr rs : List Str) {R : List Str}, roomsFrom b p ls rs tr = some R → roomsFrom b p ms rs tr = some R
  | [], _, _, e => e
  | n :: r, rs, R, e => by
    have e : (match b.doors.lookup n with | none => none | some d => match addOf b p ls rs (n, d) with | none => none | some e => roomsFrom b p ls (rs ++ [e]) r) = some R := e
    show (match b.doors.lookup n with | none => none | some d => match addOf b p ms rs (n, d) with | none => none | some e => roomsFrom b p ms (rs ++ [e]) r) = some R
    cases hl : b.doors.lookup n with
    | none =>
      rw [hl] at e
      cases e
    | some d =>
      rw [hl] at e
      have e : (match addOf b p ls rs (n, d) with | none => none | some e => roomsFrom b p ls (rs ++ [e]) r) = some R := e
      show (match addOf b p ms rs (n, d) with | none => none | some e => roomsFrom b p ms (rs ++ [e]) r) = some R
      cases ha : addOf b p ls rs (n, d) with
      | none =>
        rw [ha] at e
        cases e
      | some z =>
        rw [ha] at e
        rw [add_less h ha]
        exact rooms_less h r _ e
/-- a trail with no locked doors, none of whose doors is locked, is one with these doors locked -/
theorem rooms_more {b : BldD} {p : PersonD} {ls : List Str} : ∀ (tr rs : List Str) {R : List Str}, (∀ z ∈ tr, z ∉ ls) → roomsFrom b p [] rs tr = some R → roomsFrom b p ls rs tr = some R
  | [], _, _, _, e => e
  | n :: r, rs, R, hn, e => by
    have e : (match b.doors.lookup n with | none => none | some d => match addOf b p [] rs (n, d) with | none => none | some e => roomsFrom b p [] (rs ++ [e]) r) = some R := e
    show (match b.doors.lookup n with | none => none | some d => match addOf b p ls rs (n, d) with | none => none | some e => roomsFrom b p ls (rs ++ [e]) r) = some R
    cases hl : b.doors.lookup n with
    | none =>
      rw [hl] at e
      cases e
    | some d =>
      rw [hl] at e
      have e : (match addOf b p [] rs (n, d) with | none => none | some e => roomsFrom b p [] (rs ++ [e]) r) = some R := e
      show (match addOf b p ls rs (n, d) with | none => none | some e => roomsFrom b p ls (rs ++ [e]) r) = some R
      cases ha : addOf b p [] rs (n, d) with
      | none =>
        rw [ha] at e
        cases e
      | some z =>
        rw [ha] at e
        obtain ⟨_, h2, h3⟩ := add_iff.mp ha
        rw [add_iff.mpr ⟨hn n List.mem_cons_self, h2, h3⟩]
        exact rooms_more r _ (fun y hy => hn y (List.mem_cons_of_mem _ hy)) e
/-- the doors of a trail are not locked -/
theorem rooms_open {b : BldD} {p : PersonD} {ls : List Str} : ∀ (tr rs : List Str) {R : List Str}, roomsFrom b p ls rs tr = some R → ∀ z ∈ tr, z ∉ ls
  | [], _, _, _ => fun _ h => by cases h
  | n :: r, rs, R, e => by
    have e : (match b.doors.lookup n with | none => none | some d => match addOf b p ls rs (n, d) with | none => none | some e => roomsFrom b p ls (rs ++ [e]) r) = some R := e
    cases hl : b.doors.lookup n with
    | none =>
      rw [hl] at e
      cases e
    | some d =>
      rw [hl] at e
      have e : (match addOf b p ls rs (n, d) with | none => none | some e => roomsFrom b p ls (rs ++ [e]) r) = some R := e
      cases ha : addOf b p ls rs (n, d) with
      | none =>
        rw [ha] at e
        cases e
      | some z =>
        rw [ha] at e
        intro y hy
        rcases List.mem_cons.mp hy with c | c
        · rw [c]
          exact (add_iff.mp ha).1
        · exact rooms_open r _ e y c
theorem shut_iff {b : BldD} (ok : b.ok) {p : PersonD} {tr : List Str} : shutOf b p tr = true ↔ tr = inOrder b tr ∧ ∃ u ∈ p.needs, ¬ Rch b p tr u := by
  unfold shutOf
  rw [Bool.and_eq_true, decide_eq_true_eq]
  refine and_congr Iff.rfl ?_
  rw [Bool.not_eq_eq_eq_not, Bool.not_true, ← Bool.not_eq_true, List.all_eq_true]
  constructor
  · intro h
    refine Classical.byContradiction fun hn => h fun u hu => decide_eq_true ((mem_reachL ok).2 ?_)
    refine Classical.byContradiction fun hr => hn ⟨u, hu, fun hr2 => hr ((rch_same fun z => (mem_srt tr z)).2 hr2)⟩
  · rintro ⟨u, hu, hr⟩ h
    exact hr ((rch_same fun z => (mem_srt tr z)).1 ((mem_reachL ok).1 (of_decide_eq_true (h u hu))))
theorem thr_iff {b : BldD} {p : PersonD} {tr : List Str} : thrOf b p tr = true ↔ ∃ R, roomsOf b p [] tr = some R ∧ ∃ z ∈ R, z ∈ p.shuns := by
  unfold thrOf
  cases h : roomsOf b p [] tr with
  | none => simp
  | some R =>
    show (R.any fun z => decide (z ∈ p.shuns)) = true ↔ _
    rw [List.any_eq_true]
    constructor
    · rintro ⟨z, hz, hd⟩
      exact ⟨R, rfl, z, hz, of_decide_eq_true hd⟩
    · rintro ⟨R', e, z, hz, hs⟩
      cases e
      exact ⟨z, hz, decide_eq_true hs⟩
/-- a set that is ruled out is not right -/
theorem out_wrong {b : BldD} (ok : b.ok) {n : Str} {p : PersonD} (hp : (n, p) ∈ b.people) {th : Bool} {tr ws : List Str} (hd : dbtOf b p th tr = true) (hs : strikeOf th tr ws = true) (hr : RightS b ws) : False := by
  obtain ⟨h1, h2⟩ := hr (n, p) hp
  cases th with
  | true =>
    obtain ⟨R, e, z, hz, hsh⟩ := thr_iff.mp (show thrOf b p tr = true from hd)
    have hs : (!(tr.any fun z => decide (z ∈ ws))) = true := hs
    have ho : ∀ z ∈ tr, z ∉ ws := fun y hy hyw => by
      have : (tr.any fun z => decide (z ∈ ws)) = true := List.any_eq_true.mpr ⟨y, hy, decide_eq_true hyw⟩
      rw [this] at hs
      cases hs
    exact h2 z hsh ((path_of tr _ Path.one (rooms_more tr _ ho e)).rch z hz)
  | false =>
    obtain ⟨_, u, hu, hn⟩ := (shut_iff ok).mp (show shutOf b p tr = true from hd)
    have hs : (tr.all fun z => decide (z ∈ ws)) = true := hs
    exact hn (rch_le (fun z hz => of_decide_eq_true (List.all_eq_true.mp hs z hz)) (h1 u hu))
/-- the trail of first doors to a room that must not be reached -/
theorem made_thr {b : BldD} (ok : b.ok) {p : PersonD} {ws : List Str} {z : Str} (hz : z ∈ p.shuns) (hr : Rch b p ws z) : dbtOf b p true (trailOf b p ws) = true ∧ strikeOf true (trailOf b p ws) ws = true := by
  obtain ⟨R, e, by0⟩ := trail_rooms (p := p) (ls := ws) ok 6 [p.a] (left_le b ok _)
  have hP := path_of _ _ Path.one e
  refine ⟨thr_iff.mpr ⟨R, rooms_less (ls := ws) (fun _ h => by cases h) _ _ e, z, beyond_done hP.st by0 hr, hz⟩, ?_⟩
  show (!((trailOf b p ws).any fun z => decide (z ∈ ws))) = true
  rw [Bool.not_eq_eq_eq_not, Bool.not_true, ← Bool.not_eq_true, List.any_eq_true]
  rintro ⟨y, hy, hd⟩
  exact rooms_open _ _ e y hy (of_decide_eq_true hd)
theorem in_order {b : BldD} (ok : b.ok) {ws : List Str} (h : ws.Sublist (b.doors.map (·.1))) : ws = inOrder b ws := by
  unfold inOrder
  have nd := ok.dnd
  generalize b.doors.map (·.1) = l at h nd
  induction h with
  | slnil => rfl
  | @cons l1 l2 a h ih =>
    have nd2 := List.nodup_cons.mp nd
    rw [List.filter_cons, if_neg (by
      intro e
      exact nd2.1 (h.subset (of_decide_eq_true e)))]
    exact ih nd2.2
  | @cons_cons l1 l2 a h ih =>
    have nd2 := List.nodup_cons.mp nd
    rw [List.filter_cons, if_pos (decide_eq_true List.mem_cons_self)]
    refine congrArg (a :: ·) ?_
    refine (ih nd2.2).trans (List.filter_congr fun z hz => ?_)
    refine decide_eq_decide.mpr ⟨List.mem_cons_of_mem _, fun hm => ?_⟩
    rcases List.mem_cons.mp hm with c | c
    · rw [c] at hz
      exact absurd hz nd2.1
    · exact c
theorem made_shut {b : BldD} (ok : b.ok) {p : PersonD} {ws : List Str} (sub : ws.Sublist (b.doors.map (·.1))) {u : Str} (hu : u ∈ p.needs) (hr : ¬ Rch b p ws u) : dbtOf b p false ws = true ∧ strikeOf false ws ws = true :=
  ⟨(shut_iff ok).mpr ⟨in_order ok sub, u, hu, hr⟩, List.all_eq_true.mpr fun z hz => decide_eq_true hz⟩
theorem any_swap (l m : List Str) : (l.any fun z => decide (z ∈ m)) = m.any fun z => decide (z ∈ l) := by
  rw [Bool.eq_iff_iff, List.any_eq_true, List.any_eq_true]
  exact ⟨fun ⟨z, h1, h2⟩ => ⟨z, of_decide_eq_true h2, decide_eq_true h1⟩, fun ⟨z, h1, h2⟩ => ⟨z, of_decide_eq_true h2, decide_eq_true h1⟩⟩
section
variable {P : Program} {w : World} {K : PySem.W.Frag} {mg : Str → Option Value} {base : Heap}
/-! ### _law_is_doubt -/
def spLDbt (K : PySem.W.Frag) : Sp := fun vs H Q _ => ∃ (t d : Addr) (b : BldD) (th : Bool) (n : Str) (p : PersonD) (tr : List Str), vs = [.ref t, .ref d] ∧ PlAt H t b ∧ DbtAt K H d th n tr ∧ OkDbt b n p tr ∧ ∀ H', Same H H' → Q (.bl (dbtOf b p th tr)) H'
abbrev nLDbt : List Str := ["_law_plan", "_law_doubt_here", "_law_word", "_law_name", "_law_doors", "_law_person_here", "_law_rooms", "_law_room", "_law_one"]
theorem scLDbt : FnScope nLDbt ["_law_plan", "_law_doubt_here"] (defScope s__law_is_doubt) := ⟨rfl, rfl, rfl, by decide +kernel, rfl, by decide +kernel, by decide +kernel⟩
theorem ok_ldbt {f : Addr} {fd : FuncData} (F : Fun K "_law_is_doubt" "_law_is_doubt" s__law_is_doubt f fd) (B : Blt mg) (GP : Fn P w K mg base 1 "_law_person" ["_law_plan", "_law_name"] (spPers K)) (GN : Fn P w K mg base 1 "_law_names" ["_law_plan"] (spLNames K))
    (GW : Fn P w K mg base 2 "_law_walked" ["_law_plan", "_law_name", "_law_locked", "_law_trail"] (spWalked K)) (GR : Fn P w K mg base 2 "_law_reach" ["_law_plan", "_law_name", "_law_locked"] (spLReach K)) :
    FnOk P w K mg base CX0 3 f fd ["_law_plan", "_law_doubt_here"] (spLDbt K) := by
  refine F.ok scLDbt (fun vs H Q E h => ?_) (fun cdv A outer s H vs Q E hr h => ?_)
  · obtain ⟨t, d, b, th, n, p, tr, rfl, _⟩ := h
    rfl
  · obtain ⟨t, d, b, th, n, p, tr, rfl, hb, hd, ⟨hn, few, sub⟩, q⟩ := h
    have hr1 := hr.mono (show 1 ≤ 2 by decide)
    refine ⟨_, (pss_cons (ps_asg (pv 1) (pg_tup rfl (pgs_cons (pg_name (i := 2) scLDbt.nd rfl (Or.inl rfl)) (pgs_cons (pg_name (i := 3) scLDbt.nd rfl (Or.inl rfl)) (pgs_cons (pg_name (i := 4) scLDbt.nd rfl (Or.inr rfl)) pgs_nil)))))
      (pss_cons (ps_set (i := 5) scLDbt.nd rfl (.inl rfl) (pe_fn GP hr1 (by rfl) (pa_cons (pv 0) (pa_cons (pv 3) pa_nil))))
      (pss_cons (ps_if (pt_cmpR op_eq (pv 2) pe_str (nomark _)) (pss_cons (ps_set (i := 6) scLDbt.nd rfl (.inr rfl) (pe_fn GW hr (by rfl) (pa_cons (pv 0) (pa_cons (pv 3) (pa_cons (pe_tup pa_nil) (pa_cons (pv 4) pa_nil))))))
      (pss_one (ps_ret (pe_and (pe_cmp (pc_notN (pv 6))) (pe_one (pe_callB (cr_any rfl) (by rfl) B.any PyProof.Rows.boot_any (pa_cons (pe_lc (own := [("_law_room", 7)]) (g := (gName 7)) (tt := tYes) (te := (tOp (rIn K false) (tVar 7) (tVar 6))) rfl scLDbt.nd  (pi_tup (pe_ix ix_tup (pv 5) pe_int (fun _ _ => rfl))) (blkOk_by (N := nLDbt) (sc := defScope s__law_is_doubt) (by decide +kernel)) (fun _ _ _ _ _ => (pg_name (i := 7) scLDbt.nd rfl (Or.inl rfl))) (fun _ _ _ _ _ => pts_nil) (fun _ _ _ _ _ => (pe_cmpR (r := (rIn K false)) op_in_seq (pv 7) (pv 6) rfl))) pa_nil))))))) pss_nil)
      (pss_cons (ps_if (pt_cmpR (op_neD hr.units) (pe_callTy call_list_of (by rfl) B.lst PyProof.Rows.boot_list (pa_cons (pv 4) pa_nil)) (pe_lc (own := [("_law_one", 8)]) (g := (gName 8)) (tt := (tTest (tOp (rIn K false) (tVar 8) (tVar 4)))) (te := (tVar 8)) rfl scLDbt.nd  (pi_list (pe_fn GN hr1 (by rfl) (pa_cons (pv 0) pa_nil))) (blkOk_by (N := nLDbt) (sc := defScope s__law_is_doubt) (by decide +kernel)) (fun _ _ _ _ _ => (pg_name (i := 8) scLDbt.nd rfl (Or.inl rfl))) (fun _ _ _ _ _ => (pts_one (pt_cmpR (r := (rIn K false)) op_in_seq (pv 8) (pv 4) rfl))) (fun _ _ _ _ _ => (pv 8))) (nomark _)) (pss_one (ps_ret pe_bl)) pss_nil)
      (pss_cons (ps_set (i := 6) scLDbt.nd rfl (.inr rfl) (pe_fn GR hr (by rfl) (pa_cons (pv 0) (pa_cons (pv 3) (pa_cons (pv 4) pa_nil)))))
      (pss_one (ps_ret (pe_callB (cr_any rfl) (by rfl) B.any PyProof.Rows.boot_any (pa_cons (pe_lc (own := [("_law_room", 7)]) (g := (gName 7)) (tt := tYes) (te := (tOp (rIn K true) (tVar 7) (tVar 6))) rfl scLDbt.nd  (pi_tup (pe_ix ix_tup (pv 5) pe_int (fun _ _ => rfl))) (blkOk_by (N := nLDbt) (sc := defScope s__law_is_doubt) (by decide +kernel)) (fun _ _ _ _ _ => (pg_name (i := 7) scLDbt.nd rfl (Or.inl rfl))) (fun _ _ _ _ _ => pts_nil) (fun _ _ _ _ _ => (pe_cmpR (r := (rIn K true)) op_notIn_seq (pv 7) (pv 6) rfl))) pa_nil))))))))), ?_⟩
    have bok := hb.ok
    obtain ⟨tt, h1, h2⟩ := hd.ex
    have hm := look_mem hn
    refine ⟨.ref d, rfl, d, _, rfl, h1, rfl, _, _, rfl, _, _, rfl, _, _, rfl, rfl, ?_⟩
    refine ⟨.ref t, rfl, .str n, rfl, t, b, n, p, rfl, hb, hn, fun H1 y s1 rowp => ?_⟩
    obtain ⟨t1, t2, t3, ey, e1, e2, e3⟩ := id rowp
    have pok : p.ok := (bok.people _ hm).2.1
    refine ⟨_, rfl, rfl, _, rfl, ?_⟩
    rw [show decide (V.str (wordOf th) = V.str "through") = th from word_dec th]
    cases th with
    | true =>
      refine iteT ?_
      refine ⟨.ref t, rfl, .str n, rfl, Nat.zero_le _, fun t0 nt0 => ?_⟩
      have s0 := same_new (o := .tup []) nt0
      have s01 := s1.trans s0
      refine ⟨.ref tt, rfl, t, t0, tt, b, n, p, [], tr, rfl, hb.same s01, hn, .inl (.inl upd_same), Same.tup s01 h2, few, sub, fun e H2 s2 => ?_, fun R e H2 m s2 nm em => ?_⟩
      · have q2 := q _ (s01.trans s2)
        unfold dbtOf thrOf at q2
        rw [if_pos rfl, e] at q2
        exact ⟨.non, rfl, false, rfl, iteF q2⟩
      · refine ⟨.ref m, rfl, true, rfl, iteT ?_⟩
        have s02 := s0.trans s2
        refine ⟨.ref y, rfl, y, _, 4, _, rfl, rfl, .inl (.inl (s02 _ _ ey)), rfl, t3, rfl, ⟨_, .inl (.inl (s02 _ _ e3))⟩, fun D nD => lc_m (walk_tup (xs := p.shuns.map V.str)) p.shuns (fun z => .bl (decide (z ∈ R))) (by rw [List.length_map]) nD (by have := pok.few3; omega) (fun H' s => .inl (.inl (s _ _ (s02 _ _ e3)))) (fun i z v H3 H4 Kt hz s3 hY k => ?_) (fun H3 s3 eD => ?_)⟩
        · obtain ⟨rfl, hx⟩ := hY
          rw [List.getElem?_map, hz] at hx
          cases hx
          refine ⟨rfl, .str z, rfl, .ref m, rfl, m, _, rfl, .inl (.inl (.inl (s3 _ _ em))), rfl, Lk.flat_strs R, ?_⟩
          rw [inV_str]
          exact k _ (Same.refl _)
        · refine ⟨D, p.shuns.map fun z => decide (z ∈ R), rfl, .inl (.inl (by rw [List.map_map]; exact eD)), ?_⟩
          have q2 := q _ (s01.trans (s2.trans s3))
          unfold dbtOf thrOf at q2
          rw [if_pos rfl, e] at q2
          have q2 : Q (.bl (R.any fun z => decide (z ∈ p.shuns))) H3 := q2
          rw [any_swap] at q2
          rw [List.any_map]
          exact q2
    | false =>
      refine iteF ?_
      refine ⟨.ref tt, rfl, tt, _, rfl, .inr (Same.tup s1 h2), fun l0 nl0 => ?_⟩
      have s0 := same_new (o := .lst (tr.map V.str)) nl0
      have s01 := s1.trans s0
      refine ⟨.ref t, rfl, t, b, rfl, hb.same s01, fun H2 ln s2 nln eln => ?_⟩
      have s02 := s01.trans s2
      refine ⟨ln, rfl, ⟨_, .inl (.inl eln)⟩, fun D nD => lc_mf (walk_list (xs := (b.doors.map (·.1)).map V.str)) (b.doors.map (·.1)) (fun z => decide (z ∈ tr)) V.str (by rw [List.length_map]) nD (by rw [List.length_map]; have := bok.d8; omega) (fun H' s' => .inl (.inl (s' _ _ eln))) (fun i u v H3 H4 Kt Kf hz s3 hY kt kf => ?_) (fun H3 s3 eD => ?_)⟩
      · obtain ⟨rfl, hx⟩ := hY
        rw [List.getElem?_map, hz] at hx
        cases hx
        refine ⟨rfl, .str u, rfl, .ref tt, rfl, tt, _, rfl, .inr (Same.tup (s02.trans s3) h2), rfl, Lk.flat_strs tr, _, rfl, ?_⟩
        rw [inV_str]
        exact ite2 (fun e => ⟨.str u, rfl, kt e _ (Same.refl _)⟩) (fun e => kf (Bool.eq_false_iff.mpr e) _ (Same.refl _))
      · have s03 := s02.trans s3
        have nmt := door_nm bok sub
        have eD' : H3 D = some (.lst ((inOrder b tr).map V.str)) := eD
        refine ⟨_, _, .lst (.inl (.inl (s3 _ _ (s2 _ _ upd_same)))) (dp_strs _), .lst (.inl (.inl eD')) (dp_strs _), shaped_strsL fun z hz => nm_ok (nmt z hz), shaped_strsL (fun z hz => nm_ok (nmt z (of_decide_eq_true (List.mem_filter.mp hz).2))), _, rfl, ?_⟩
        rw [eqv_lists]
        have q1 := q
        unfold dbtOf shutOf at q1
        simp only [Bool.false_eq_true, if_false] at q1
        by_cases eo : tr = inOrder b tr
        · rw [decide_eq_true eo]
          refine iteF ?_
          refine ⟨.ref t, rfl, .str n, rfl, .ref tt, rfl, t, tt, b, n, p, tr, rfl, hb.same s03, hn, Same.tup s03 h2, fun H4 m g s4 em hg => ?_⟩
          have s04 := s03.trans s4
          have s14 := s0.trans (s2.trans (s3.trans s4))
          refine ⟨.ref y, rfl, y, _, 3, _, rfl, rfl, .inl (.inl (s14 _ _ ey)), rfl, t2, rfl, ⟨_, .inl (.inl (s14 _ _ e2))⟩, fun D2 nD2 => lc_m (walk_tup (xs := p.needs.map V.str)) p.needs (fun z => .bl (!decide (z ∈ b.rooms.filter g))) (by rw [List.length_map]) nD2 (by have := pok.few2; omega) (fun H' s => .inl (.inl (s _ _ (s14 _ _ e2)))) (fun i z v H5 H6 Kt hz s5 hY k => ?_) (fun H5 s5 eD2 => ?_)⟩
          · obtain ⟨rfl, hx⟩ := hY
            rw [List.getElem?_map, hz] at hx
            cases hx
            refine ⟨rfl, .str z, rfl, .ref m, rfl, m, _, rfl, .inl (.inl (.inl (s5 _ _ em))), rfl, Lk.flat_strs _, ?_⟩
            rw [inV_str]
            exact k _ (Same.refl _)
          · refine ⟨D2, p.needs.map fun z => !decide (z ∈ b.rooms.filter g), rfl, .inl (.inl (by rw [List.map_map]; exact eD2)), ?_⟩
            have q2 := q1 _ (s04.trans s5)
            rw [decide_eq_true eo, Bool.true_and] at q2
            have e5 : ((p.needs.map fun z => !decide (z ∈ b.rooms.filter g)).any id) = !(p.needs.all fun z => decide (z ∈ reachL b p (srt tr))) := by
              rw [List.any_map, List.not_all_eq_any_not]
              refine congrArg (fun f => p.needs.any f) (funext fun z => ?_)
              show (!decide _) = !decide _
              refine congrArg _ (decide_eq_decide.mpr ?_)
              rw [List.mem_filter, hg z, mem_reachL bok, rch_same (fun z => mem_srt tr z)]
              exact ⟨fun h => h.2, fun h => ⟨rch_in bok hm h, h⟩⟩
            rw [e5]
            exact q2
        · rw [decide_eq_false eo]
          have q2 := q1 _ s03
          rw [decide_eq_false eo, Bool.false_and] at q2
          exact iteT q2
end
end Lw
set_option Elab.async false
set_option linter.all false
set_option maxRecDepth 100000
set_option maxHeartbeats 8000000
namespace Lw
open PySem PySem.Spec PyProof.Rows L2 TxS LkO Lk LkG
section
variable {P : Program} {w : World} {K : PySem.W.Frag} {mg : Str → Option Value} {base : Heap} {CD CP CB CL : Addr}
/-! ### _law_is_out -/
def spLOut (K : PySem.W.Frag) : Sp := fun vs H Q _ => ∃ (t d lk : Addr) (b : BldD) (th : Bool) (n : Str) (p : PersonD) (tr ws : List Str), vs = [.ref t, .ref d, .ref lk] ∧ PlAt H t b ∧ DbtAt K H d th n tr ∧ OkDbt b n p tr ∧ SqT K H lk (ws.map V.str) ∧ ∀ H', Same H H' → Q (.bl (dbtOf b p th tr && strikeOf th tr ws)) H'
abbrev nLOut : List Str := ["_law_plan", "_law_doubt_here", "_law_locked", "_law_one"]
theorem scLOut : FnScope nLOut ["_law_plan", "_law_doubt_here", "_law_locked"] (defScope s__law_is_out) := ⟨rfl, rfl, rfl, by decide +kernel, rfl, by decide +kernel, by decide +kernel⟩
theorem ok_lout {f : Addr} {fd : FuncData} (F : Fun K "_law_is_out" "_law_is_out" s__law_is_out f fd) (B : Blt mg) (GI : Fn P w K mg base 3 "_law_is_doubt" ["_law_plan", "_law_doubt_here"] (spLDbt K)) : FnOk P w K mg base CX0 4 f fd ["_law_plan", "_law_doubt_here", "_law_locked"] (spLOut K) := by
  refine F.ok scLOut (fun vs H Q E h => ?_) (fun cdv A outer s H vs Q E hr h => ?_)
  · obtain ⟨t, d, lk, b, th, n, p, tr, ws, rfl, _⟩ := h
    rfl
  · obtain ⟨t, d, lk, b, th, n, p, tr, ws, rfl, hb, hd, ho, hl, q⟩ := h
    refine ⟨_, (pss_cons (ps_if (pt_not (pt_val (pe_fn GI hr (by rfl) (pa_cons (pv 0) (pa_cons (pv 1) pa_nil))))) (pss_one (ps_ret pe_bl)) pss_nil)
      (pss_cons (ps_if (pt_cmpR op_eq (pe_ix ix_tup (pv 1) pe_int (fun _ _ => rfl)) pe_str (nomark _)) (pss_one (ps_ret (pe_not (pe_callB (cr_any rfl) (by rfl) B.any PyProof.Rows.boot_any (pa_cons (pe_lc (own := [("_law_one", 3)]) (g := (gName 3)) (tt := tYes) (te := (tOp (rIn K false) (tVar 3) (tVar 2))) rfl scLOut.nd  (pi_tup (pe_ix ix_tup (pv 1) pe_int (fun _ _ => rfl))) (blkOk_by (N := nLOut) (sc := defScope s__law_is_out) (by decide +kernel)) (fun _ _ _ _ _ => (pg_name (i := 3) scLOut.nd rfl (Or.inl rfl))) (fun _ _ _ _ _ => pts_nil) (fun _ _ _ _ _ => (pe_cmpR (r := (rIn K false)) op_in_seq (pv 3) (pv 2) rfl))) pa_nil))))) pss_nil)
      (pss_one (ps_ret (pe_callB (cr_all rfl) (by rfl) B.all PyProof.Rows.boot_all (pa_cons (pe_lc (own := [("_law_one", 3)]) (g := (gName 3)) (tt := tYes) (te := (tOp (rIn K false) (tVar 3) (tVar 2))) rfl scLOut.nd  (pi_tup (pe_ix ix_tup (pv 1) pe_int (fun _ _ => rfl))) (blkOk_by (N := nLOut) (sc := defScope s__law_is_out) (by decide +kernel)) (fun _ _ _ _ _ => (pg_name (i := 3) scLOut.nd rfl (Or.inl rfl))) (fun _ _ _ _ _ => pts_nil) (fun _ _ _ _ _ => (pe_cmpR (r := (rIn K false)) op_in_seq (pv 3) (pv 2) rfl))) pa_nil)))))), ?_⟩
    obtain ⟨tt, h1, h2⟩ := hd.ex
    refine ⟨.ref t, rfl, .ref d, rfl, t, d, b, th, n, p, tr, rfl, hb, hd, ho, fun H1 s1 => ⟨_, rfl, ?_⟩⟩
    cases hdb : dbtOf b p th tr with
    | false =>
      rw [hdb] at q
      exact iteT (q _ s1)
    | true =>
      rw [hdb] at q
      refine iteF ?_
      refine ⟨.ref d, rfl, d, _, 0, _, rfl, rfl, Same.tup s1 h1, rfl, rfl, _, rfl, ?_⟩
      rw [show decide (V.str (wordOf th) = V.str "through") = th from word_dec th]
      have few := ho.2.1
      cases th with
      | true =>
        refine iteT ⟨.ref d, rfl, d, _, 2, _, rfl, rfl, Same.tup s1 h1, rfl, tt, rfl, ⟨_, Same.tup s1 h2⟩, fun D nD => lc_m (walk_tup (xs := tr.map V.str)) tr (fun z => .bl (decide (z ∈ ws))) (by rw [List.length_map]) nD few (fun H' s => Same.tup (s1.trans s) h2) (fun i z x H2 H3 Kt hz s2 hY k => ?_) (fun H2 s2 e => ?_)⟩
        · obtain ⟨rfl, hx⟩ := hY
          rw [List.getElem?_map, hz] at hx
          cases hx
          refine ⟨rfl, .str z, rfl, .ref lk, rfl, lk, _, rfl, .inr (Same.tup (s1.trans s2) hl), rfl, Lk.flat_strs ws, ?_⟩
          rw [inV_str]
          exact k _ (Same.refl _)
        · refine ⟨D, tr.map fun z => decide (z ∈ ws), rfl, .inl (.inl (by rw [List.map_map]; exact e)), _, rfl, ?_⟩
          rw [List.any_map]
          exact q _ (s1.trans s2)
      | false =>
        refine iteF ⟨.ref d, rfl, d, _, 2, _, rfl, rfl, Same.tup s1 h1, rfl, tt, rfl, ⟨_, Same.tup s1 h2⟩, fun D nD => lc_m (walk_tup (xs := tr.map V.str)) tr (fun z => .bl (decide (z ∈ ws))) (by rw [List.length_map]) nD few (fun H' s => Same.tup (s1.trans s) h2) (fun i z x H2 H3 Kt hz s2 hY k => ?_) (fun H2 s2 e => ?_)⟩
        · obtain ⟨rfl, hx⟩ := hY
          rw [List.getElem?_map, hz] at hx
          cases hx
          refine ⟨rfl, .str z, rfl, .ref lk, rfl, lk, _, rfl, .inr (Same.tup (s1.trans s2) hl), rfl, Lk.flat_strs ws, ?_⟩
          rw [inV_str]
          exact k _ (Same.refl _)
        · refine ⟨D, tr.map fun z => decide (z ∈ ws), rfl, .inl (.inl (by rw [List.map_map]; exact e)), ?_⟩
          rw [List.all_map]
          exact q _ (s1.trans s2)
/-! ### _law_sets -/
def spSets : Sp := fun vs H Q _ => ∃ (t : Addr) (b : BldD), vs = [.ref t] ∧ PlAt H t b ∧
  ∀ H' m (ts : List Addr), Same H H' → H' m = some (.lst (ts.map V.ref)) → H m = none → (∀ x ∈ ts, ∃ ws : List Str, H' x = some (.tup (ws.map V.str)) ∧ ws.Sublist (b.doors.map (·.1))) → Q (.ref m) H'
abbrev nSets : List Str := ["_law_plan", "_law_found", "_law_name", "_law_one"]
theorem scSets : FnScope nSets ["_law_plan"] (defScope s__law_sets) := ⟨rfl, rfl, rfl, by decide +kernel, rfl, by decide +kernel, by decide +kernel⟩
theorem ok_sets {f : Addr} {fd : FuncData} (F : Fun K "_law_sets" "_law_sets" s__law_sets f fd) (GN : Fn P w K mg base 1 "_law_names" ["_law_plan"] (spLNames K)) : FnOk P w K mg base CX0 2 f fd ["_law_plan"] spSets := by
  refine F.ok scSets (fun vs H Q E h => ?_) (fun cdv A outer s H vs Q E hr h => ?_)
  · obtain ⟨l, b, rfl, _⟩ := h
    rfl
  · obtain ⟨t, b, rfl, hb, q⟩ := h
    refine ⟨_, (pss_cons (ps_set (i := 1) scSets.nd rfl (.inl rfl) (pe_lst (pa_cons (pe_tup pa_nil) pa_nil)))
      (pss_cons (ps_for PassesOwn.never rfl (pi_list (pe_fn GN hr (by rfl) (pa_cons (pv 0) pa_nil))) (pg_name (i := 2) scSets.nd rfl (Or.inr rfl)) (pss_one (ps_set (i := 1) scSets.nd rfl (.inl rfl) (pe_op op_cat (pv 1) (pe_lc (own := [("_law_one", 3)]) (g := (gName 3)) (tt := tYes) (te := (tOp (rCatA K) (tVar 3) (tTup (tCons (tVar 2) tNil)))) rfl scSets.nd  (pi_list (pv 1)) (blkOk_by (N := nSets) (sc := defScope s__law_sets) (by decide +kernel)) (fun _ _ _ _ _ => (pg_name (i := 3) scSets.nd rfl (Or.inl rfl))) (fun _ _ _ _ _ => pts_nil) (fun _ _ _ _ _ => (pe_op op_catA (pv 3) (pe_tup (pa_cons (pv 2) pa_nil)))))))))
      (pss_one (ps_ret (pv 1))))), ?_⟩
    have bok := hb.ok
    have few := bok.d8
    refine ⟨Nat.zero_le _, fun t0 nt0 => ⟨by show 1 ≤ sizeLine; rw [sizeLine_eq]; decide, fun m0 nm0 => ?_⟩⟩
    have s00 : Same H (upd (upd H t0 (.tup [])) m0 (.lst [.ref t0])) := (same_new nt0).trans (same_new nm0)
    refine ⟨.ref t, rfl, t, b, rfl, hb.same s00, fun H1 l s1 nl el => ?_⟩
    have s0 := s00.trans s1
    generalize ezs : b.doors.map (·.1) = zs at el q
    have fewz : zs.length ≤ 8 := by rw [← ezs, List.length_map]; exact few
    have nHm0 : H m0 = none := was_new (same_new nt0) nm0
    refine ⟨l, rfl, ⟨_, .inl (.inl el)⟩, for_it (walk_list (xs := zs.map V.str)) (fun i σ H' => Same H1 H' ∧ ∃ (m : Addr) (ts : List Addr) (y2 : Option V), H m = none ∧ H' m = some (.lst (ts.map V.ref)) ∧ ts.length = 2 ^ i ∧ (∀ t ∈ ts, ∃ ws : List Str, H' t = some (.tup (ws.map V.str)) ∧ ws.Sublist (zs.take i)) ∧ σ = [some (.ref t), some (.ref m), y2, none])
      ⟨Same.refl _, m0, [t0], none, nHm0, s1 _ _ upd_same, rfl, fun t ht => ⟨[], ?_, List.nil_sublist _⟩, rfl⟩ (fun i σ H' _ hP => .inl (.inl (hP.1 _ _ el))) (fun i v σ H5 H6 hi hP hY => ?_) (fun σ H5 hP => ?_)⟩
    · rw [List.mem_singleton.mp ht]
      exact s1 _ _ (same_new nm0 _ _ upd_same)
    · obtain ⟨rfl, hv⟩ := hY
      obtain ⟨s5, m, ts, y2, nHm, em, lts, each, rfl⟩ := hP
      obtain ⟨z, hz, rfl⟩ := at_map hv
      have hi' : i < 8 := by
        rw [List.length_map] at hi
        omega
      have lt64 : ts.length ≤ 256 := by
        rw [lts]
        exact Nat.le_trans (Nat.pow_le_pow_right (by decide) (Nat.le_of_lt hi')) (by decide)
      refine ⟨.ref m, rfl, .ref m, rfl, m, rfl, ⟨_, .inl (.inl em)⟩, fun D nD => ?_⟩
      refine lc_it (walk_list (xs := ts.map V.ref)) (fun j H' => ∃ us : List Addr, us.length = j ∧ (∀ t ∈ us, ∃ ws : List Str, H' t = some (.tup (ws.map V.str)) ∧ ws.Sublist (zs.take (i + 1))) ∧ Grow H6 D (us.map V.ref) H') ⟨[], rfl, (fun t ht => by cases ht), grow0 nD⟩ (fun j H' _ hP => by obtain ⟨_, _, _, g⟩ := hP; exact .inl (.inl (g.1 _ _ em))) (fun j x H7 H8 hj hP hY => ?_) (fun H7 hP => ?_)
      · obtain ⟨rfl, hx⟩ := hY
        obtain ⟨us, lus, eachu, gr⟩ := hP
        obtain ⟨t, ht, rfl⟩ := at_map hx
        obtain ⟨ws, hws, subw⟩ := each t (List.mem_of_getElem? ht)
        have lw : ws.length ≤ 8 := Nat.le_trans subw.length_le (by rw [List.length_take]; omega)
        have subz : (ws ++ [z]).Sublist (zs.take (i + 1)) := by
          rw [take_next1 hz]
          exact subw.append (List.Sublist.refl _)
        have lu : us.length < sizeLine := by
          rw [List.length_map] at hj
          rw [lus, sizeLine_eq]
          omega
        refine ⟨rfl, .ref t, rfl, .str z, rfl, by show 1 ≤ sizeLine; rw [sizeLine_eq]; decide, fun t1 nt1 => ?_⟩
        have s81 := same_new (o := .tup [.str z]) nt1
        refine cat_tup (zs := [z]) (s81 _ _ (gr.1 _ _ hws)) upd_same (by rw [List.length_singleton]; omega) fun H9 tn s9' etn => ?_
        have s9 := s81.trans s9'
        have eD := s9 _ _ gr.2
        refine ⟨us.map V.ref, eD, by rw [List.length_map]; exact lu, us ++ [tn], by rw [List.length_append, lus]; rfl, fun u hu' => ?_, Same.up (gr.1.trans s9) nD, by rw [upd_same, List.map_append]; rfl⟩
        rcases List.mem_append.mp hu' with y | y
        · obtain ⟨ws', h1, h2⟩ := eachu u y
          exact ⟨ws', TT.put eD _ _ (s9 _ _ h1), h2⟩
        · rw [List.mem_singleton.mp y]
          exact ⟨ws ++ [z], TT.put eD _ _ etn, subz⟩
      · obtain ⟨us, lus, eachu, gr⟩ := hP
        have lus' : us.length = ts.length := by rw [lus, List.length_map]
        refine ⟨m, D, _, _, rfl, rfl, gr.1 _ _ em, gr.2, by rw [List.length_map, List.length_map, sizeLine_eq]; omega, fun m2 nm2 => ⟨s5.trans (gr.1.trans (same_new nm2)), m2, ts ++ us, some (.str z), was_new (s0.trans (s5.trans gr.1)) nm2, by rw [upd_same, List.map_append], ?_, fun t ht => ?_, rfl⟩⟩
        · rw [List.length_append, lus', lts, Nat.pow_succ]
          omega
        · rcases List.mem_append.mp ht with y | y
          · obtain ⟨ws, h1, h2⟩ := each t y
            refine ⟨ws, same_new nm2 _ _ (gr.1 _ _ h1), h2.trans ?_⟩
            rw [take_next1 hz]
            exact List.sublist_append_left _ _
          · obtain ⟨ws, h1, h2⟩ := eachu t y
            exact ⟨ws, same_new nm2 _ _ h1, h2⟩
    · obtain ⟨s5, m, ts, y2, nHm, em, lts, each, rfl⟩ := hP
      refine ⟨.ref m, rfl, q _ m ts (s0.trans s5) em nHm fun t ht => ?_⟩
      obtain ⟨ws, h1, h2⟩ := each t ht
      rw [List.length_map, List.take_length] at h2
      exact ⟨ws, h1, h2⟩
/-! ### _law_doubt -/
def spDbt (K : PySem.W.Frag) : Sp := fun vs H Q _ => ∃ (dr t : Addr) (b : BldD), vs = [.ref dr, .ref t] ∧ DrE H dr ∧ PlX dr H t b ∧
  ∀ H' d th n p (tr : List Str), Mw dr H H' → DbtAt K H' d th n tr → OkDbt b n p tr → tr.length ≤ 20 → Q (.ref d) H'
abbrev nDbt : List Str := ["_law_draws", "_law_plan", "_law_name", "_law_doors", "_law_one"]
theorem scDbt : FnScope nDbt ["_law_draws", "_law_plan"] (defScope s__law_doubt) := ⟨rfl, rfl, rfl, by decide +kernel, rfl, by decide +kernel, by decide +kernel⟩
theorem ok_dbt {f : Addr} {fd : FuncData} (F : Fun K "_law_doubt" "_law_doubt" s__law_doubt f fd) (B : Blt mg) (GX : Fn P w K mg base 1 "_law_take" ["_law_draws", "_law_many"] spTake) (GN : Fn P w K mg base 1 "_law_names" ["_law_plan"] (spLNames K)) (SL : Fn P w K mg base 2 "_law_some" ["_law_draws", "_law_items", "_law_many"] (spSomeL K))
    (GT : Fn P w K mg base 2 "_law_drawn_trail" ["_law_draws", "_law_plan", "_law_name", "_law_locked"] (spDTrail K)) : FnOk P w K mg base CX0 3 f fd ["_law_draws", "_law_plan"] (spDbt K) := by
  refine F.ok scDbt (fun vs H Q E h => ?_) (fun cdv A outer s H vs Q E hr h => ?_)
  · obtain ⟨dr, t, b, rfl, _⟩ := h
    rfl
  · obtain ⟨dr, t, b, rfl, hS, pl, q⟩ := h
    have hr1 := hr.mono (show 1 ≤ 2 by decide)
    refine ⟨_, (pss_cons (ps_set (i := 2) scDbt.nd rfl (.inl rfl) (pe_ix ix_tup (pe_ix ix_list (pe_ix ix_tup (pv 1) pe_int (fun _ _ => rfl)) (pe_fn GX hr1 (by rfl) (pa_cons (pv 0) (pa_cons (pe_callB call_len_seq (by rfl) B.len PySem.boot_len (pa_cons (pe_ix ix_tup (pv 1) pe_int (fun _ _ => rfl)) pa_nil)) pa_nil))) (fun _ _ => rfl)) pe_int (fun _ _ => rfl)))
      (pss_cons (ps_if (pt_cmpR op_eq (pe_fn GX hr1 (by rfl) (pa_cons (pv 0) (pa_cons pe_int pa_nil))) pe_int (nomark _)) (pss_one (ps_ret (pe_tup (pa_cons pe_str (pa_cons (pv 2) (pa_cons (pe_fn GT hr (by rfl) (pa_cons (pv 0) (pa_cons (pv 1) (pa_cons (pv 2) (pa_cons (pe_tup pa_nil) pa_nil))))) pa_nil)))))) pss_nil)
      (pss_cons (ps_set (i := 3) scDbt.nd rfl (.inr rfl) (pe_fn SL hr (by rfl) (pa_cons (pv 0) (pa_cons (pe_fn GN hr1 (by rfl) (pa_cons (pv 1) pa_nil)) (pa_cons pe_int pa_nil)))))
      (pss_cons (ps_if (pt_cmpR op_gt (pe_fn GX hr1 (by rfl) (pa_cons (pv 0) (pa_cons pe_int pa_nil))) pe_int (nomark _)) (pss_one (ps_set (i := 3) scDbt.nd rfl (.inr rfl) (pe_callTy call_tuple_of (by rfl) B.tup PyProof.Rows.boot_tuple (pa_cons (pe_lc (own := [("_law_one", 4)]) (g := (gName 4)) (tt := (tTest (tOp (rIn K false) (tVar 4) (tVar 3)))) (te := (tVar 4)) rfl scDbt.nd  (pi_list (pe_fn GN hr1 (by rfl) (pa_cons (pv 1) pa_nil))) (blkOk_by (N := nDbt) (sc := defScope s__law_doubt) (by decide +kernel)) (fun _ _ _ _ _ => (pg_name (i := 4) scDbt.nd rfl (Or.inl rfl))) (fun _ _ _ _ _ => (pts_one (pt_cmpR (r := (rIn K false)) op_in_seq (pv 4) (pv 3) rfl))) (fun _ _ _ _ _ => (pv 4))) pa_nil)))) pss_nil)
      (pss_one (ps_ret (pe_tup (pa_cons pe_str (pa_cons (pv 2) (pa_cons (pv 3) pa_nil)))))))))), ?_⟩
    have bok := pl.ok
    have d8 := bok.d8
    have p1 := bok.p1
    have three : (3 : Nat) ≤ sizeLine := by rw [sizeLine_eq]; decide
    obtain ⟨⟨r, k, dd, pd, kas, das, pas, I, n1, n2, n3⟩, _⟩ := id pl
    have lpas : pas.length = b.people.length := Paired.length I.peopleT
    refine ⟨.ref t, rfl, t, _, 3, _, rfl, rfl, .inl (.inl I.ob), rfl, .ref dr, rfl, .ref t, rfl, t, _, 3, _, rfl, rfl, .inl (.inl I.ob), rfl, pd, _, rfl, .inl (.inl (.inl I.people)), dr, _, rfl, hS, by rw [List.length_map, lpas]; omega, fun j H1 j0 j1 m1 => ?_⟩
    rw [List.length_map] at j1
    obtain ⟨pa, hpa, apa⟩ := at_ref j0 j1
    obtain ⟨⟨n, p⟩, hg, ⟨t1, t2, t3, row, _⟩⟩ := pair_at I.peopleT hpa
    have hm := List.mem_of_getElem? hg
    have hn := look_at bok.pnd hm
    have S1 := m1.se
    refine ⟨pd, _, j, .ref pa, rfl, rfl, .inl (.inl (m1.sx _ _ I.people n3)), apa, pa, _, 0, .str n, rfl, rfl, .inl (.inl (TT.mv hS m1 _ _ row)), rfl, ?_⟩
    refine ⟨.ref dr, rfl, dr, 2, rfl, S1, by decide, fun c0 H2 c00 c01 m2 => ⟨rfl, _, rfl, ite2 (fun e => ?_) (fun e => ?_)⟩⟩
    · have m12 := m1.trans m2
      have S2 := m12.se
      refine ⟨.str n, rfl, .ref dr, rfl, .ref t, rfl, .str n, rfl, Nat.zero_le _, fun t0 nt0 => ?_⟩
      have s3 := same_new (o := .tup []) nt0
      have m13 := m12.more s3
      refine ⟨dr, t, t0, b, n, p, [], rfl, m13.se, pl.mv hS m13, hn, .inl (.inl upd_same), fun H4 x tr m4 ex sub lt => ⟨three, fun d nd => ?_⟩⟩
      have s5 := same_new (o := .tup [.str "through", .str n, .ref x]) nd
      exact q _ d true n p tr ((m13.trans m4).more s5) ⟨x, .inl (.inl upd_same), .inl (.inl (s5 _ _ ex))⟩ ⟨hn, by omega, sub⟩ lt
    · have m12 := m1.trans m2
      have S2 := m12.se
      have pl2 := pl.mv hS m12
      refine ⟨.ref dr, rfl, .ref t, rfl, t, b, rfl, pl2.at_, fun H3 ln s3 nln eln => ?_⟩
      have S3 := S2.same s3
      refine ⟨dr, ln, b.doors.map (·.1), 2, rfl, S3, .inl (.inl eln), S2.new nln, by rw [List.length_map]; omega, by decide, fun H4 tl ws so m4 ntl etl => ?_⟩
      have m14 := (m12.more s3).trans m4
      have S4 := m14.se
      have lw : ws.length ≤ 8 := Nat.le_trans so.len (by rw [List.length_map]; exact d8)
      refine ⟨.ref dr, rfl, dr, 4, rfl, S4, by decide, fun c1 H5 c10 c11 m5 => ⟨_, _, rfl, rfl, _, rfl, ?_⟩⟩
      have m15 := m14.trans m5
      have etl5 := TT.mv S4 m5 _ _ etl
      have pl5 := pl.mv hS m15
      refine ite2 (fun e => ?_) (fun e => ?_)
      · refine ⟨.ref t, rfl, t, b, rfl, pl5.at_, fun H6 l2 s6 nl2 el2 => ?_⟩
        refine ⟨l2, rfl, ⟨_, .inl (.inl el2)⟩, fun D nD => lc_mf (walk_list (xs := (b.doors.map (·.1)).map V.str)) (b.doors.map (·.1)) (fun z => decide (z ∈ ws)) V.str (by rw [List.length_map]) nD (by rw [List.length_map]; omega) (fun H' s' => .inl (.inl (s' _ _ el2))) (fun i u v H7 H8 Kt Kf hz s7 hY kt kf => ?_) (fun H7 s7 eD => ?_)⟩
        · obtain ⟨rfl, hx⟩ := hY
          rw [List.getElem?_map, hz] at hx
          cases hx
          refine ⟨rfl, .str u, rfl, .ref tl, rfl, tl, _, rfl, .inr (.inl (.inl (s7 _ _ (s6 _ _ etl5)))), rfl, Lk.flat_strs ws, _, rfl, ?_⟩
          rw [inV_str]
          exact ite2 (fun e => ⟨.str u, rfl, kt e _ (Same.refl _)⟩) (fun e => kf (Bool.eq_false_iff.mpr e) _ (Same.refl _))
        · refine ⟨D, _, rfl, .inl ⟨.inl (.inl eD), fun p2 np2 => ?_⟩⟩
          have s8 := same_new (o := .tup (((b.doors.map (·.1)).filter fun z => decide (z ∈ ws)).map V.str)) np2
          refine ⟨.str n, rfl, .ref p2, rfl, three, fun d nd => ?_⟩
          have s9 := same_new (o := .tup [.str "shut", .str n, .ref p2]) nd
          have lf : ((b.doors.map (·.1)).filter fun z => decide (z ∈ ws)).length ≤ 8 := Nat.le_trans (List.length_filter_le _ _) (by rw [List.length_map]; exact d8)
          exact q _ d false n p _ (m15.more (s6.trans (s7.trans (s8.trans s9)))) ⟨p2, .inl (.inl upd_same), .inl (.inl (s9 _ _ upd_same))⟩ ⟨hn, by omega, fun z hz => (List.mem_filter.mp hz).1⟩ (by omega)
      · refine ⟨.str n, rfl, .ref tl, rfl, three, fun d nd => ?_⟩
        have s9 := same_new (o := .tup [.str "shut", .str n, .ref tl]) nd
        exact q _ d false n p ws (m15.more s9) ⟨tl, .inl (.inl upd_same), .inl (.inl (s9 _ _ etl5))⟩ ⟨hn, by omega, so.mem⟩ (by omega)
end
end Lw
set_option Elab.async false
set_option linter.all false
set_option maxRecDepth 100000
set_option maxHeartbeats 4000000
namespace Lk
open PySem PySem.Spec PyProof.Rows L2 TxS LkO LkG
section
variable {P : Program} {w : World} {K : PySem.W.Frag} {mg : Str → Option Value} {base : Heap} {CD CP CB CL : Addr}
/-! ### rules_out -/
def spRules (K : PySem.W.Frag) (CD CP CB CL : Addr) : Sp := fun vs H Q _ => ∃ (x d c : Addr) (b : BldD) (th : Bool) (n : Str) (p : PersonD) (tr ls : List Str), vs = [.ref x, .ref d, .ref c] ∧ BldAt K CD CP CB H x b ∧ DbtAt K H d th n tr ∧ OkDbt b n p tr ∧ tr.length ≤ 60 ∧ LkAt CL H c ls ∧ ls.length ≤ 1000 ∧ (∀ z ∈ ls, z ∈ b.doors.map (·.1)) ∧
  ∀ H', Same H H' → Q (.bl (dbtOf b p th tr && strikeOf th tr ls)) H'
abbrev nRules : List Str := ["building", "doubt", "locks"]
theorem scRules : FnScope nRules ["building", "doubt", "locks"] (defScope s_rules_out) := ⟨rfl, rfl, rfl, by decide +kernel, rfl, by decide +kernel, by decide +kernel⟩
theorem ok_rules {f : Addr} {fd : FuncData} (F : Fun K "rules_out" "rules_out" s_rules_out f fd) (T : OwnC K mg CB "Building" bldF) (GB : Fn P w K mg base 1 "check_building" ["building"] (spChkB CB)) (GD : Fn P w K mg base 5 "check_doubt" ["building", "doubt"] (spChkD K CD CP CB))
    (GC : Fn P w K mg base 3 "check_locks" ["building", "locks"] (spChk K CD CP CB CL)) (GI : Fn P w K mg base 9 "is_doubt" ["building", "doubt"] (spIsDbt K CD CP CB)) (GS : Fn P w K mg base 3 "strikes" ["doubt", "locks"] (spStrikes K CL)) :
    FnOk P w K mg base CX0 10 f fd ["building", "doubt", "locks"] (spRules K CD CP CB CL) := by
  refine F.ok scRules (fun vs H Q E h => ?_) (fun cdv A outer s H vs Q E hr h => ?_)
  · obtain ⟨x, d, c, b, th, n, p, tr, ls, rfl, _⟩ := h
    rfl
  · obtain ⟨x, d, c, b, th, n, p, tr, ls, rfl, hb, hd, ho, l60, hc, few, sub, q⟩ := h
    have hr1 := hr.mono (show 1 ≤ 9 by decide)
    have hr3 := hr.mono (show 3 ≤ 9 by decide)
    have hr5 := hr.mono (show 5 ≤ 9 by decide)
    refine ⟨_, (pss_cons (ps_expr (pe_fn GB hr1 (by rfl) (pa_cons (pv 0) pa_nil)))
      (pss_cons (ps_expr (pe_fn GD hr5 (by rfl) (pa_cons (pv 0) (pa_cons (pv 1) pa_nil))))
      (pss_cons (ps_expr (pe_fn GC hr3 (by rfl) (pa_cons (pv 0) (pa_cons (pv 2) pa_nil))))
      (pss_one (ps_ret (pe_and (pe_fn GI hr (by rfl) (pa_cons (pv 0) (pa_cons (pv 1) pa_nil))) (pe_one (pe_fn GS hr3 (by rfl) (pa_cons (pv 1) (pa_cons (pv 2) pa_nil)))))))))), ?_⟩
    obtain ⟨⟨dx, r, k, dn, dd, pn, pd, ok, od, op, kvs, ds, ps, I⟩, bok⟩ := id hb
    refine ⟨.ref x, rfl, x, dx, _, rfl, I.ob, ?_⟩
    refine ⟨.ref x, rfl, .ref d, rfl, x, d, b, th, n, p, tr, rfl, hb, hd, ho, fun H1 s1 => ?_⟩
    refine ⟨.ref x, rfl, .ref c, rfl, x, c, b, ls, rfl, hb.same s1, hc.same s1, few, sub, fun H2 s2 => ?_⟩
    have s12 := s1.trans s2
    refine ⟨.ref x, rfl, .ref d, rfl, x, d, b, th, n, p, tr, rfl, hb.same s12, hd.same s12, ho, l60, fun H3 s3 => ⟨_, rfl, ite2 (fun e => ?_) (fun e => ?_)⟩⟩
    · have s13 := s12.trans s3
      refine ⟨.ref d, rfl, .ref c, rfl, d, c, th, n, tr, ls, rfl, hd.same s13, ho.2.1, hc.same s13, fun H4 s4 => ?_⟩
      have q2 := q _ (s13.trans s4)
      rw [e, Bool.true_and] at q2
      exact q2
    · have q2 := q _ (s12.trans s3)
      rw [Bool.eq_false_iff.mpr e, Bool.false_and] at q2
      exact q2
end
end Lk
set_option Elab.async false
set_option linter.all false
set_option maxRecDepth 100000
set_option maxHeartbeats 8000000
namespace Lw
open PySem PySem.Spec PyProof.Rows L2 TxS LkO Lk LkG
theorem put_tup {K : PySem.W.Frag} {H : Hp} {a D : Addr} {xs ys : List V} {o : HO} (h : SqT K H a xs) (hD : H D = some (.lst ys)) : SqT K (upd H D o) a xs := by
  rcases h with (e | ⟨u, e⟩) | e
  · exact .inl (.inl (TT.put hD _ _ e))
  · refine .inl (.inr ⟨u, ?_⟩)
    rw [upd_ne (fun z => by rw [z, hD] at e; cases e)]
    exact e
  · exact .inr e
theorem put_dbt {K : PySem.W.Frag} {H : Hp} {d D : Addr} {th : Bool} {n : Str} {tr : List Str} {ys : List V} {o : HO} (h : DbtAt K H d th n tr) (hD : H D = some (.lst ys)) : DbtAt K (upd H D o) d th n tr :=
  let ⟨t, h1, h2⟩ := h.ex; ⟨t, put_tup h1 hD, put_tup h2 hD⟩
theorem dbt_mv {K : PySem.W.Frag} {dr : Addr} {H H' : Hp} {d : Addr} {th : Bool} {n : Str} {tr : List Str} (h : DbtAt K H d th n tr) (hS : DrE H dr) (m : Mw dr H H') : DbtAt K H' d th n tr := let ⟨t, h1, h2⟩ := h.ex; ⟨t, m.tup hS h1, m.tup hS h2⟩
/-- a doubt about ws -/
def DbtOn (K : PySem.W.Frag) (b : BldD) (ws : List Str) (H : Hp) (d : Addr) : Prop := ∃ th n p tr, DbtAt K H d th n tr ∧ OkDbt b n p tr ∧ tr.length ≤ 20 ∧ dbtOf b p th tr = true ∧ strikeOf th tr ws = true
theorem DbtOn.same {K : PySem.W.Frag} {b : BldD} {ws : List Str} {H H' : Hp} {d : Addr} (h : DbtOn K b ws H d) (s : Same H H') : DbtOn K b ws H' d := let ⟨th, n, p, tr, h1, h2⟩ := h; ⟨th, n, p, tr, h1.same s, h2⟩
theorem DbtOn.put {K : PySem.W.Frag} {b : BldD} {ws : List Str} {H : Hp} {d D : Addr} {ys : List V} {o : HO} (h : DbtOn K b ws H d) (hD : H D = some (.lst ys)) : DbtOn K b ws (upd H D o) d := let ⟨th, n, p, tr, h1, h2⟩ := h; ⟨th, n, p, tr, put_dbt h1 hD, h2⟩
theorem mix_no {ds : List Addr} {zs : List Str} (h : ds.map V.ref = zs.map V.str) : zs = [] := by
  cases zs with
  | nil => rfl
  | cons z r =>
    cases ds with
    | nil => cases h
    | cons d r2 =>
      rw [List.map_cons, List.map_cons] at h
      cases (List.cons.inj h).1
section
variable {P : Program} {w : World} {K : PySem.W.Frag} {mg : Str → Option Value} {base : Heap} {CD CP CB CL : Addr}
def spMade (K : PySem.W.Frag) (CD CP CB : Addr) : Sp := fun vs H Q _ => ∃ (t x lk : Addr) (b : BldD) (ws : List Str), vs = [.ref t, .ref x, .ref lk] ∧ PlAt H t b ∧ BldAt K CD CP CB H x b ∧ SqT K H lk (ws.map V.str) ∧ ws.Sublist (b.doors.map (·.1)) ∧
  ∀ H' m (ds : List Addr), Same H H' → H m = none → H' m = some (.lst (ds.map V.ref)) → ds.length ≤ 8 → (∀ d ∈ ds, DbtOn K b ws H' d) → (ds = [] ↔ RightS b ws) → Q (.ref m) H'
abbrev nMade : List Str := ["_law_plan", "_law_built_here", "_law_locked", "_law_found", "_law_name", "_law_start", "_law_keys", "_law_wants", "_law_bans", "_law_rooms", "_law_room"]
theorem scMade : FnScope nMade ["_law_plan", "_law_built_here", "_law_locked"] (defScope s__law_made) := ⟨rfl, rfl, rfl, by decide +kernel, rfl, by decide +kernel, by decide +kernel⟩
theorem ok_made {f : Addr} {fd : FuncData} (F : Fun K "_law_made" "_law_made" s__law_made f fd) (B : Blt mg) (GR : Fn P w K mg base 2 "_law_reach" ["_law_plan", "_law_name", "_law_locked"] (spLReach K)) (GL : Fn P w K mg base 5 "_law_locks" ["_law_names_here"] (spLocks K CL))
    (GZ : Fn P w K mg base 7 "trail_of" ["building", "name", "locks"] (spTrailOf K CD CP CB CL)) : FnOk P w K mg base CX0 8 f fd ["_law_plan", "_law_built_here", "_law_locked"] (spMade K CD CP CB) := by
  refine F.ok scMade (fun vs H Q E h => ?_) (fun cdv A outer s H vs Q E hr h => ?_)
  · obtain ⟨t, x, lk, b, ws, rfl, _⟩ := h
    rfl
  · obtain ⟨t, x, lk, b, ws, rfl, hb, hx, hl, sub, q⟩ := h
    have hr2 := hr.mono (show 2 ≤ 7 by decide)
    have hr5 := hr.mono (show 5 ≤ 7 by decide)
    refine ⟨_, (pss_cons (ps_set (i := 3) scMade.nd rfl (.inl rfl) (pe_lst pa_nil))
      (pss_cons (ps_for PassesOwn.never rfl (pi_list (pe_ix ix_tup (pv 0) pe_int (fun _ _ => rfl))) (pg_tup rfl (pgs_cons (pg_name (i := 4) scMade.nd rfl (Or.inl rfl)) (pgs_cons (pg_name (i := 5) scMade.nd rfl (Or.inl rfl)) (pgs_cons (pg_name (i := 6) scMade.nd rfl (Or.inl rfl)) (pgs_cons (pg_name (i := 7) scMade.nd rfl (Or.inl rfl)) (pgs_cons (pg_name (i := 8) scMade.nd rfl (Or.inl rfl)) pgs_nil)))))) (pss_cons (ps_set (i := 9) scMade.nd rfl (.inr rfl) (pe_fn GR hr2 (by rfl) (pa_cons (pv 0) (pa_cons (pv 4) (pa_cons (pv 2) pa_nil)))))
      (pss_cons (ps_if (pt_val (pe_callB (cr_any rfl) (by rfl) B.any PyProof.Rows.boot_any (pa_cons (pe_lc (own := [("_law_room", 10)]) (g := (gName 10)) (tt := tYes) (te := (tOp (rIn K false) (tVar 10) (tVar 9))) rfl scMade.nd  (pi_tup (pv 8)) (blkOk_by (N := nMade) (sc := defScope s__law_made) (by decide +kernel)) (fun _ _ _ _ _ => (pg_name (i := 10) scMade.nd rfl (Or.inl rfl))) (fun _ _ _ _ _ => pts_nil) (fun _ _ _ _ _ => (pe_cmpR (r := (rIn K false)) op_in_seq (pv 10) (pv 9) rfl))) pa_nil))) (pss_one (ps_expr (pe_bm PySem.F.plainAttrs_list PySem.F.slot_list_append PySem.F.type_list_append mt_append (pv 3) (pa_cons (pe_tup (pa_cons pe_str (pa_cons (pv 4) (pa_cons (pe_fn GZ hr (by rfl) (pa_cons (pv 1) (pa_cons (pv 4) (pa_cons (pe_fn GL hr5 (by rfl) (pa_cons (pv 2) pa_nil)) pa_nil)))) pa_nil)))) pa_nil)))) pss_nil)
      (pss_one (ps_if (pt_val (pe_callB (cr_any rfl) (by rfl) B.any PyProof.Rows.boot_any (pa_cons (pe_lc (own := [("_law_room", 10)]) (g := (gName 10)) (tt := tYes) (te := (tOp (rIn K true) (tVar 10) (tVar 9))) rfl scMade.nd  (pi_tup (pv 7)) (blkOk_by (N := nMade) (sc := defScope s__law_made) (by decide +kernel)) (fun _ _ _ _ _ => (pg_name (i := 10) scMade.nd rfl (Or.inl rfl))) (fun _ _ _ _ _ => pts_nil) (fun _ _ _ _ _ => (pe_cmpR (r := (rIn K true)) op_notIn_seq (pv 10) (pv 9) rfl))) pa_nil))) (pss_one (ps_expr (pe_bm PySem.F.plainAttrs_list PySem.F.slot_list_append PySem.F.type_list_append mt_append (pv 3) (pa_cons (pe_tup (pa_cons pe_str (pa_cons (pv 4) (pa_cons (pv 2) pa_nil)))) pa_nil)))) pss_nil)))))
      (pss_one (ps_ret (pv 3))))), ?_⟩
    obtain ⟨⟨r, k, dd, pd, kas, das, pas, I⟩, bok⟩ := id hb
    have three : (3 : Nat) ≤ sizeLine := by rw [sizeLine_eq]; decide
    have p4 := bok.p4
    have d8 := bok.d8
    have lw : ws.length ≤ 8 := Nat.le_trans sub.length_le (by rw [List.length_map]; exact d8)
    have subw : ∀ z ∈ ws, z ∈ b.doors.map (·.1) := fun z hz => sub.subset hz
    have nmw := door_nm bok subw
    have mem : ∀ z, z ∈ srt ws ↔ z ∈ ws := fun z => mem_srt ws z
    refine ⟨Nat.zero_le _, fun D nD => ?_⟩
    have sD := same_new (o := .lst []) nD
    refine ⟨.ref t, rfl, t, _, 3, _, rfl, rfl, .inl (.inl (sD _ _ I.ob)), rfl, pd, rfl, ⟨_, .inl (.inl (sD _ _ I.people))⟩, for_it (walk_list (xs := pas.map V.ref)) (fun i σ H' => Same H H' ∧ ∃ (ds : List Addr) (y4 y5 y6 y7 y8 y9 : Option V), H' D = some (.lst (ds.map V.ref)) ∧ ds.length ≤ 2 * i ∧ (∀ d ∈ ds, DbtOn K b ws H' d) ∧ (ds = [] ↔ ∀ q ∈ b.people.take i, (∀ u ∈ q.2.needs, Rch b q.2 ws u) ∧ ∀ u ∈ q.2.shuns, ¬ Rch b q.2 ws u) ∧
      σ = [some (.ref t), some (.ref x), some (.ref lk), some (.ref D), y4, y5, y6, y7, y8, y9, none]) ⟨sD, [], none, none, none, none, none, none, upd_same, Nat.le_refl _, (fun _ h => by cases h), ⟨fun _ q hq => by simp at hq, fun _ => rfl⟩, rfl⟩ (fun i σ H' _ hP => .inl (.inl (hP.1 _ _ I.people))) (fun i v σ H4 H5 hi hP hY => ?_) (fun σ H4 hP => ?_)⟩
    · obtain ⟨rfl, hv⟩ := hY
      obtain ⟨s4, ds, y4, y5, y6, y7, y8, y9, eD, lds, hds, hnil, rfl⟩ := hP
      obtain ⟨tr, htr, rfl⟩ := at_map hv
      obtain ⟨⟨n, p⟩, hg, ⟨t1, t2, t3, row, e1, e2, e3⟩⟩ := pair_at I.peopleT htr
      have hm := List.mem_of_getElem? hg
      have hn := look_at bok.pnd hm
      have pok : p.ok := (bok.people _ hm).2.1
      have hi4 : i < 4 := by
        have := (List.getElem?_eq_some_iff.mp hg).1
        omega
      have inN : ∀ u ∈ p.needs, u ∈ b.rooms := (bok.people _ hm).2.2.2.2.1
      have inS : ∀ u ∈ p.shuns, u ∈ b.rooms := (bok.people _ hm).2.2.2.2.2
      refine ⟨tr, _, rfl, .inl (.inl (s4 _ _ row)), rfl, _, _, rfl, _, _, rfl, _, _, rfl, _, _, rfl, _, _, rfl, rfl, ?_⟩
      refine ⟨.ref t, rfl, .str n, rfl, .ref lk, rfl, t, lk, b, n, p, ws, rfl, hb.same s4, hn, Same.tup s4 hl, fun H6 m g s6 em hg' => ?_⟩
      have s06 := s4.trans s6
      have memR : ∀ u, u ∈ b.rooms → (u ∈ b.rooms.filter g ↔ Rch b p ws u) := fun u hu => by rw [List.mem_filter, hg' u]; exact ⟨fun h => h.2, fun h => ⟨hu, h⟩⟩
      refine ⟨.ref t3, rfl, t3, rfl, ⟨_, .inl (.inl (s06 _ _ e3))⟩, fun D2 nD2 => lc_m (walk_tup (xs := p.shuns.map V.str)) p.shuns (fun z => .bl (decide (z ∈ b.rooms.filter g))) (by rw [List.length_map]) nD2 (by have := pok.few3; omega) (fun H' s => .inl (.inl (s _ _ (s06 _ _ e3)))) (fun j z v H7 H8 Kt hz s7 hY k => ?_) (fun H7 s7 eD2 => ?_)⟩
      · obtain ⟨rfl, hx'⟩ := hY
        rw [List.getElem?_map, hz] at hx'
        cases hx'
        refine ⟨rfl, .str z, rfl, .ref m, rfl, m, _, rfl, .inl (.inl (.inl (s7 _ _ em))), rfl, Lk.flat_strs _, ?_⟩
        rw [inV_str]
        exact k _ (Same.refl _)
      have s07 := s06.trans s7
      have eD7 := s7 _ _ (s6 _ _ eD)
      have em7 := s7 _ _ em
      have nmD : m ≠ D := fun z => by
        rw [z, eD7] at em7
        have e0 := mix_no (HO.lst.inj (Option.some.inj em7))
        have hin : p.a ∈ b.rooms.filter g := (memR p.a (bok.people _ hm).2.2.1).2 .start
        rw [e0] at hin
        cases hin
      have hds7 : ∀ u ∈ ds, DbtOn K b ws H7 u := fun u hu => (hds u hu).same (s6.trans s7)
      refine ⟨D2, p.shuns.map fun z => decide (z ∈ b.rooms.filter g), rfl, .inl (.inl (by rw [List.map_map]; exact eD2)), _, rfl, ite2 (fun ea => ?_) (fun ea => ?_)⟩
      -- a trail leads where they must not be
      have hsh : ∃ z ∈ p.shuns, Rch b p ws z := by
        rw [List.any_map, List.any_eq_true] at ea
        obtain ⟨z, hz, hd⟩ := ea
        exact ⟨z, hz, (memR z (inS z hz)).1 (of_decide_eq_true hd)⟩
      refine ⟨.ref D, rfl, .inl ⟨rfl, _, .inl (.inl eD7)⟩, .str n, rfl, .ref x, rfl, .str n, rfl, .ref lk, rfl, lk, ws, rfl, Same.tup s07 hl, nmw, by omega, fun H8 c s8 hc => ?_⟩
      have s08 := s07.trans s8
      refine ⟨x, c, b, n, p, srt ws, rfl, hx.same s08, hn, hc, Nat.le_trans (len_srt ws) (by omega), fun z hz => subw z ((mem z).1 hz), fun H9 ft s9 eft => ⟨three, fun d nd => ?_⟩⟩
      have s10 := same_new (o := .tup [.str "through", .str n, .ref ft]) nd
      have s710 := s8.trans (s9.trans s10)
      have eD10 := s710 _ _ eD7
      rw [show trailOf b p (srt ws) = trailOf b p ws from trail_same mem _ _] at eft
      obtain ⟨lft, sft⟩ := trail_sub (b := b) (p := p) (ls := ws) 6 [p.a]
      have hon : DbtOn K b ws (upd H9 d (.tup [.str "through", .str n, .ref ft])) d := by
        obtain ⟨z, hz, hrz⟩ := hsh
        obtain ⟨md1, md2⟩ := made_thr bok hz hrz
        exact ⟨true, n, p, trailOf b p ws, ⟨ft, .inl (.inl upd_same), Same.tup s10 eft⟩, ⟨hn, Nat.le_trans lft (by decide), sft⟩, Nat.le_trans lft (by decide), md1, md2⟩
      refine ⟨D, _, _, rfl, rfl, eD10, by rw [List.length_map]; exact small1000 (by omega), ?_⟩
      have s8' : Same H (upd (upd H9 d (.tup [.str "through", .str n, .ref ft])) D (.lst (ds.map V.ref ++ [.ref d]))) := Same.up (s07.trans s710) nD
      have hds1 : ∀ u ∈ ds ++ [d], DbtOn K b ws (upd (upd H9 d (.tup [.str "through", .str n, .ref ft])) D (.lst (ds.map V.ref ++ [.ref d]))) u := fun u hu => by
        rcases List.mem_append.mp hu with c | c
        · exact ((hds7 u c).same s710).put eD10
        · rw [List.mem_singleton.mp c]
          exact hon.put eD10
      have eD8 : (upd (upd H9 d (.tup [.str "through", .str n, .ref ft])) D (.lst (ds.map V.ref ++ [.ref d]))) D = some (.lst ((ds ++ [d]).map V.ref)) := by
        rw [upd_same, List.map_append]
        rfl
      have em8 : (upd (upd H9 d (.tup [.str "through", .str n, .ref ft])) D (.lst (ds.map V.ref ++ [.ref d]))) m = some (.lst ((b.rooms.filter g).map V.str)) := by
        rw [upd_ne nmD]
        exact s710 _ _ em7
      have l1 : (ds ++ [d]).length ≤ 2 * i + 1 := by rw [List.length_append, List.length_singleton]; omega
      have hnil1 : ds ++ [d] = [] ↔ (∀ q ∈ b.people.take i, (∀ u ∈ q.2.needs, Rch b q.2 ws u) ∧ ∀ u ∈ q.2.shuns, ¬ Rch b q.2 ws u) ∧ ∀ u ∈ p.shuns, ¬ Rch b p ws u := by
        obtain ⟨z, hz, hrz⟩ := hsh
        exact ⟨fun h => by simp at h, fun h => absurd hrz (h.2 z hz)⟩
      generalize upd (upd H9 d (.tup [.str "through", .str n, .ref ft])) D (.lst (ds.map V.ref ++ [.ref d])) = H11 at s8' hds1 eD8 em8 ⊢
      generalize ds ++ [d] = ds1 at hds1 eD8 l1 hnil1
      clear hon eft s710 eD10 s10 s9 s08 s8 hc nd hsh ea
      rotate_left
      have s8' := s07
      have hds1 := hds7
      have eD8 := eD7
      have em8 := em7
      have l1 : ds.length ≤ 2 * i + 1 := by omega
      have hnil1 : ds = [] ↔ (∀ q ∈ b.people.take i, (∀ u ∈ q.2.needs, Rch b q.2 ws u) ∧ ∀ u ∈ q.2.shuns, ¬ Rch b q.2 ws u) ∧ ∀ u ∈ p.shuns, ¬ Rch b p ws u := by
        rw [hnil]
        refine ⟨fun h => ⟨h, fun u hu hr' => ea ?_⟩, fun h => h.1⟩
        rw [List.any_map, List.any_eq_true]
        exact ⟨u, hu, decide_eq_true ((memR u (inS u hu)).2 hr')⟩
      obtain ⟨H11, eH11⟩ : ∃ H11, H11 = H7 := ⟨_, rfl⟩
      obtain ⟨ds1, eds1⟩ : ∃ ds1, ds1 = ds := ⟨_, rfl⟩
      rw [← eH11] at s8' hds1 eD8 em8 ⊢
      rw [← eds1] at hds1 eD8 l1 hnil1
      clear eds1 ea
      all_goals
        refine ⟨.ref t2, rfl, t2, rfl, ⟨_, .inl (.inl (s8' _ _ e2))⟩, fun D3 nD3 => lc_m (walk_tup (xs := p.needs.map V.str)) p.needs (fun z => .bl (!decide (z ∈ b.rooms.filter g))) (by rw [List.length_map]) nD3 (by have := pok.few2; omega) (fun H' s => .inl (.inl (s _ _ (s8' _ _ e2)))) (fun j z v H12 H13 Kt hz s12 hY k => ?_) (fun H12 s12 eD3 => ?_)⟩
        · obtain ⟨rfl, hx'⟩ := hY
          rw [List.getElem?_map, hz] at hx'
          cases hx'
          refine ⟨rfl, .str z, rfl, .ref m, rfl, m, _, rfl, .inl (.inl (.inl (s12 _ _ em8))), rfl, Lk.flat_strs _, ?_⟩
          rw [inV_str]
          exact k _ (Same.refl _)
        have s012 := s8'.trans s12
        have eD12 := s12 _ _ eD8
        refine ⟨D3, p.needs.map fun z => !decide (z ∈ b.rooms.filter g), rfl, .inl (.inl (by rw [List.map_map]; exact eD3)), _, rfl, ite2 (fun eb => ?_) (fun eb => ?_)⟩
        · have hnd : ∃ u ∈ p.needs, ¬ Rch b p ws u := by
            rw [List.any_map, List.any_eq_true] at eb
            obtain ⟨z, hz, hd⟩ := eb
            have hd : (!decide (z ∈ b.rooms.filter g)) = true := hd
            refine ⟨z, hz, fun hr' => ?_⟩
            rw [decide_eq_true ((memR z (inN z hz)).2 hr')] at hd
            cases hd
          refine ⟨.ref D, rfl, .inl ⟨rfl, _, .inl (.inl eD12)⟩, .str n, rfl, .ref lk, rfl, three, fun d nd => ?_⟩
          have s13 := same_new (o := .tup [.str "shut", .str n, .ref lk]) nd
          have eD13 := s13 _ _ eD12
          refine ⟨D, _, _, rfl, rfl, eD13, by rw [List.length_map]; exact small1000 (by omega), Same.up (s012.trans s13) nD, ds1 ++ [d], _, _, _, _, _, _, by rw [upd_same, List.map_append]; rfl, by rw [List.length_append, List.length_singleton]; omega, fun u hu => ?_, ⟨fun h => by simp at h, fun h => ?_⟩, rfl⟩
          · rcases List.mem_append.mp hu with c | c
            · exact ((hds1 u c).same (s12.trans s13)).put eD13
            · rw [List.mem_singleton.mp c]
              obtain ⟨u', hu', hr'⟩ := hnd
              obtain ⟨md1, md2⟩ := made_shut bok sub hu' hr'
              exact DbtOn.put ⟨false, n, p, ws, ⟨lk, .inl (.inl upd_same), Same.tup (s012.trans s13) hl⟩, ⟨hn, by omega, subw⟩, by omega, md1, md2⟩ eD13
          · obtain ⟨u', hu', hr'⟩ := hnd
            exact absurd ((h (n, p) (by rw [take_next1 hg]; exact List.mem_append_right _ (by simp))).1 u' hu') hr'
        · refine ⟨s012, ds1, _, _, _, _, _, _, eD12, by omega, fun u hu => (hds1 u hu).same s12, ?_, rfl⟩
          rw [hnil1, take_next1 hg]
          refine ⟨fun h q hq => ?_, fun h => ⟨fun q hq => h q (List.mem_append_left _ hq), (h (n, p) (List.mem_append_right _ (by simp))).2⟩⟩
          rcases List.mem_append.mp hq with c | c
          · exact h.1 q c
          · rw [List.mem_singleton.mp c]
            refine ⟨fun u hu => Classical.byContradiction fun hr' => eb ?_, h.2⟩
            rw [List.any_map, List.any_eq_true]
            refine ⟨u, hu, ?_⟩
            show (!decide (u ∈ b.rooms.filter g)) = true
            rw [decide_eq_false (fun hm' => hr' ((memR u (inN u hu)).1 hm'))]
            rfl
    · obtain ⟨s4, ds, y4, y5, y6, y7, y8, y9, eD, lds, hds, hnil, rfl⟩ := hP
      rw [List.length_map, Paired.length I.peopleT] at lds
      rw [List.length_map, Paired.length I.peopleT, List.take_length] at hnil
      exact ⟨.ref D, rfl, q _ D ds s4 nD eD (by omega) hds hnil⟩
end
end Lw
set_option Elab.async false
set_option linter.all false
set_option maxRecDepth 100000
set_option maxHeartbeats 8000000
namespace Lw
open PySem PySem.Spec PyProof.Rows L2 TxS LkO Lk LkG
structure DbtR where
  (a : Addr) (th : Bool) (n : Str) (p : PersonD) (tr : List Str)
def DbtR.ok (K : PySem.W.Frag) (b : BldD) (H : Hp) (r : DbtR) : Prop := DbtAt K H r.a r.th r.n r.tr ∧ OkDbt b r.n r.p r.tr ∧ r.tr.length ≤ 20
theorem DbtR.ok.same {K : PySem.W.Frag} {b : BldD} {H H' : Hp} {r : DbtR} (h : r.ok K b H) (s : Same H H') : r.ok K b H' := ⟨h.1.same s, h.2⟩
theorem DbtR.ok.mv {K : PySem.W.Frag} {b : BldD} {dr : Addr} {H H' : Hp} {r : DbtR} (h : r.ok K b H) (hS : DrE H dr) (m : Mw dr H H') : r.ok K b H' := ⟨dbt_mv h.1 hS m, h.2⟩
theorem DbtR.ok.put {K : PySem.W.Frag} {b : BldD} {H : Hp} {r : DbtR} {D : Addr} {ys : List V} {o : HO} (h : r.ok K b H) (hD : H D = some (.lst ys)) : r.ok K b (upd H D o) := ⟨put_dbt h.1 hD, h.2⟩
/-! ### doubts, bools as data -/
theorem dp_bools {K : PySem.W.Frag} {H : Hp} : ∀ bs : List Bool, DpAll K H (bs.map V.bl) (bs.map PyData.bool)
  | [] => .nil
  | b :: r => .cons (.bl b) (dp_bools r)
theorem lay_bools : ∀ bs : List Bool, PyData.canLayAll0 (bs.map PyData.bool) = true ∧ PyData.depthAll (bs.map PyData.bool) ≤ 5
  | [] => by simp [PyData.canLayAll0, PyData.depthAll]
  | b :: r => by
    obtain ⟨h1, h2⟩ := lay_bools r
    simp only [List.map_cons, PyData.canLayAll0, PyData.canLay0, PyData.depthAll, PyData.depth]
    refine ⟨by rw [h1]; rfl, by omega⟩
theorem shaped_list {ks : List PyData} (h1 : PyData.canLayAll0 ks = true) (h2 : PyData.depthAll ks ≤ 20) : SeqAt.shaped (.list ks) = true := by
  have h3 : PyData.depth (.list ks) ≤ 64 := by simp only [PyData.depth]; omega
  show (PyData.canLay0 _ && decide _) = true
  rw [Bool.and_eq_true]
  exact ⟨by simp only [PyData.canLay0]; exact h1, decide_eq_true h3⟩
theorem word_ok (th : Bool) : PyData.strOk (wordOf th) = true := by cases th <;> decide +kernel
theorem dbts_data {K : PySem.W.Frag} {H : Hp} {b : BldD} (ok : b.ok) {ws : List Str} : ∀ ds : List Addr, (∀ d ∈ ds, DbtOn K b ws H d) → ∃ ks, DpAll K H (ds.map V.ref) ks ∧ PyData.canLayAll0 ks = true ∧ PyData.depthAll ks ≤ 10 ∧ (ks = [] ↔ ds = [])
  | [], _ => ⟨[], .nil, by simp [PyData.canLayAll0], by simp [PyData.depthAll], ⟨fun _ => rfl, fun _ => rfl⟩⟩
  | d :: r, h => by
    obtain ⟨ks, h1, h2, h3, _⟩ := dbts_data ok r fun d hd => h d (List.mem_cons_of_mem _ hd)
    obtain ⟨th, n, p, tr, ⟨t, g1, g2⟩, ⟨hn, _, sub⟩, _⟩ := h d List.mem_cons_self
    have nmn := nm_ok (ok.people _ (look_mem hn)).1
    have nmt := canLay_strs tr fun z hz => nm_ok (door_nm ok sub z hz)
    have dt := depth_strs tr
    refine ⟨.tuple [.str (wordOf th), .str n, .tuple (tr.map PyData.str)] :: ks, .cons (.tup g1 (.cons (.str _) (.cons (.str _) (.cons (.tup g2 (dp_strs tr)) .nil)))) h1, ?_, ?_, ⟨fun e => (by cases e), fun e => (by cases e)⟩⟩
    · simp [PyData.canLayAll0, PyData.canLay0, word_ok th, nmn, nmt, h2]
    · simp only [PyData.depthAll, PyData.depth]
      omega
theorem eqv_none (ks : List PyData) : PyData.eqv (.list ks) (.list []) = ks.isEmpty := by
  cases ks <;> simp [PyData.eqv, PyData.eqvAll]
theorem eqB' {x y : Bool} (h : x = y) : (!decide (V.bl x = V.bl y)) = false := neV (congrArg V.bl h)
section
variable {P : Program} {w : World} {K : PySem.W.Frag} {mg : Str → Option Value} {base : Heap} {CD CP CB CL : Addr}
def spLaw (K : PySem.W.Frag) : Sp := fun vs H Q _ => ∃ (a : Addr) (ns : List Int), vs = [.ref a] ∧ SqL K H a (ns.map V.int) ∧ ns.length ≤ 63 ∧ ∀ H', Q (.bl true) H'
abbrev nLaw : List Str := ["_law_script", "_law_draws", "_law_plan", "_law_built_here", "_law_doubts", "_law_turn", "_law_row", "_law_doubt_here", "_law_locked", "_law_locks_here", "_law_is_right_here", "_law_some_here"]
theorem scLaw : FnScope nLaw ["_law_script"] (defScope s_law) := ⟨rfl, rfl, rfl, by decide +kernel, rfl, by decide +kernel, by decide +kernel⟩
theorem ok_law {f : Addr} {fd : FuncData} (F : Fun K "law" "law" s_law f fd) (B : Blt mg)
    (GO : Fn P w K mg base 4 "_law_pool" ["_law_script", "_law_bases"] (spPool K)) (GD : Fn P w K mg base 3 "_law_drawn" ["_law_draws", "_law_most"] (spDrawn K)) (GB : Fn P w K mg base 7 "_law_built" ["_law_plan"] (spBuilt K CD CP CB))
    (GQ : Fn P w K mg base 3 "_law_doubt" ["_law_draws", "_law_plan"] (spDbt K)) (GN : Fn P w K mg base 1 "_law_names" ["_law_plan"] (spLNames K)) (GS : Fn P w K mg base 2 "_law_sets" ["_law_plan"] spSets)
    (GL : Fn P w K mg base 5 "_law_locks" ["_law_names_here"] (spLocks K CL)) (GV : Fn P w K mg base 3 "_law_is_right" ["_law_plan", "_law_locked"] (spLRight K)) (GM : Fn P w K mg base 8 "_law_made" ["_law_plan", "_law_built_here", "_law_locked"] (spMade K CD CP CB))
    (GJ : Fn P w K mg base 3 "_law_is_doubt" ["_law_plan", "_law_doubt_here"] (spLDbt K)) (GT : Fn P w K mg base 4 "_law_is_out" ["_law_plan", "_law_doubt_here", "_law_locked"] (spLOut K))
    (GI : Fn P w K mg base 9 "is_doubt" ["building", "doubt"] (spIsDbt K CD CP CB)) (GU : Fn P w K mg base 10 "rules_out" ["building", "doubt", "locks"] (spRules K CD CP CB CL)) :
    FnOk P w K mg base CX0 11 f fd ["_law_script"] (spLaw K) := by
  refine F.ok scLaw (fun vs H Q E h => ?_) (fun cdv A outer s H vs Q E hr h => ?_)
  · obtain ⟨a, ns, rfl, _⟩ := h
    rfl
  · obtain ⟨a, ns, rfl, hS, hl, q⟩ := h
    have hr1 := hr.mono (show 1 ≤ 10 by decide)
    have hr2 := hr.mono (show 2 ≤ 10 by decide)
    have hr3 := hr.mono (show 3 ≤ 10 by decide)
    have hr4 := hr.mono (show 4 ≤ 10 by decide)
    have hr5 := hr.mono (show 5 ≤ 10 by decide)
    have hr7 := hr.mono (show 7 ≤ 10 by decide)
    have hr8 := hr.mono (show 8 ≤ 10 by decide)
    have hr9 := hr.mono (show 9 ≤ 10 by decide)
    refine ⟨_, (pss_cons (ps_set (i := 0) scLaw.nd rfl (.inl rfl) (pe_slice sl_list (pv 0) po_none (po_some pe_int)))
      (pss_cons (ps_set (i := 1) scLaw.nd rfl (.inr rfl) (pe_fn GO hr4 (by rfl) (pa_cons (pv 0) (pa_cons (pe_tup (pa_cons pe_int (pa_cons pe_int pa_nil))) pa_nil))))
      (pss_cons (ps_set (i := 2) scLaw.nd rfl (.inr rfl) (pe_fn GD hr3 (by rfl) (pa_cons (pv 1) (pa_cons pe_int pa_nil))))
      (pss_cons (ps_set (i := 3) scLaw.nd rfl (.inr rfl) (pe_fn GB hr7 (by rfl) (pa_cons (pv 2) pa_nil)))
      (pss_cons (ps_setLc (i := 4) (own := [("_law_turn", 5)]) (g := (gName 5)) (tt := tYes) (te := (tCall (spDbt K) [] E0 (tCons (tVar 1) (tCons (tVar 2) tNil)))) rfl scLaw.nd rfl rfl (sw_true rfl rfl rfl (by decide +kernel)) (pi_range1 (by rfl) B.rng (pa_cons pe_int pa_nil)) (blkOk_by (N := nLaw) (sc := defScope s_law) (by decide +kernel)) (fun _ _ _ _ _ => (pg_name (i := 5) scLaw.nd rfl (Or.inl rfl))) (fun _ _ _ _ _ => pts_nil) (fun _ _ _ _ _ => (pe_fn GQ hr3 (by rfl) (pa_cons (pv 1) (pa_cons (pv 2) pa_nil)))))
      (pss_cons (ps_for PassesOwn.never rfl (pi_list (pe_ix ix_tup (pv 2) pe_int (fun _ _ => rfl))) (pg_name (i := 6) scLaw.nd rfl (Or.inl rfl)) (pss_one (ps_expr (pe_bm PySem.F.plainAttrs_list PySem.F.slot_list_append PySem.F.type_list_append mt_append (pv 4) (pa_cons (pe_tup (pa_cons pe_str (pa_cons (pe_ix ix_tup (pv 6) pe_int (fun _ _ => rfl)) (pa_cons (pe_callTy call_tuple_of (by rfl) B.tup PyProof.Rows.boot_tuple (pa_cons (pe_revL (pe_fn GN hr1 (by rfl) (pa_cons (pv 2) pa_nil))) pa_nil)) pa_nil)))) pa_nil)))))
      (pss_cons (ps_if (pt_cmpR (op_neD hr.units) (pe_lc (own := [("_law_doubt_here", 7)]) (g := (gName 7)) (tt := tYes) (te := (tCall (spIsDbt K CD CP CB) [] E0 (tCons (tVar 3) (tCons (tVar 7) tNil)))) rfl scLaw.nd  (pi_list (pv 4)) (blkOk_by (N := nLaw) (sc := defScope s_law) (by decide +kernel)) (fun _ _ _ _ _ => (pg_name (i := 7) scLaw.nd rfl (Or.inl rfl))) (fun _ _ _ _ _ => pts_nil) (fun _ _ _ _ _ => (pe_fn GI hr9 (by rfl) (pa_cons (pv 3) (pa_cons (pv 7) pa_nil))))) (pe_lc (own := [("_law_doubt_here", 7)]) (g := (gName 7)) (tt := tYes) (te := (tCall (spLDbt K) [] E0 (tCons (tVar 2) (tCons (tVar 7) tNil)))) rfl scLaw.nd  (pi_list (pv 4)) (blkOk_by (N := nLaw) (sc := defScope s_law) (by decide +kernel)) (fun _ _ _ _ _ => (pg_name (i := 7) scLaw.nd rfl (Or.inl rfl))) (fun _ _ _ _ _ => pts_nil) (fun _ _ _ _ _ => (pe_fn GJ hr3 (by rfl) (pa_cons (pv 2) (pa_cons (pv 7) pa_nil))))) (nomark _)) (pss_one (ps_ret pe_bl)) pss_nil)
      (pss_cons (ps_for PassesOwn.never rfl (pi_list (pe_fn GS hr2 (by rfl) (pa_cons (pv 2) pa_nil))) (pg_name (i := 8) scLaw.nd rfl (Or.inl rfl)) (pss_cons (ps_asg (pe_tup (pa_cons (pe_fn GL hr5 (by rfl) (pa_cons (pv 8) pa_nil)) (pa_cons (pe_fn GV hr3 (by rfl) (pa_cons (pv 2) (pa_cons (pv 8) pa_nil))) pa_nil))) (pg_tup rfl (pgs_cons (pg_name (i := 9) scLaw.nd rfl (Or.inr rfl)) (pgs_cons (pg_name (i := 10) scLaw.nd rfl (Or.inl rfl)) pgs_nil))))
      (pss_cons (ps_for PassesOwn.never rfl (pi_list (pv 4)) (pg_name (i := 7) scLaw.nd rfl (Or.inl rfl)) (pss_one (ps_if (PW.pt (pw_or (pt_cmpR op_ne (pe_fn GU hr (by rfl) (pa_cons (pv 3) (pa_cons (pv 7) (pa_cons (pv 9) pa_nil)))) (pe_fn GT hr4 (by rfl) (pa_cons (pv 2) (pa_cons (pv 7) (pa_cons (pv 8) pa_nil)))) (nomark _)) (pw_or1 (PW.pt (pw_and (pt_val (pv 10)) (pw_and1 (pt_val (pe_fn GT hr4 (by rfl) (pa_cons (pv 2) (pa_cons (pv 7) (pa_cons (pv 8) pa_nil))))))))))) (pss_one (ps_ret pe_bl)) pss_nil)))
      (pss_cons (ps_set (i := 11) scLaw.nd rfl (.inl rfl) (pe_fn GM hr8 (by rfl) (pa_cons (pv 2) (pa_cons (pv 3) (pa_cons (pv 8) pa_nil)))))
      (pss_one (ps_if (PW.pt (pw_or (pt_cmpR op_ne (pe_cmpR (op_eqD hr.units) (pv 11) (pe_lst pa_nil) (nomark _)) (pv 10) (nomark _)) (pw_or1 (pt_not (pt_val (pe_callB (cr_all rfl) (by rfl) B.all PyProof.Rows.boot_all (pa_cons (pe_lc (own := [("_law_doubt_here", 7)]) (g := (gName 7)) (tt := tYes) (te := (tCall (spRules K CD CP CB CL) [] E0 (tCons (tVar 3) (tCons (tVar 7) (tCons (tVar 9) tNil))))) rfl scLaw.nd  (pi_list (pv 11)) (blkOk_by (N := nLaw) (sc := defScope s_law) (by decide +kernel)) (fun _ _ _ _ _ => (pg_name (i := 7) scLaw.nd rfl (Or.inl rfl))) (fun _ _ _ _ _ => pts_nil) (fun _ _ _ _ _ => (pe_fn GU hr (by rfl) (pa_cons (pv 3) (pa_cons (pv 7) (pa_cons (pv 9) pa_nil)))))) pa_nil))))))) (pss_one (ps_ret pe_bl)) pss_nil))))))
      (pss_one (ps_ret pe_bl)))))))))), ?_⟩
    have three : (3 : Nat) ≤ sizeLine := by rw [sizeLine_eq]; decide
    -- the draws
    refine ⟨.ref a, rfl, 63, rfl, a, _, rfl, hS, fun p1 np1 => ?_⟩
    have ecut : cutV (ns.map V.int) none (some 63) = (ns.take 63).map V.int := by
      have := cut_take (ns.map V.int) 63
      rw [← List.map_take] at this
      exact this
    rw [ecut]
    refine ⟨.ref p1, rfl, by show 2 ≤ sizeLine; rw [sizeLine_eq]; decide, fun p2 np2 => ?_⟩
    refine ⟨p1, p2, ns.take 63, rfl, .inl (.inl (same_new np2 _ _ upd_same)), .inl (.inl upd_same), fun ds0 H3 dr s3 ndr edr => ?_⟩
    refine ⟨.ref dr, rfl, dr, 5, rfl, by decide, by decide, ⟨ds0, edr⟩, fun H4 t b l5 sub6 sub2 m4 pl4 => ?_⟩
    have bok := pl4.ok
    have S4 := m4.se
    refine ⟨.ref t, rfl, t, b, rfl, pl4.at_, fun H5 x s5 hb5 => ?_⟩
    have pl5 := pl4.mv S4 (Mw.of S4 s5)
    have S5 := S4.same s5
    have d8 := bok.d8
    have p4 := bok.p4
    -- the doubts
    refine ⟨8, rfl, by decide, by decide, fun D nD => ?_⟩
    have nDdr : D ≠ dr := S5.new nD
    refine lc_it walk_range (fun i H' => Mw dr H5 H' ∧ ∃ rs : List DbtR, H' D = some (.lst (rs.map fun r => V.ref r.a)) ∧ rs.length = i ∧ ∀ r ∈ rs, r.ok K b H') ⟨Mw.new (Mw.refl S5) S5 nD, [], upd_same, rfl, fun _ h => (by cases h)⟩ (fun _ _ _ _ => trivial) (fun i v H6 H7 hi hP hY => ?_) (fun H6 hP => ?_)
    · obtain ⟨rfl, rfl⟩ := hY
      obtain ⟨m6, rs, eD, lrs, hrs⟩ := hP
      have S6 := m6.se
      refine ⟨rfl, .ref dr, rfl, .ref t, rfl, dr, t, b, rfl, S6, pl5.mv S5 m6, fun H8 d th n p tr m8 hd ho l20 => ?_⟩
      have eD8 := m8.sx _ _ eD nDdr
      refine ⟨_, eD8, by rw [List.length_map, sizeLine_eq]; omega, Mw.new (m6.trans m8) S5 nD, rs ++ [⟨d, th, n, p, tr⟩], by rw [upd_same, List.map_append]; rfl, by rw [List.length_append, lrs]; rfl, fun r hr' => ?_⟩
      rcases List.mem_append.mp hr' with c | c
      · exact ((hrs r c).mv S6 m8).put eD8
      · rw [List.mem_singleton.mp c]
        exact DbtR.ok.put ⟨hd, ho, l20⟩ eD8
    · obtain ⟨m6, rs, eD, lrs, hrs⟩ := hP
      have S6 := m6.se
      have pl6 := pl5.mv S5 m6
      have lrs : rs.length = 8 := by
        rw [lrs]
        rfl
      obtain ⟨⟨r, k, dd, pd, kas, das, pas, I, nk, nd', npd⟩, _⟩ := id pl6
      have lpas : pas.length = b.people.length := Paired.length I.peopleT
      refine ⟨.ref t, rfl, t, _, 3, _, rfl, rfl, .inl (.inl I.ob), rfl, pd, rfl, ⟨_, .inl (.inl I.people)⟩, for_it (walk_list (xs := pas.map V.ref)) (fun i σ H' => Mw dr H5 H' ∧ PlX dr H' t b ∧ H' pd = some (.lst (pas.map V.ref)) ∧ Paired (rowP H') pas b.people ∧ ∃ (rs : List DbtR) (y6 : Option V), H' D = some (.lst (rs.map fun r => V.ref r.a)) ∧ rs.length = 8 + i ∧ (∀ r ∈ rs, r.ok K b H') ∧
        σ = [some (.ref p1), some (.ref dr), some (.ref t), some (.ref x), some (.ref D), none, y6, none, none, none, none, none]) ⟨m6, pl6, I.people, I.peopleT, rs, none, eD, lrs, hrs, rfl⟩ (fun i σ H' _ hP => .inl (.inl hP.2.2.1)) (fun i v σ H7 H8 hi hP hY => ?_) (fun σ H7 hP => ?_)⟩
      · obtain ⟨rfl, hv⟩ := hY
        obtain ⟨m7, pl7, epd, pT, rs, y6, eD, lrs, hrs, rfl⟩ := hP
        obtain ⟨trw, htr, rfl⟩ := at_map hv
        obtain ⟨⟨n, p⟩, hg, ⟨t1, t2, t3, row, _⟩⟩ := pair_at pT htr
        have hm := List.mem_of_getElem? hg
        have hn := look_at bok.pnd hm
        have hi4 : i < 4 := by
          have := (List.getElem?_eq_some_iff.mp hg).1
          omega
        refine ⟨.ref D, rfl, .inl ⟨rfl, _, .inl (.inl eD)⟩, .ref trw, rfl, trw, _, 0, .str n, rfl, rfl, .inl (.inl row), rfl, .ref t, rfl, t, b, rfl, pl7.at_, fun H9 ln s9 nln eln => ?_⟩
        refine ⟨ln, _, rfl, .inl (.inl eln), fun lr nlr => ?_⟩
        have s10 := same_new (o := .lst ((b.doors.map (·.1)).map V.str).reverse) nlr
        refine ⟨lr, _, rfl, .inl ⟨.inl (.inl upd_same), fun lt nlt => ?_⟩⟩
        have s11 := same_new (o := .tup ((b.doors.map (·.1)).map V.str).reverse) nlt
        refine ⟨three, fun d nd => ?_⟩
        have s12 := same_new (o := .tup [.str "shut", .str n, .ref lt]) nd
        have sA := (s9.trans s10).trans (s11.trans s12)
        have eD12 := sA _ _ eD
        have elt := s12 _ _ (upd_same (H := upd H9 lr (.lst ((b.doors.map (·.1)).map V.str).reverse)) (a := lt) (o := .tup ((b.doors.map (·.1)).map V.str).reverse))
        have ed := upd_same (H := upd (upd H9 lr (.lst ((b.doors.map (·.1)).map V.str).reverse)) lt (.tup ((b.doors.map (·.1)).map V.str).reverse)) (a := d) (o := .tup [.str "shut", .str n, .ref lt])
        generalize upd (upd (upd H9 lr (.lst ((b.doors.map (·.1)).map V.str).reverse)) lt (.tup ((b.doors.map (·.1)).map V.str).reverse)) d (.tup [.str "shut", .str n, .ref lt]) = H12 at sA eD12 elt ed ⊢
        have npD : pd ≠ D := fun z => by
          rw [z, eD] at epd
          have e1 := HO.lst.inj (Option.some.inj epd)
          have e2 := congrArg List.length e1
          rw [List.length_map, List.length_map] at e2
          have : pas.length ≤ 4 := by omega
          omega
        have m12 := m7.more sA
        refine ⟨D, _, _, rfl, rfl, eD12, by rw [List.length_map]; exact small1000 (by omega), Mw.new m12 S5 nD, ?_, ?_, Paired.mono (rowP.tt ((TT.of sA).trans (TT.put eD12))) pT, rs ++ [⟨d, false, n, p, (b.doors.map (·.1)).reverse⟩], _, by rw [upd_same, List.map_append]; rfl, by rw [List.length_append, lrs, List.length_singleton]; omega, fun r hr' => ?_, rfl⟩
        · exact pl5.mv S5 (Mw.new m12 S5 nD)
        · rw [upd_ne npD]
          exact sA _ _ epd
        · rcases List.mem_append.mp hr' with c | c
          · exact ((hrs r c).same sA).put eD12
          · rw [List.mem_singleton.mp c]
            refine DbtR.ok.put ⟨⟨lt, .inl (.inl ed), .inl (.inl (by rw [List.map_reverse]; exact elt))⟩, ⟨hn, by rw [List.length_reverse, List.length_map]; omega, fun z hz => List.mem_reverse.mp hz⟩, by rw [List.length_reverse, List.length_map]; omega⟩ eD12
      · obtain ⟨m7, pl7, epd, pT, rs, y6, eD, lrs, hrs, rfl⟩ := hP
        have S7 := m7.se
        have hb7 := mv_bld hb5 S5 m7
        have l12 : rs.length ≤ 12 := by
          rw [lrs, List.length_map, lpas]
          omega
        -- which are doubts
        refine ⟨.ref D, rfl, D, rfl, ⟨_, .inl (.inl eD)⟩, fun D1 nD1 => lc_m (walk_list (xs := rs.map fun r => V.ref r.a)) rs (fun r => .bl (dbtOf b r.p r.th r.tr)) (by rw [List.length_map]) nD1 (by omega) (fun H' s' => .inl (.inl (s' _ _ eD))) (fun j r v H8 H9 Kt hz s8 hY kk => ?_) (fun H8 s8 eD1 => ?_)⟩
        · obtain ⟨rfl, hx⟩ := hY
          rw [List.getElem?_map, hz] at hx
          cases hx
          obtain ⟨h1, h2, h3⟩ := (hrs r (List.mem_of_getElem? hz)).same s8
          exact ⟨rfl, .ref x, rfl, .ref r.a, rfl, x, r.a, b, r.th, r.n, r.p, r.tr, rfl, hb7.same s8, h1, h2, by omega, fun H10 s10 => kk _ s10⟩
        refine ⟨.ref D, rfl, D, rfl, ⟨_, .inl (.inl (s8 _ _ eD))⟩, fun D2 nD2 => lc_m (walk_list (xs := rs.map fun r => V.ref r.a)) rs (fun r => .bl (dbtOf b r.p r.th r.tr)) (by rw [List.length_map]) nD2 (by omega) (fun H' s' => .inl (.inl (s' _ _ (s8 _ _ eD)))) (fun j r v H9 H10 Kt hz s9 hY kk => ?_) (fun H9 s9 eD2 => ?_)⟩
        · obtain ⟨rfl, hx⟩ := hY
          rw [List.getElem?_map, hz] at hx
          cases hx
          have s89 := s8.trans s9
          obtain ⟨h1, h2, h3⟩ := (hrs r (List.mem_of_getElem? hz)).same s89
          exact ⟨rfl, .ref t, rfl, .ref r.a, rfl, t, r.a, b, r.th, r.n, r.p, r.tr, rfl, pl7.at_.same s89, h1, h2, fun H11 s11 => kk _ s11⟩
        have eB : rs.map (fun r => V.bl (dbtOf b r.p r.th r.tr)) = (rs.map fun r => dbtOf b r.p r.th r.tr).map V.bl := by rw [List.map_map]; rfl
        rw [eB] at eD1 eD2
        obtain ⟨lb1, lb2⟩ := lay_bools (rs.map fun r => dbtOf b r.p r.th r.tr)
        have shB := shaped_list lb1 (by omega)
        refine ⟨_, _, .lst (.inl (.inl (s9 _ _ eD1))) (dp_bools _), .lst (.inl (.inl eD2)) (dp_bools _), shB, shB, false, by rw [ne_self shB], iteF ?_⟩
        have s79 := s8.trans s9
        -- all sets
        refine ⟨.ref t, rfl, t, b, rfl, pl7.at_.same s79, fun H10 ml ts s10 eml nml each => ?_⟩
        have s710 := s79.trans s10
        refine ⟨ml, rfl, ⟨_, .inl (.inl eml)⟩, for_it (walk_list (xs := ts.map V.ref)) (fun i σ H' => Same H10 H' ∧ ∃ z7 z8 z9 z10 z11, σ = [some (.ref p1), some (.ref dr), some (.ref t), some (.ref x), some (.ref D), none, y6, z7, z8, z9, z10, z11]) ⟨Same.refl _, none, none, none, none, none, rfl⟩ (fun i σ H' _ hP => .inl (.inl (hP.1 _ _ eml))) (fun i v σ H11 H12 hi hP hY => ?_) (fun σ H11 hP => ?_)⟩
        · obtain ⟨rfl, hv⟩ := hY
          obtain ⟨s11, z7, z8, z9, z10, z11, rfl⟩ := hP
          obtain ⟨tl, htl, rfl⟩ := at_map hv
          obtain ⟨ws, etl, subS⟩ := each tl (List.mem_of_getElem? htl)
          have etl := s11 _ _ etl
          have s711 := s710.trans s11
          have subw : ∀ z ∈ ws, z ∈ b.doors.map (·.1) := fun z hz => subS.subset hz
          have nmw := door_nm bok subw
          have lw : ws.length ≤ 8 := Nat.le_trans subS.length_le (by rw [List.length_map]; exact d8)
          have mem : ∀ z, z ∈ srt ws ↔ z ∈ ws := fun z => mem_srt ws z
          have lS : (srt ws).length ≤ 1000 := by
            have := len_srt ws
            omega
          have sbS : ∀ z ∈ srt ws, z ∈ b.doors.map (·.1) := fun z hz => subw z ((mem z).1 hz)
          have strk : ∀ th tr, strikeOf th tr (srt ws) = strikeOf th tr ws := fun th tr => by
            unfold strikeOf
            simp only [mem]
          refine ⟨.ref tl, rfl, tl, ws, rfl, .inl (.inl etl), nmw, by omega, fun H13 c s13 hc => ?_⟩
          refine ⟨.ref t, rfl, .ref tl, rfl, t, tl, b, ws, rfl, pl7.at_.same (s711.trans s13), .inl (.inl (s13 _ _ etl)), fun H14 rg s14 hrg => ⟨by show 2 ≤ sizeLine; rw [sizeLine_eq]; decide, fun tp ntp => ?_⟩⟩
          have s15 := same_new (o := .tup [.ref c, .bl rg]) ntp
          have etp := upd_same (H := H14) (a := tp) (o := .tup [.ref c, .bl rg])
          have sB := (s13.trans s14).trans s15
          have hc15 := hc.same (s14.trans s15)
          generalize upd H14 tp (.tup [.ref c, .bl rg]) = H15 at sB hc15 etp ⊢
          refine ⟨tp, _, rfl, .inl (.inl etp), rfl, _, _, rfl, _, _, rfl, rfl, ?_⟩
          have s715 := s711.trans sB
          have eD15 := s715 _ _ eD
          refine ⟨.ref D, rfl, D, rfl, ⟨_, .inl (.inl eD15)⟩, for_it (walk_list (xs := rs.map fun r => V.ref r.a)) (fun j σ H' => Same H15 H' ∧ ∃ w7, σ = [some (.ref p1), some (.ref dr), some (.ref t), some (.ref x), some (.ref D), none, y6, w7, some (.ref tl), some (.ref c), some (.bl rg), z11]) ⟨Same.refl _, z7, rfl⟩ (fun j σ H' _ hP => .inl (.inl (hP.1 _ _ eD15))) (fun j v σ H16 H17 hj hP hY => ?_) (fun σ H16 hP => ?_)⟩
          · obtain ⟨rfl, hv'⟩ := hY
            obtain ⟨s16, w7, rfl⟩ := hP
            obtain ⟨r, hr', rfl⟩ := at_map hv'
            have s716 := s715.trans s16
            obtain ⟨h1, h2, h3⟩ := (hrs r (List.mem_of_getElem? hr')).same s716
            refine ⟨.ref x, rfl, .ref r.a, rfl, .ref c, rfl, x, r.a, c, b, r.th, r.n, r.p, r.tr, srt ws, rfl, hb7.same s716, h1, h2, by omega, hc15.same s16, lS, sbS, fun H18 s18 => ?_⟩
            refine ⟨.ref t, rfl, .ref r.a, rfl, .ref tl, rfl, t, r.a, tl, b, r.th, r.n, r.p, r.tr, ws, rfl, pl7.at_.same (s716.trans s18), h1.same s18, h2, .inl (.inl (s18 _ _ (s16 _ _ (sB _ _ etl)))), fun H19 s19 => ⟨rfl, _, rfl, ?_⟩⟩
            rw [strk, neV rfl]
            refine iteF ?_
            have s1819 := s18.trans s19
            refine ⟨.bl rg, rfl, _, rfl, ite2 (fun e => ?_) (fun e => ?_)⟩
            · refine ⟨.ref t, rfl, .ref r.a, rfl, .ref tl, rfl, t, r.a, tl, b, r.th, r.n, r.p, r.tr, ws, rfl, pl7.at_.same (s716.trans s1819), h1.same s1819, h2, .inl (.inl (s1819 _ _ (s16 _ _ (sB _ _ etl)))), fun H20 s20 => ⟨_, rfl, ?_⟩⟩
              have hno : (dbtOf b r.p r.th r.tr && strikeOf r.th r.tr ws) = false := Bool.eq_false_iff.mpr fun h => by
                rw [Bool.and_eq_true] at h
                exact out_wrong bok (look_mem h2.1) h.1 h.2 (hrg.1 e)
              rw [hno]
              exact iteF ⟨s16.trans (s1819.trans s20), _, rfl⟩
            · exact iteF ⟨s16.trans s1819, _, rfl⟩
          · obtain ⟨s16, w7, rfl⟩ := hP
            have s716 := s715.trans s16
            have etl16 := s16 _ _ (sB _ _ etl)
            refine ⟨.ref t, rfl, .ref x, rfl, .ref tl, rfl, t, x, tl, b, ws, rfl, pl7.at_.same s716, hb7.same s716, .inl (.inl etl16), subS, fun H17 mm ds s17 nmm emm lds hds hnil => ?_⟩
            refine ⟨.ref mm, rfl, Nat.zero_le _, fun l0 nl0 => ?_⟩
            have s18 := same_new (o := .lst []) nl0
            obtain ⟨ks, k1, k2, k3, k4⟩ := dbts_data bok ds fun d hd => (hds d hd).same s18
            refine ⟨_, _, .lst (.inl (.inl (s18 _ _ emm))) k1, .lst (.inl (.inl upd_same)) .nil, shaped_list k2 (by omega), shaped_strsL (zs := []) (by simp), .bl rg, rfl, rfl, _, rfl, ?_⟩
            have erg : ks.isEmpty = rg := by
              rw [Bool.eq_iff_iff, List.isEmpty_iff, k4, hnil, hrg]
            rw [eqv_none, eqB' erg]
            refine iteF ?_
            have s1718 := s17.trans s18
            refine ⟨.ref mm, rfl, mm, rfl, ⟨_, .inl (.inl (s18 _ _ emm))⟩, fun D5 nD5 => lc_m (walk_list (xs := ds.map V.ref)) ds (fun _ => .bl true) (by rw [List.length_map]) nD5 (by omega) (fun H' s' => .inl (.inl (s' _ _ (s18 _ _ emm)))) (fun j d v H19 H20 Kt hz s19 hY kk => ?_) (fun H19 s19 eD5 => ?_)⟩
            · obtain ⟨rfl, hx⟩ := hY
              rw [List.getElem?_map, hz] at hx
              cases hx
              have s720 := s716.trans (s1718.trans s19)
              obtain ⟨th, n, p, tr, h1, h2, h3, h4, h5⟩ := (hds d (List.mem_of_getElem? hz)).same (s18.trans s19)
              refine ⟨rfl, .ref x, rfl, .ref d, rfl, .ref c, rfl, x, d, c, b, th, n, p, tr, srt ws, rfl, hb7.same s720, h1, h2, by omega, hc15.same (s16.trans (s1718.trans s19)), lS, sbS, fun H21 s21 => ?_⟩
              rw [strk, h4, h5]
              exact kk _ s21
            · refine ⟨D5, ds.map fun _ => true, rfl, .inl (.inl (by rw [List.map_map]; exact eD5)), true, ?_, iteF ⟨(s11.trans sB).trans (s16.trans (s1718.trans s19)), _, _, _, _, _, rfl⟩⟩
              rw [all_yes fun _ _ => rfl]
        · exact q _
end
end Lw
set_option Elab.async false
set_option linter.all false
set_option maxRecDepth 100000
set_option maxHeartbeats 4000000
namespace Lw
open PySem PySem.Spec PyProof.Rows L2 TxS LkO Lk LkG
theorem all_mk {l : PySem.W.OpenLaw} {w : World} {K : PySem.W.Frag} {h : Heap} {mg : Str → Option Value} {fa : Addr} (X : K.In h) (G : h.Ns mainGlobals mg) (hfa : mg "law" = some (.ref fa))
    {f_is_name f_are_names f_all_in f_check_other f_is_cost f_is_table f_are_rooms f_is_key f_are_keys f_fits_door f_fits_person f_are_doors f_are_people f_check_building f_check_locks f_are_doors_of f_keys_held f_lets_through f_room_added f_rooms_beyond f_rooms_of f_first_step f_trail_of f_has_doubt_form f_check_doubt f_leads_to_shunned f_shuts_out f_is_doubt f_strikes f_rules_out f__law_draw f__law_cell_at f__law_digits f__law_take f__law_pool f__law_some f__law_drawn f__law_built f__law_person f__law_behind f__law_reach f__law_is_right f__law_names f__law_sets f__law_locks f__law_walked f__law_drawn_trail f__law_is_doubt f__law_is_out f__law_doubt f__law_made f_law fL___init__ fL___or__ fL___contains__ fL_names fD___init__ fD_start fD_end fD_key fD_ways fP___init__ fP_start fP_carried fP_needs fP_shuns fB___init__ fB_key_rooms fB_doors fB_people fB_door fB_person fB_reach CL CD CP CB pL_names pD_start pD_end pD_key pP_start pP_carried pP_needs pP_shuns pB_key_rooms pB_doors pB_people : Addr} {od_is_name an_is_name od_are_names an_are_names od_all_in an_all_in od_check_other an_check_other od_is_cost an_is_cost od_is_table an_is_table od_are_rooms an_are_rooms od_is_key an_is_key od_are_keys an_are_keys od_fits_door an_fits_door od_fits_person an_fits_person od_are_doors an_are_doors od_are_people an_are_people od_check_building an_check_building od_check_locks an_check_locks od_are_doors_of an_are_doors_of od_keys_held an_keys_held od_lets_through an_lets_through od_room_added an_room_added od_rooms_beyond an_rooms_beyond od_rooms_of an_rooms_of od_first_step an_first_step od_trail_of an_trail_of od_has_doubt_form an_has_doubt_form od_check_doubt an_check_doubt od_leads_to_shunned an_leads_to_shunned od_shuts_out an_shuts_out od_is_doubt an_is_doubt od_strikes an_strikes od_rules_out an_rules_out od__law_draw an__law_draw od__law_cell_at an__law_cell_at od__law_digits an__law_digits od__law_take an__law_take od__law_pool an__law_pool od__law_some an__law_some od__law_drawn an__law_drawn od__law_built an__law_built od__law_person an__law_person od__law_behind an__law_behind od__law_reach an__law_reach od__law_is_right an__law_is_right od__law_names an__law_names od__law_sets an__law_sets od__law_locks an__law_locks od__law_walked an__law_walked od__law_drawn_trail an__law_drawn_trail od__law_is_doubt an__law_is_doubt od__law_is_out an__law_is_out od__law_doubt an__law_doubt od__law_made an__law_made od_law an_law odL___init__ anL___init__ odL___or__ anL___or__ odL___contains__ anL___contains__ odL_names anL_names odD___init__ anD___init__ odD_start anD_start odD_end anD_end odD_key anD_key odD_ways anD_ways odP___init__ anP___init__ odP_start anP_start odP_carried anP_carried odP_needs anP_needs odP_shuns anP_shuns odB___init__ anB___init__ odB_key_rooms anB_key_rooms odB_doors anB_doors odB_people anB_people odB_door anB_door odB_person anB_person odB_reach anB_reach : Option Addr} {sl_is_name sl_are_names sl_all_in sl_check_other sl_is_cost sl_is_table sl_are_rooms sl_is_key sl_are_keys sl_fits_door sl_fits_person sl_are_doors sl_are_people sl_check_building sl_check_locks sl_are_doors_of sl_keys_held sl_lets_through sl_room_added sl_rooms_beyond sl_rooms_of sl_first_step sl_trail_of sl_has_doubt_form sl_check_doubt sl_leads_to_shunned sl_shuts_out sl_is_doubt sl_strikes sl_rules_out sl__law_draw sl__law_cell_at sl__law_digits sl__law_take sl__law_pool sl__law_some sl__law_drawn sl__law_built sl__law_person sl__law_behind sl__law_reach sl__law_is_right sl__law_names sl__law_sets sl__law_locks sl__law_walked sl__law_drawn_trail sl__law_is_doubt sl__law_is_out sl__law_doubt sl__law_made sl_law slL___init__ slL___or__ slL___contains__ slL_names slD___init__ slD_start slD_end slD_key slD_ways slP___init__ slP_start slP_carried slP_needs slP_shuns slB___init__ slB_key_rooms slB_doors slB_people slB_door slB_person slB_reach : Array (Option Value)} {oc_is_name kV_is_name dc_is_name pm_is_name cd_is_name ct_is_name oc_are_names kV_are_names dc_are_names pm_are_names cd_are_names ct_are_names oc_all_in kV_all_in dc_all_in pm_all_in cd_all_in ct_all_in oc_check_other kV_check_other dc_check_other pm_check_other cd_check_other ct_check_other oc_is_cost kV_is_cost dc_is_cost pm_is_cost cd_is_cost ct_is_cost oc_is_table kV_is_table dc_is_table pm_is_table cd_is_table ct_is_table oc_are_rooms kV_are_rooms dc_are_rooms pm_are_rooms cd_are_rooms ct_are_rooms oc_is_key kV_is_key dc_is_key pm_is_key cd_is_key ct_is_key oc_are_keys kV_are_keys dc_are_keys pm_are_keys cd_are_keys ct_are_keys oc_fits_door kV_fits_door dc_fits_door pm_fits_door cd_fits_door ct_fits_door oc_fits_person kV_fits_person dc_fits_person pm_fits_person cd_fits_person ct_fits_person oc_are_doors kV_are_doors dc_are_doors pm_are_doors cd_are_doors ct_are_doors oc_are_people kV_are_people dc_are_people pm_are_people cd_are_people ct_are_people oc_check_building kV_check_building dc_check_building pm_check_building cd_check_building ct_check_building oc_check_locks kV_check_locks dc_check_locks pm_check_locks cd_check_locks ct_check_locks oc_are_doors_of kV_are_doors_of dc_are_doors_of pm_are_doors_of cd_are_doors_of ct_are_doors_of oc_keys_held kV_keys_held dc_keys_held pm_keys_held cd_keys_held ct_keys_held oc_lets_through kV_lets_through dc_lets_through pm_lets_through cd_lets_through ct_lets_through oc_room_added kV_room_added dc_room_added pm_room_added cd_room_added ct_room_added oc_rooms_beyond kV_rooms_beyond dc_rooms_beyond pm_rooms_beyond cd_rooms_beyond ct_rooms_beyond oc_rooms_of kV_rooms_of dc_rooms_of pm_rooms_of cd_rooms_of ct_rooms_of oc_first_step kV_first_step dc_first_step pm_first_step cd_first_step ct_first_step oc_trail_of kV_trail_of dc_trail_of pm_trail_of cd_trail_of ct_trail_of oc_has_doubt_form kV_has_doubt_form dc_has_doubt_form pm_has_doubt_form cd_has_doubt_form ct_has_doubt_form oc_check_doubt kV_check_doubt dc_check_doubt pm_check_doubt cd_check_doubt ct_check_doubt oc_leads_to_shunned kV_leads_to_shunned dc_leads_to_shunned pm_leads_to_shunned cd_leads_to_shunned ct_leads_to_shunned oc_shuts_out kV_shuts_out dc_shuts_out pm_shuts_out cd_shuts_out ct_shuts_out oc_is_doubt kV_is_doubt dc_is_doubt pm_is_doubt cd_is_doubt ct_is_doubt oc_strikes kV_strikes dc_strikes pm_strikes cd_strikes ct_strikes oc_rules_out kV_rules_out dc_rules_out pm_rules_out cd_rules_out ct_rules_out oc__law_draw kV__law_draw dc__law_draw pm__law_draw cd__law_draw ct__law_draw oc__law_cell_at kV__law_cell_at dc__law_cell_at pm__law_cell_at cd__law_cell_at ct__law_cell_at oc__law_digits kV__law_digits dc__law_digits pm__law_digits cd__law_digits ct__law_digits oc__law_take kV__law_take dc__law_take pm__law_take cd__law_take ct__law_take oc__law_pool kV__law_pool dc__law_pool pm__law_pool cd__law_pool ct__law_pool oc__law_some kV__law_some dc__law_some pm__law_some cd__law_some ct__law_some oc__law_drawn kV__law_drawn dc__law_drawn pm__law_drawn cd__law_drawn ct__law_drawn oc__law_built kV__law_built dc__law_built pm__law_built cd__law_built ct__law_built oc__law_person kV__law_person dc__law_person pm__law_person cd__law_person ct__law_person oc__law_behind kV__law_behind dc__law_behind pm__law_behind cd__law_behind ct__law_behind oc__law_reach kV__law_reach dc__law_reach pm__law_reach cd__law_reach ct__law_reach oc__law_is_right kV__law_is_right dc__law_is_right pm__law_is_right cd__law_is_right ct__law_is_right oc__law_names kV__law_names dc__law_names pm__law_names cd__law_names ct__law_names oc__law_sets kV__law_sets dc__law_sets pm__law_sets cd__law_sets ct__law_sets oc__law_locks kV__law_locks dc__law_locks pm__law_locks cd__law_locks ct__law_locks oc__law_walked kV__law_walked dc__law_walked pm__law_walked cd__law_walked ct__law_walked oc__law_drawn_trail kV__law_drawn_trail dc__law_drawn_trail pm__law_drawn_trail cd__law_drawn_trail ct__law_drawn_trail oc__law_is_doubt kV__law_is_doubt dc__law_is_doubt pm__law_is_doubt cd__law_is_doubt ct__law_is_doubt oc__law_is_out kV__law_is_out dc__law_is_out pm__law_is_out cd__law_is_out ct__law_is_out oc__law_doubt kV__law_doubt dc__law_doubt pm__law_doubt cd__law_doubt ct__law_doubt oc__law_made kV__law_made dc__law_made pm__law_made cd__law_made ct__law_made oc_law kV_law dc_law pm_law cd_law ct_law ocL___init__ kVL___init__ dcL___init__ pmL___init__ cdL___init__ ctL___init__ ocL___or__ kVL___or__ dcL___or__ pmL___or__ cdL___or__ ctL___or__ ocL___contains__ kVL___contains__ dcL___contains__ pmL___contains__ cdL___contains__ ctL___contains__ ocL_names kVL_names dcL_names pmL_names cdL_names ctL_names ocD___init__ kVD___init__ dcD___init__ pmD___init__ cdD___init__ ctD___init__ ocD_start kVD_start dcD_start pmD_start cdD_start ctD_start ocD_end kVD_end dcD_end pmD_end cdD_end ctD_end ocD_key kVD_key dcD_key pmD_key cdD_key ctD_key ocD_ways kVD_ways dcD_ways pmD_ways cdD_ways ctD_ways ocP___init__ kVP___init__ dcP___init__ pmP___init__ cdP___init__ ctP___init__ ocP_start kVP_start dcP_start pmP_start cdP_start ctP_start ocP_carried kVP_carried dcP_carried pmP_carried cdP_carried ctP_carried ocP_needs kVP_needs dcP_needs pmP_needs cdP_needs ctP_needs ocP_shuns kVP_shuns dcP_shuns pmP_shuns cdP_shuns ctP_shuns ocB___init__ kVB___init__ dcB___init__ pmB___init__ cdB___init__ ctB___init__ ocB_key_rooms kVB_key_rooms dcB_key_rooms pmB_key_rooms cdB_key_rooms ctB_key_rooms ocB_doors kVB_doors dcB_doors pmB_doors cdB_doors ctB_doors ocB_people kVB_people dcB_people pmB_people cdB_people ctB_people ocB_door kVB_door dcB_door pmB_door cdB_door ctB_door ocB_person kVB_person dcB_person pmB_person cdB_person ctB_person ocB_reach kVB_reach dcB_reach pmB_reach cdB_reach ctB_reach : Value} {tk0 tk1 tk2 tk3 tk4 tk5 tk6 tk7 tk8 tk9 : Tok} {rsL_names rsD_start rsD_end rsD_key rsP_start rsP_carried rsP_needs rsP_shuns rsB_key_rooms rsB_doors rsB_people : List Value}
    (a_is_name : PySem.W.nsIn K mainGlobals "is_name" = some (some (.ref f_is_name)))
    (l_is_name : K.lookup f_is_name = some ⟨oc_is_name, od_is_name, .func (PySem.W.fnOf "is_name" "is_name" (defArgs s_is_name) (defBody s_is_name) (defScope s_is_name) .none kV_is_name dc_is_name pm_is_name an_is_name cd_is_name ct_is_name), sl_is_name⟩)
    (c_is_name : PySem.W.codeIn K cd_is_name "is_name" = true)
    (k_is_name : PySem.W.keepIn K (.ref f_is_name) = true)
    (a_are_names : PySem.W.nsIn K mainGlobals "are_names" = some (some (.ref f_are_names)))
    (l_are_names : K.lookup f_are_names = some ⟨oc_are_names, od_are_names, .func (PySem.W.fnOf "are_names" "are_names" (defArgs s_are_names) (defBody s_are_names) (defScope s_are_names) .none kV_are_names dc_are_names pm_are_names an_are_names cd_are_names ct_are_names), sl_are_names⟩)
    (c_are_names : PySem.W.codeIn K cd_are_names "are_names" = true)
    (k_are_names : PySem.W.keepIn K (.ref f_are_names) = true)
    (a_all_in : PySem.W.nsIn K mainGlobals "all_in" = some (some (.ref f_all_in)))
    (l_all_in : K.lookup f_all_in = some ⟨oc_all_in, od_all_in, .func (PySem.W.fnOf "all_in" "all_in" (defArgs s_all_in) (defBody s_all_in) (defScope s_all_in) .none kV_all_in dc_all_in pm_all_in an_all_in cd_all_in ct_all_in), sl_all_in⟩)
    (c_all_in : PySem.W.codeIn K cd_all_in "all_in" = true)
    (k_all_in : PySem.W.keepIn K (.ref f_all_in) = true)
    (a_check_other : PySem.W.nsIn K mainGlobals "check_other" = some (some (.ref f_check_other)))
    (l_check_other : K.lookup f_check_other = some ⟨oc_check_other, od_check_other, .func (PySem.W.fnOf "check_other" "check_other" (defArgs s_check_other) (defBody s_check_other) (defScope s_check_other) .none kV_check_other dc_check_other pm_check_other an_check_other cd_check_other ct_check_other), sl_check_other⟩)
    (c_check_other : PySem.W.codeIn K cd_check_other "check_other" = true)
    (k_check_other : PySem.W.keepIn K (.ref f_check_other) = true)
    (a_is_cost : PySem.W.nsIn K mainGlobals "is_cost" = some (some (.ref f_is_cost)))
    (l_is_cost : K.lookup f_is_cost = some ⟨oc_is_cost, od_is_cost, .func (PySem.W.fnOf "is_cost" "is_cost" (defArgs s_is_cost) (defBody s_is_cost) (defScope s_is_cost) .none kV_is_cost dc_is_cost pm_is_cost an_is_cost cd_is_cost ct_is_cost), sl_is_cost⟩)
    (c_is_cost : PySem.W.codeIn K cd_is_cost "is_cost" = true)
    (k_is_cost : PySem.W.keepIn K (.ref f_is_cost) = true)
    (a_is_table : PySem.W.nsIn K mainGlobals "is_table" = some (some (.ref f_is_table)))
    (l_is_table : K.lookup f_is_table = some ⟨oc_is_table, od_is_table, .func (PySem.W.fnOf "is_table" "is_table" (defArgs s_is_table) (defBody s_is_table) (defScope s_is_table) .none kV_is_table dc_is_table pm_is_table an_is_table cd_is_table ct_is_table), sl_is_table⟩)
    (c_is_table : PySem.W.codeIn K cd_is_table "is_table" = true)
    (k_is_table : PySem.W.keepIn K (.ref f_is_table) = true)
    (a_are_rooms : PySem.W.nsIn K mainGlobals "are_rooms" = some (some (.ref f_are_rooms)))
    (l_are_rooms : K.lookup f_are_rooms = some ⟨oc_are_rooms, od_are_rooms, .func (PySem.W.fnOf "are_rooms" "are_rooms" (defArgs s_are_rooms) (defBody s_are_rooms) (defScope s_are_rooms) .none kV_are_rooms dc_are_rooms pm_are_rooms an_are_rooms cd_are_rooms ct_are_rooms), sl_are_rooms⟩)
    (c_are_rooms : PySem.W.codeIn K cd_are_rooms "are_rooms" = true)
    (k_are_rooms : PySem.W.keepIn K (.ref f_are_rooms) = true)
    (a_is_key : PySem.W.nsIn K mainGlobals "is_key" = some (some (.ref f_is_key)))
    (l_is_key : K.lookup f_is_key = some ⟨oc_is_key, od_is_key, .func (PySem.W.fnOf "is_key" "is_key" (defArgs s_is_key) (defBody s_is_key) (defScope s_is_key) .none kV_is_key dc_is_key pm_is_key an_is_key cd_is_key ct_is_key), sl_is_key⟩)
    (c_is_key : PySem.W.codeIn K cd_is_key "is_key" = true)
    (k_is_key : PySem.W.keepIn K (.ref f_is_key) = true)
    (a_are_keys : PySem.W.nsIn K mainGlobals "are_keys" = some (some (.ref f_are_keys)))
    (l_are_keys : K.lookup f_are_keys = some ⟨oc_are_keys, od_are_keys, .func (PySem.W.fnOf "are_keys" "are_keys" (defArgs s_are_keys) (defBody s_are_keys) (defScope s_are_keys) .none kV_are_keys dc_are_keys pm_are_keys an_are_keys cd_are_keys ct_are_keys), sl_are_keys⟩)
    (c_are_keys : PySem.W.codeIn K cd_are_keys "are_keys" = true)
    (k_are_keys : PySem.W.keepIn K (.ref f_are_keys) = true)
    (a_fits_door : PySem.W.nsIn K mainGlobals "fits_door" = some (some (.ref f_fits_door)))
    (l_fits_door : K.lookup f_fits_door = some ⟨oc_fits_door, od_fits_door, .func (PySem.W.fnOf "fits_door" "fits_door" (defArgs s_fits_door) (defBody s_fits_door) (defScope s_fits_door) .none kV_fits_door dc_fits_door pm_fits_door an_fits_door cd_fits_door ct_fits_door), sl_fits_door⟩)
    (c_fits_door : PySem.W.codeIn K cd_fits_door "fits_door" = true)
    (k_fits_door : PySem.W.keepIn K (.ref f_fits_door) = true)
    (a_fits_person : PySem.W.nsIn K mainGlobals "fits_person" = some (some (.ref f_fits_person)))
    (l_fits_person : K.lookup f_fits_person = some ⟨oc_fits_person, od_fits_person, .func (PySem.W.fnOf "fits_person" "fits_person" (defArgs s_fits_person) (defBody s_fits_person) (defScope s_fits_person) .none kV_fits_person dc_fits_person pm_fits_person an_fits_person cd_fits_person ct_fits_person), sl_fits_person⟩)
    (c_fits_person : PySem.W.codeIn K cd_fits_person "fits_person" = true)
    (k_fits_person : PySem.W.keepIn K (.ref f_fits_person) = true)
    (a_are_doors : PySem.W.nsIn K mainGlobals "are_doors" = some (some (.ref f_are_doors)))
    (l_are_doors : K.lookup f_are_doors = some ⟨oc_are_doors, od_are_doors, .func (PySem.W.fnOf "are_doors" "are_doors" (defArgs s_are_doors) (defBody s_are_doors) (defScope s_are_doors) .none kV_are_doors dc_are_doors pm_are_doors an_are_doors cd_are_doors ct_are_doors), sl_are_doors⟩)
    (c_are_doors : PySem.W.codeIn K cd_are_doors "are_doors" = true)
    (k_are_doors : PySem.W.keepIn K (.ref f_are_doors) = true)
    (a_are_people : PySem.W.nsIn K mainGlobals "are_people" = some (some (.ref f_are_people)))
    (l_are_people : K.lookup f_are_people = some ⟨oc_are_people, od_are_people, .func (PySem.W.fnOf "are_people" "are_people" (defArgs s_are_people) (defBody s_are_people) (defScope s_are_people) .none kV_are_people dc_are_people pm_are_people an_are_people cd_are_people ct_are_people), sl_are_people⟩)
    (c_are_people : PySem.W.codeIn K cd_are_people "are_people" = true)
    (k_are_people : PySem.W.keepIn K (.ref f_are_people) = true)
    (a_check_building : PySem.W.nsIn K mainGlobals "check_building" = some (some (.ref f_check_building)))
    (l_check_building : K.lookup f_check_building = some ⟨oc_check_building, od_check_building, .func (PySem.W.fnOf "check_building" "check_building" (defArgs s_check_building) (defBody s_check_building) (defScope s_check_building) .none kV_check_building dc_check_building pm_check_building an_check_building cd_check_building ct_check_building), sl_check_building⟩)
    (c_check_building : PySem.W.codeIn K cd_check_building "check_building" = true)
    (k_check_building : PySem.W.keepIn K (.ref f_check_building) = true)
    (a_check_locks : PySem.W.nsIn K mainGlobals "check_locks" = some (some (.ref f_check_locks)))
    (l_check_locks : K.lookup f_check_locks = some ⟨oc_check_locks, od_check_locks, .func (PySem.W.fnOf "check_locks" "check_locks" (defArgs s_check_locks) (defBody s_check_locks) (defScope s_check_locks) .none kV_check_locks dc_check_locks pm_check_locks an_check_locks cd_check_locks ct_check_locks), sl_check_locks⟩)
    (c_check_locks : PySem.W.codeIn K cd_check_locks "check_locks" = true)
    (k_check_locks : PySem.W.keepIn K (.ref f_check_locks) = true)
    (a_are_doors_of : PySem.W.nsIn K mainGlobals "are_doors_of" = some (some (.ref f_are_doors_of)))
    (l_are_doors_of : K.lookup f_are_doors_of = some ⟨oc_are_doors_of, od_are_doors_of, .func (PySem.W.fnOf "are_doors_of" "are_doors_of" (defArgs s_are_doors_of) (defBody s_are_doors_of) (defScope s_are_doors_of) .none kV_are_doors_of dc_are_doors_of pm_are_doors_of an_are_doors_of cd_are_doors_of ct_are_doors_of), sl_are_doors_of⟩)
    (c_are_doors_of : PySem.W.codeIn K cd_are_doors_of "are_doors_of" = true)
    (k_are_doors_of : PySem.W.keepIn K (.ref f_are_doors_of) = true)
    (a_keys_held : PySem.W.nsIn K mainGlobals "keys_held" = some (some (.ref f_keys_held)))
    (l_keys_held : K.lookup f_keys_held = some ⟨oc_keys_held, od_keys_held, .func (PySem.W.fnOf "keys_held" "keys_held" (defArgs s_keys_held) (defBody s_keys_held) (defScope s_keys_held) .none kV_keys_held dc_keys_held pm_keys_held an_keys_held cd_keys_held ct_keys_held), sl_keys_held⟩)
    (c_keys_held : PySem.W.codeIn K cd_keys_held "keys_held" = true)
    (k_keys_held : PySem.W.keepIn K (.ref f_keys_held) = true)
    (a_lets_through : PySem.W.nsIn K mainGlobals "lets_through" = some (some (.ref f_lets_through)))
    (l_lets_through : K.lookup f_lets_through = some ⟨oc_lets_through, od_lets_through, .func (PySem.W.fnOf "lets_through" "lets_through" (defArgs s_lets_through) (defBody s_lets_through) (defScope s_lets_through) .none kV_lets_through dc_lets_through pm_lets_through an_lets_through cd_lets_through ct_lets_through), sl_lets_through⟩)
    (c_lets_through : PySem.W.codeIn K cd_lets_through "lets_through" = true)
    (k_lets_through : PySem.W.keepIn K (.ref f_lets_through) = true)
    (a_room_added : PySem.W.nsIn K mainGlobals "room_added" = some (some (.ref f_room_added)))
    (l_room_added : K.lookup f_room_added = some ⟨oc_room_added, od_room_added, .func (PySem.W.fnOf "room_added" "room_added" (defArgs s_room_added) (defBody s_room_added) (defScope s_room_added) .none kV_room_added dc_room_added pm_room_added an_room_added cd_room_added ct_room_added), sl_room_added⟩)
    (c_room_added : PySem.W.codeIn K cd_room_added "room_added" = true)
    (k_room_added : PySem.W.keepIn K (.ref f_room_added) = true)
    (a_rooms_beyond : PySem.W.nsIn K mainGlobals "rooms_beyond" = some (some (.ref f_rooms_beyond)))
    (l_rooms_beyond : K.lookup f_rooms_beyond = some ⟨oc_rooms_beyond, od_rooms_beyond, .func (PySem.W.fnOf "rooms_beyond" "rooms_beyond" (defArgs s_rooms_beyond) (defBody s_rooms_beyond) (defScope s_rooms_beyond) .none kV_rooms_beyond dc_rooms_beyond pm_rooms_beyond an_rooms_beyond cd_rooms_beyond ct_rooms_beyond), sl_rooms_beyond⟩)
    (c_rooms_beyond : PySem.W.codeIn K cd_rooms_beyond "rooms_beyond" = true)
    (k_rooms_beyond : PySem.W.keepIn K (.ref f_rooms_beyond) = true)
    (a_rooms_of : PySem.W.nsIn K mainGlobals "rooms_of" = some (some (.ref f_rooms_of)))
    (l_rooms_of : K.lookup f_rooms_of = some ⟨oc_rooms_of, od_rooms_of, .func (PySem.W.fnOf "rooms_of" "rooms_of" (defArgs s_rooms_of) (defBody s_rooms_of) (defScope s_rooms_of) .none kV_rooms_of dc_rooms_of pm_rooms_of an_rooms_of cd_rooms_of ct_rooms_of), sl_rooms_of⟩)
    (c_rooms_of : PySem.W.codeIn K cd_rooms_of "rooms_of" = true)
    (k_rooms_of : PySem.W.keepIn K (.ref f_rooms_of) = true)
    (a_first_step : PySem.W.nsIn K mainGlobals "first_step" = some (some (.ref f_first_step)))
    (l_first_step : K.lookup f_first_step = some ⟨oc_first_step, od_first_step, .func (PySem.W.fnOf "first_step" "first_step" (defArgs s_first_step) (defBody s_first_step) (defScope s_first_step) .none kV_first_step dc_first_step pm_first_step an_first_step cd_first_step ct_first_step), sl_first_step⟩)
    (c_first_step : PySem.W.codeIn K cd_first_step "first_step" = true)
    (k_first_step : PySem.W.keepIn K (.ref f_first_step) = true)
    (a_trail_of : PySem.W.nsIn K mainGlobals "trail_of" = some (some (.ref f_trail_of)))
    (l_trail_of : K.lookup f_trail_of = some ⟨oc_trail_of, od_trail_of, .func (PySem.W.fnOf "trail_of" "trail_of" (defArgs s_trail_of) (defBody s_trail_of) (defScope s_trail_of) .none kV_trail_of dc_trail_of pm_trail_of an_trail_of cd_trail_of ct_trail_of), sl_trail_of⟩)
    (c_trail_of : PySem.W.codeIn K cd_trail_of "trail_of" = true)
    (k_trail_of : PySem.W.keepIn K (.ref f_trail_of) = true)
    (a_has_doubt_form : PySem.W.nsIn K mainGlobals "has_doubt_form" = some (some (.ref f_has_doubt_form)))
    (l_has_doubt_form : K.lookup f_has_doubt_form = some ⟨oc_has_doubt_form, od_has_doubt_form, .func (PySem.W.fnOf "has_doubt_form" "has_doubt_form" (defArgs s_has_doubt_form) (defBody s_has_doubt_form) (defScope s_has_doubt_form) .none kV_has_doubt_form dc_has_doubt_form pm_has_doubt_form an_has_doubt_form cd_has_doubt_form ct_has_doubt_form), sl_has_doubt_form⟩)
    (c_has_doubt_form : PySem.W.codeIn K cd_has_doubt_form "has_doubt_form" = true)
    (k_has_doubt_form : PySem.W.keepIn K (.ref f_has_doubt_form) = true)
    (a_check_doubt : PySem.W.nsIn K mainGlobals "check_doubt" = some (some (.ref f_check_doubt)))
    (l_check_doubt : K.lookup f_check_doubt = some ⟨oc_check_doubt, od_check_doubt, .func (PySem.W.fnOf "check_doubt" "check_doubt" (defArgs s_check_doubt) (defBody s_check_doubt) (defScope s_check_doubt) .none kV_check_doubt dc_check_doubt pm_check_doubt an_check_doubt cd_check_doubt ct_check_doubt), sl_check_doubt⟩)
    (c_check_doubt : PySem.W.codeIn K cd_check_doubt "check_doubt" = true)
    (k_check_doubt : PySem.W.keepIn K (.ref f_check_doubt) = true)
    (a_leads_to_shunned : PySem.W.nsIn K mainGlobals "leads_to_shunned" = some (some (.ref f_leads_to_shunned)))
    (l_leads_to_shunned : K.lookup f_leads_to_shunned = some ⟨oc_leads_to_shunned, od_leads_to_shunned, .func (PySem.W.fnOf "leads_to_shunned" "leads_to_shunned" (defArgs s_leads_to_shunned) (defBody s_leads_to_shunned) (defScope s_leads_to_shunned) .none kV_leads_to_shunned dc_leads_to_shunned pm_leads_to_shunned an_leads_to_shunned cd_leads_to_shunned ct_leads_to_shunned), sl_leads_to_shunned⟩)
    (c_leads_to_shunned : PySem.W.codeIn K cd_leads_to_shunned "leads_to_shunned" = true)
    (k_leads_to_shunned : PySem.W.keepIn K (.ref f_leads_to_shunned) = true)
    (a_shuts_out : PySem.W.nsIn K mainGlobals "shuts_out" = some (some (.ref f_shuts_out)))
    (l_shuts_out : K.lookup f_shuts_out = some ⟨oc_shuts_out, od_shuts_out, .func (PySem.W.fnOf "shuts_out" "shuts_out" (defArgs s_shuts_out) (defBody s_shuts_out) (defScope s_shuts_out) .none kV_shuts_out dc_shuts_out pm_shuts_out an_shuts_out cd_shuts_out ct_shuts_out), sl_shuts_out⟩)
    (c_shuts_out : PySem.W.codeIn K cd_shuts_out "shuts_out" = true)
    (k_shuts_out : PySem.W.keepIn K (.ref f_shuts_out) = true)
    (a_is_doubt : PySem.W.nsIn K mainGlobals "is_doubt" = some (some (.ref f_is_doubt)))
    (l_is_doubt : K.lookup f_is_doubt = some ⟨oc_is_doubt, od_is_doubt, .func (PySem.W.fnOf "is_doubt" "is_doubt" (defArgs s_is_doubt) (defBody s_is_doubt) (defScope s_is_doubt) .none kV_is_doubt dc_is_doubt pm_is_doubt an_is_doubt cd_is_doubt ct_is_doubt), sl_is_doubt⟩)
    (c_is_doubt : PySem.W.codeIn K cd_is_doubt "is_doubt" = true)
    (k_is_doubt : PySem.W.keepIn K (.ref f_is_doubt) = true)
    (a_strikes : PySem.W.nsIn K mainGlobals "strikes" = some (some (.ref f_strikes)))
    (l_strikes : K.lookup f_strikes = some ⟨oc_strikes, od_strikes, .func (PySem.W.fnOf "strikes" "strikes" (defArgs s_strikes) (defBody s_strikes) (defScope s_strikes) .none kV_strikes dc_strikes pm_strikes an_strikes cd_strikes ct_strikes), sl_strikes⟩)
    (c_strikes : PySem.W.codeIn K cd_strikes "strikes" = true)
    (k_strikes : PySem.W.keepIn K (.ref f_strikes) = true)
    (a_rules_out : PySem.W.nsIn K mainGlobals "rules_out" = some (some (.ref f_rules_out)))
    (l_rules_out : K.lookup f_rules_out = some ⟨oc_rules_out, od_rules_out, .func (PySem.W.fnOf "rules_out" "rules_out" (defArgs s_rules_out) (defBody s_rules_out) (defScope s_rules_out) .none kV_rules_out dc_rules_out pm_rules_out an_rules_out cd_rules_out ct_rules_out), sl_rules_out⟩)
    (c_rules_out : PySem.W.codeIn K cd_rules_out "rules_out" = true)
    (k_rules_out : PySem.W.keepIn K (.ref f_rules_out) = true)
    (a__law_draw : PySem.W.nsIn K mainGlobals "_law_draw" = some (some (.ref f__law_draw)))
    (l__law_draw : K.lookup f__law_draw = some ⟨oc__law_draw, od__law_draw, .func (PySem.W.fnOf "_law_draw" "_law_draw" (defArgs s__law_draw) (defBody s__law_draw) (defScope s__law_draw) .none kV__law_draw dc__law_draw pm__law_draw an__law_draw cd__law_draw ct__law_draw), sl__law_draw⟩)
    (c__law_draw : PySem.W.codeIn K cd__law_draw "_law_draw" = true)
    (k__law_draw : PySem.W.keepIn K (.ref f__law_draw) = true)
    (a__law_cell_at : PySem.W.nsIn K mainGlobals "_law_cell_at" = some (some (.ref f__law_cell_at)))
    (l__law_cell_at : K.lookup f__law_cell_at = some ⟨oc__law_cell_at, od__law_cell_at, .func (PySem.W.fnOf "_law_cell_at" "_law_cell_at" (defArgs s__law_cell_at) (defBody s__law_cell_at) (defScope s__law_cell_at) .none kV__law_cell_at dc__law_cell_at pm__law_cell_at an__law_cell_at cd__law_cell_at ct__law_cell_at), sl__law_cell_at⟩)
    (c__law_cell_at : PySem.W.codeIn K cd__law_cell_at "_law_cell_at" = true)
    (k__law_cell_at : PySem.W.keepIn K (.ref f__law_cell_at) = true)
    (a__law_digits : PySem.W.nsIn K mainGlobals "_law_digits" = some (some (.ref f__law_digits)))
    (l__law_digits : K.lookup f__law_digits = some ⟨oc__law_digits, od__law_digits, .func (PySem.W.fnOf "_law_digits" "_law_digits" (defArgs s__law_digits) (defBody s__law_digits) (defScope s__law_digits) .none kV__law_digits dc__law_digits pm__law_digits an__law_digits cd__law_digits ct__law_digits), sl__law_digits⟩)
    (c__law_digits : PySem.W.codeIn K cd__law_digits "_law_digits" = true)
    (k__law_digits : PySem.W.keepIn K (.ref f__law_digits) = true)
    (a__law_take : PySem.W.nsIn K mainGlobals "_law_take" = some (some (.ref f__law_take)))
    (l__law_take : K.lookup f__law_take = some ⟨oc__law_take, od__law_take, .func (PySem.W.fnOf "_law_take" "_law_take" (defArgs s__law_take) (defBody s__law_take) (defScope s__law_take) .none kV__law_take dc__law_take pm__law_take an__law_take cd__law_take ct__law_take), sl__law_take⟩)
    (c__law_take : PySem.W.codeIn K cd__law_take "_law_take" = true)
    (k__law_take : PySem.W.keepIn K (.ref f__law_take) = true)
    (a__law_pool : PySem.W.nsIn K mainGlobals "_law_pool" = some (some (.ref f__law_pool)))
    (l__law_pool : K.lookup f__law_pool = some ⟨oc__law_pool, od__law_pool, .func (PySem.W.fnOf "_law_pool" "_law_pool" (defArgs s__law_pool) (defBody s__law_pool) (defScope s__law_pool) .none kV__law_pool dc__law_pool pm__law_pool an__law_pool cd__law_pool ct__law_pool), sl__law_pool⟩)
    (c__law_pool : PySem.W.codeIn K cd__law_pool "_law_pool" = true)
    (k__law_pool : PySem.W.keepIn K (.ref f__law_pool) = true)
    (a__law_some : PySem.W.nsIn K mainGlobals "_law_some" = some (some (.ref f__law_some)))
    (l__law_some : K.lookup f__law_some = some ⟨oc__law_some, od__law_some, .func (PySem.W.fnOf "_law_some" "_law_some" (defArgs s__law_some) (defBody s__law_some) (defScope s__law_some) .none kV__law_some dc__law_some pm__law_some an__law_some cd__law_some ct__law_some), sl__law_some⟩)
    (c__law_some : PySem.W.codeIn K cd__law_some "_law_some" = true)
    (k__law_some : PySem.W.keepIn K (.ref f__law_some) = true)
    (a__law_drawn : PySem.W.nsIn K mainGlobals "_law_drawn" = some (some (.ref f__law_drawn)))
    (l__law_drawn : K.lookup f__law_drawn = some ⟨oc__law_drawn, od__law_drawn, .func (PySem.W.fnOf "_law_drawn" "_law_drawn" (defArgs s__law_drawn) (defBody s__law_drawn) (defScope s__law_drawn) .none kV__law_drawn dc__law_drawn pm__law_drawn an__law_drawn cd__law_drawn ct__law_drawn), sl__law_drawn⟩)
    (c__law_drawn : PySem.W.codeIn K cd__law_drawn "_law_drawn" = true)
    (k__law_drawn : PySem.W.keepIn K (.ref f__law_drawn) = true)
    (a__law_built : PySem.W.nsIn K mainGlobals "_law_built" = some (some (.ref f__law_built)))
    (l__law_built : K.lookup f__law_built = some ⟨oc__law_built, od__law_built, .func (PySem.W.fnOf "_law_built" "_law_built" (defArgs s__law_built) (defBody s__law_built) (defScope s__law_built) .none kV__law_built dc__law_built pm__law_built an__law_built cd__law_built ct__law_built), sl__law_built⟩)
    (c__law_built : PySem.W.codeIn K cd__law_built "_law_built" = true)
    (k__law_built : PySem.W.keepIn K (.ref f__law_built) = true)
    (a__law_person : PySem.W.nsIn K mainGlobals "_law_person" = some (some (.ref f__law_person)))
    (l__law_person : K.lookup f__law_person = some ⟨oc__law_person, od__law_person, .func (PySem.W.fnOf "_law_person" "_law_person" (defArgs s__law_person) (defBody s__law_person) (defScope s__law_person) .none kV__law_person dc__law_person pm__law_person an__law_person cd__law_person ct__law_person), sl__law_person⟩)
    (c__law_person : PySem.W.codeIn K cd__law_person "_law_person" = true)
    (k__law_person : PySem.W.keepIn K (.ref f__law_person) = true)
    (a__law_behind : PySem.W.nsIn K mainGlobals "_law_behind" = some (some (.ref f__law_behind)))
    (l__law_behind : K.lookup f__law_behind = some ⟨oc__law_behind, od__law_behind, .func (PySem.W.fnOf "_law_behind" "_law_behind" (defArgs s__law_behind) (defBody s__law_behind) (defScope s__law_behind) .none kV__law_behind dc__law_behind pm__law_behind an__law_behind cd__law_behind ct__law_behind), sl__law_behind⟩)
    (c__law_behind : PySem.W.codeIn K cd__law_behind "_law_behind" = true)
    (k__law_behind : PySem.W.keepIn K (.ref f__law_behind) = true)
    (a__law_reach : PySem.W.nsIn K mainGlobals "_law_reach" = some (some (.ref f__law_reach)))
    (l__law_reach : K.lookup f__law_reach = some ⟨oc__law_reach, od__law_reach, .func (PySem.W.fnOf "_law_reach" "_law_reach" (defArgs s__law_reach) (defBody s__law_reach) (defScope s__law_reach) .none kV__law_reach dc__law_reach pm__law_reach an__law_reach cd__law_reach ct__law_reach), sl__law_reach⟩)
    (c__law_reach : PySem.W.codeIn K cd__law_reach "_law_reach" = true)
    (k__law_reach : PySem.W.keepIn K (.ref f__law_reach) = true)
    (a__law_is_right : PySem.W.nsIn K mainGlobals "_law_is_right" = some (some (.ref f__law_is_right)))
    (l__law_is_right : K.lookup f__law_is_right = some ⟨oc__law_is_right, od__law_is_right, .func (PySem.W.fnOf "_law_is_right" "_law_is_right" (defArgs s__law_is_right) (defBody s__law_is_right) (defScope s__law_is_right) .none kV__law_is_right dc__law_is_right pm__law_is_right an__law_is_right cd__law_is_right ct__law_is_right), sl__law_is_right⟩)
    (c__law_is_right : PySem.W.codeIn K cd__law_is_right "_law_is_right" = true)
    (k__law_is_right : PySem.W.keepIn K (.ref f__law_is_right) = true)
    (a__law_names : PySem.W.nsIn K mainGlobals "_law_names" = some (some (.ref f__law_names)))
    (l__law_names : K.lookup f__law_names = some ⟨oc__law_names, od__law_names, .func (PySem.W.fnOf "_law_names" "_law_names" (defArgs s__law_names) (defBody s__law_names) (defScope s__law_names) .none kV__law_names dc__law_names pm__law_names an__law_names cd__law_names ct__law_names), sl__law_names⟩)
    (c__law_names : PySem.W.codeIn K cd__law_names "_law_names" = true)
    (k__law_names : PySem.W.keepIn K (.ref f__law_names) = true)
    (a__law_sets : PySem.W.nsIn K mainGlobals "_law_sets" = some (some (.ref f__law_sets)))
    (l__law_sets : K.lookup f__law_sets = some ⟨oc__law_sets, od__law_sets, .func (PySem.W.fnOf "_law_sets" "_law_sets" (defArgs s__law_sets) (defBody s__law_sets) (defScope s__law_sets) .none kV__law_sets dc__law_sets pm__law_sets an__law_sets cd__law_sets ct__law_sets), sl__law_sets⟩)
    (c__law_sets : PySem.W.codeIn K cd__law_sets "_law_sets" = true)
    (k__law_sets : PySem.W.keepIn K (.ref f__law_sets) = true)
    (a__law_locks : PySem.W.nsIn K mainGlobals "_law_locks" = some (some (.ref f__law_locks)))
    (l__law_locks : K.lookup f__law_locks = some ⟨oc__law_locks, od__law_locks, .func (PySem.W.fnOf "_law_locks" "_law_locks" (defArgs s__law_locks) (defBody s__law_locks) (defScope s__law_locks) .none kV__law_locks dc__law_locks pm__law_locks an__law_locks cd__law_locks ct__law_locks), sl__law_locks⟩)
    (c__law_locks : PySem.W.codeIn K cd__law_locks "_law_locks" = true)
    (k__law_locks : PySem.W.keepIn K (.ref f__law_locks) = true)
    (a__law_walked : PySem.W.nsIn K mainGlobals "_law_walked" = some (some (.ref f__law_walked)))
    (l__law_walked : K.lookup f__law_walked = some ⟨oc__law_walked, od__law_walked, .func (PySem.W.fnOf "_law_walked" "_law_walked" (defArgs s__law_walked) (defBody s__law_walked) (defScope s__law_walked) .none kV__law_walked dc__law_walked pm__law_walked an__law_walked cd__law_walked ct__law_walked), sl__law_walked⟩)
    (c__law_walked : PySem.W.codeIn K cd__law_walked "_law_walked" = true)
    (k__law_walked : PySem.W.keepIn K (.ref f__law_walked) = true)
    (a__law_drawn_trail : PySem.W.nsIn K mainGlobals "_law_drawn_trail" = some (some (.ref f__law_drawn_trail)))
    (l__law_drawn_trail : K.lookup f__law_drawn_trail = some ⟨oc__law_drawn_trail, od__law_drawn_trail, .func (PySem.W.fnOf "_law_drawn_trail" "_law_drawn_trail" (defArgs s__law_drawn_trail) (defBody s__law_drawn_trail) (defScope s__law_drawn_trail) .none kV__law_drawn_trail dc__law_drawn_trail pm__law_drawn_trail an__law_drawn_trail cd__law_drawn_trail ct__law_drawn_trail), sl__law_drawn_trail⟩)
    (c__law_drawn_trail : PySem.W.codeIn K cd__law_drawn_trail "_law_drawn_trail" = true)
    (k__law_drawn_trail : PySem.W.keepIn K (.ref f__law_drawn_trail) = true)
    (a__law_is_doubt : PySem.W.nsIn K mainGlobals "_law_is_doubt" = some (some (.ref f__law_is_doubt)))
    (l__law_is_doubt : K.lookup f__law_is_doubt = some ⟨oc__law_is_doubt, od__law_is_doubt, .func (PySem.W.fnOf "_law_is_doubt" "_law_is_doubt" (defArgs s__law_is_doubt) (defBody s__law_is_doubt) (defScope s__law_is_doubt) .none kV__law_is_doubt dc__law_is_doubt pm__law_is_doubt an__law_is_doubt cd__law_is_doubt ct__law_is_doubt), sl__law_is_doubt⟩)
    (c__law_is_doubt : PySem.W.codeIn K cd__law_is_doubt "_law_is_doubt" = true)
    (k__law_is_doubt : PySem.W.keepIn K (.ref f__law_is_doubt) = true)
    (a__law_is_out : PySem.W.nsIn K mainGlobals "_law_is_out" = some (some (.ref f__law_is_out)))
    (l__law_is_out : K.lookup f__law_is_out = some ⟨oc__law_is_out, od__law_is_out, .func (PySem.W.fnOf "_law_is_out" "_law_is_out" (defArgs s__law_is_out) (defBody s__law_is_out) (defScope s__law_is_out) .none kV__law_is_out dc__law_is_out pm__law_is_out an__law_is_out cd__law_is_out ct__law_is_out), sl__law_is_out⟩)
    (c__law_is_out : PySem.W.codeIn K cd__law_is_out "_law_is_out" = true)
    (k__law_is_out : PySem.W.keepIn K (.ref f__law_is_out) = true)
    (a__law_doubt : PySem.W.nsIn K mainGlobals "_law_doubt" = some (some (.ref f__law_doubt)))
    (l__law_doubt : K.lookup f__law_doubt = some ⟨oc__law_doubt, od__law_doubt, .func (PySem.W.fnOf "_law_doubt" "_law_doubt" (defArgs s__law_doubt) (defBody s__law_doubt) (defScope s__law_doubt) .none kV__law_doubt dc__law_doubt pm__law_doubt an__law_doubt cd__law_doubt ct__law_doubt), sl__law_doubt⟩)
    (c__law_doubt : PySem.W.codeIn K cd__law_doubt "_law_doubt" = true)
    (k__law_doubt : PySem.W.keepIn K (.ref f__law_doubt) = true)
    (a__law_made : PySem.W.nsIn K mainGlobals "_law_made" = some (some (.ref f__law_made)))
    (l__law_made : K.lookup f__law_made = some ⟨oc__law_made, od__law_made, .func (PySem.W.fnOf "_law_made" "_law_made" (defArgs s__law_made) (defBody s__law_made) (defScope s__law_made) .none kV__law_made dc__law_made pm__law_made an__law_made cd__law_made ct__law_made), sl__law_made⟩)
    (c__law_made : PySem.W.codeIn K cd__law_made "_law_made" = true)
    (k__law_made : PySem.W.keepIn K (.ref f__law_made) = true)
    (a_law : PySem.W.nsIn K mainGlobals "law" = some (some (.ref f_law)))
    (l_law : K.lookup f_law = some ⟨oc_law, od_law, .func (PySem.W.fnOf "law" "law" (defArgs s_law) (defBody s_law) (defScope s_law) .none kV_law dc_law pm_law an_law cd_law ct_law), sl_law⟩)
    (c_law : PySem.W.codeIn K cd_law "law" = true)
    (k_law : PySem.W.keepIn K (.ref f_law) = true)
    (a_Locks : PySem.W.nsIn K mainGlobals "Locks" = some (some (.ref CL)))
    (pgL : PySem.W.plainGet K CL Str.empty = true)
    (hdL : PySem.W.hasDictIn K CL = true)
    (poL : PySem.W.plainOver K CL = true)
    (saL : PySem.W.findIn K (.ref CL) "__setattr__" = some (some (.builtin "object.__setattr__")))
    (mkL : PySem.W.makesIn K CL = true)
    (kcL : PySem.W.keepIn K (.ref CL) = true)
    (tycL : PySem.W.findIn K (.ref CL) "__class__" = some (some (.builtin "object.__class__")))
    (tymL : PySem.W.mroIn K CL (.type "object") = some true)
    (sfL : PySem.W.selfFirst K CL = true)
    (nbL : PySem.W.findIn K (.ref CL) "__bool__" = some none)
    (noL0 : PySem.W.findIn K (.ref CL) "kept_names" = some none)
    (a_Door : PySem.W.nsIn K mainGlobals "Door" = some (some (.ref CD)))
    (pgD : PySem.W.plainGet K CD Str.empty = true)
    (hdD : PySem.W.hasDictIn K CD = true)
    (poD : PySem.W.plainOver K CD = true)
    (saD : PySem.W.findIn K (.ref CD) "__setattr__" = some (some (.builtin "object.__setattr__")))
    (mkD : PySem.W.makesIn K CD = true)
    (kcD : PySem.W.keepIn K (.ref CD) = true)
    (tycD : PySem.W.findIn K (.ref CD) "__class__" = some (some (.builtin "object.__class__")))
    (tymD : PySem.W.mroIn K CD (.type "object") = some true)
    (noD0 : PySem.W.findIn K (.ref CD) "kept_start" = some none)
    (noD1 : PySem.W.findIn K (.ref CD) "kept_end" = some none)
    (noD2 : PySem.W.findIn K (.ref CD) "kept_key" = some none)
    (noD3 : PySem.W.findIn K (.ref CD) "kept_both" = some none)
    (noD4 : PySem.W.findIn K (.ref CD) "kept_cost" = some none)
    (a_Person : PySem.W.nsIn K mainGlobals "Person" = some (some (.ref CP)))
    (pgP : PySem.W.plainGet K CP Str.empty = true)
    (hdP : PySem.W.hasDictIn K CP = true)
    (poP : PySem.W.plainOver K CP = true)
    (saP : PySem.W.findIn K (.ref CP) "__setattr__" = some (some (.builtin "object.__setattr__")))
    (mkP : PySem.W.makesIn K CP = true)
    (kcP : PySem.W.keepIn K (.ref CP) = true)
    (tycP : PySem.W.findIn K (.ref CP) "__class__" = some (some (.builtin "object.__class__")))
    (tymP : PySem.W.mroIn K CP (.type "object") = some true)
    (noP0 : PySem.W.findIn K (.ref CP) "kept_start" = some none)
    (noP1 : PySem.W.findIn K (.ref CP) "kept_carried" = some none)
    (noP2 : PySem.W.findIn K (.ref CP) "kept_needs" = some none)
    (noP3 : PySem.W.findIn K (.ref CP) "kept_shuns" = some none)
    (a_Building : PySem.W.nsIn K mainGlobals "Building" = some (some (.ref CB)))
    (pgB : PySem.W.plainGet K CB Str.empty = true)
    (hdB : PySem.W.hasDictIn K CB = true)
    (poB : PySem.W.plainOver K CB = true)
    (saB : PySem.W.findIn K (.ref CB) "__setattr__" = some (some (.builtin "object.__setattr__")))
    (mkB : PySem.W.makesIn K CB = true)
    (kcB : PySem.W.keepIn K (.ref CB) = true)
    (tycB : PySem.W.findIn K (.ref CB) "__class__" = some (some (.builtin "object.__class__")))
    (tymB : PySem.W.mroIn K CB (.type "object") = some true)
    (noB0 : PySem.W.findIn K (.ref CB) "kept_rooms" = some none)
    (noB1 : PySem.W.findIn K (.ref CB) "kept_keys" = some none)
    (noB2 : PySem.W.findIn K (.ref CB) "door_names" = some none)
    (noB3 : PySem.W.findIn K (.ref CB) "kept_doors" = some none)
    (noB4 : PySem.W.findIn K (.ref CB) "person_names" = some none)
    (noB5 : PySem.W.findIn K (.ref CB) "kept_people" = some none)
    (aL___init__ : PySem.W.findIn K (.ref CL) "__init__" = some (some (.ref fL___init__)))
    (iL___init__ : PySem.W.isFn K (.ref fL___init__) = true)
    (lL___init__ : K.lookup fL___init__ = some ⟨ocL___init__, odL___init__, .func (PySem.W.fnOf "__init__" "Locks.__init__" (defArgs s_Locks___init__) (defBody s_Locks___init__) (defScope s_Locks___init__) .none kVL___init__ dcL___init__ pmL___init__ anL___init__ cdL___init__ ctL___init__), slL___init__⟩)
    (cL___init__ : PySem.W.codeIn K cdL___init__ "Locks.__init__" = true)
    (kL___init__ : PySem.W.keepIn K (.ref fL___init__) = true)
    (aL___or__ : PySem.W.findIn K (.ref CL) "__or__" = some (some (.ref fL___or__)))
    (iL___or__ : PySem.W.isFn K (.ref fL___or__) = true)
    (lL___or__ : K.lookup fL___or__ = some ⟨ocL___or__, odL___or__, .func (PySem.W.fnOf "__or__" "Locks.__or__" (defArgs s_Locks___or__) (defBody s_Locks___or__) (defScope s_Locks___or__) .none kVL___or__ dcL___or__ pmL___or__ anL___or__ cdL___or__ ctL___or__), slL___or__⟩)
    (cL___or__ : PySem.W.codeIn K cdL___or__ "Locks.__or__" = true)
    (kL___or__ : PySem.W.keepIn K (.ref fL___or__) = true)
    (aL___contains__ : PySem.W.findIn K (.ref CL) "__contains__" = some (some (.ref fL___contains__)))
    (iL___contains__ : PySem.W.isFn K (.ref fL___contains__) = true)
    (lL___contains__ : K.lookup fL___contains__ = some ⟨ocL___contains__, odL___contains__, .func (PySem.W.fnOf "__contains__" "Locks.__contains__" (defArgs s_Locks___contains__) (defBody s_Locks___contains__) (defScope s_Locks___contains__) .none kVL___contains__ dcL___contains__ pmL___contains__ anL___contains__ cdL___contains__ ctL___contains__), slL___contains__⟩)
    (cL___contains__ : PySem.W.codeIn K cdL___contains__ "Locks.__contains__" = true)
    (kL___contains__ : PySem.W.keepIn K (.ref fL___contains__) = true)
    (aL_names : PySem.W.findIn K (.ref CL) "names" = some (some (.ref pL_names)))
    (gL_names : PySem.W.specialIn K (.ref pL_names) "__get__" = some (some (.builtin "property.__get__")))
    (tL_names : PySem.W.takesIn K (.ref pL_names) = some true)
    (rL_names : PySem.W.recIn K pL_names "property" = some (.ref fL_names :: rsL_names))
    (lL_names : K.lookup fL_names = some ⟨ocL_names, odL_names, .func (PySem.W.fnOf "names" "Locks.names" (defArgs s_Locks_names) (defBody s_Locks_names) (defScope s_Locks_names) .none kVL_names dcL_names pmL_names anL_names cdL_names ctL_names), slL_names⟩)
    (cL_names : PySem.W.codeIn K cdL_names "Locks.names" = true)
    (kL_names : PySem.W.keepIn K (.ref fL_names) = true)
    (aD___init__ : PySem.W.findIn K (.ref CD) "__init__" = some (some (.ref fD___init__)))
    (iD___init__ : PySem.W.isFn K (.ref fD___init__) = true)
    (lD___init__ : K.lookup fD___init__ = some ⟨ocD___init__, odD___init__, .func (PySem.W.fnOf "__init__" "Door.__init__" (defArgs s_Door___init__) (defBody s_Door___init__) (defScope s_Door___init__) .none kVD___init__ dcD___init__ pmD___init__ anD___init__ cdD___init__ ctD___init__), slD___init__⟩)
    (cD___init__ : PySem.W.codeIn K cdD___init__ "Door.__init__" = true)
    (kD___init__ : PySem.W.keepIn K (.ref fD___init__) = true)
    (aD_start : PySem.W.findIn K (.ref CD) "start" = some (some (.ref pD_start)))
    (gD_start : PySem.W.specialIn K (.ref pD_start) "__get__" = some (some (.builtin "property.__get__")))
    (tD_start : PySem.W.takesIn K (.ref pD_start) = some true)
    (rD_start : PySem.W.recIn K pD_start "property" = some (.ref fD_start :: rsD_start))
    (lD_start : K.lookup fD_start = some ⟨ocD_start, odD_start, .func (PySem.W.fnOf "start" "Door.start" (defArgs s_Door_start) (defBody s_Door_start) (defScope s_Door_start) .none kVD_start dcD_start pmD_start anD_start cdD_start ctD_start), slD_start⟩)
    (cD_start : PySem.W.codeIn K cdD_start "Door.start" = true)
    (kD_start : PySem.W.keepIn K (.ref fD_start) = true)
    (aD_end : PySem.W.findIn K (.ref CD) "end" = some (some (.ref pD_end)))
    (gD_end : PySem.W.specialIn K (.ref pD_end) "__get__" = some (some (.builtin "property.__get__")))
    (tD_end : PySem.W.takesIn K (.ref pD_end) = some true)
    (rD_end : PySem.W.recIn K pD_end "property" = some (.ref fD_end :: rsD_end))
    (lD_end : K.lookup fD_end = some ⟨ocD_end, odD_end, .func (PySem.W.fnOf "end" "Door.end" (defArgs s_Door_end) (defBody s_Door_end) (defScope s_Door_end) .none kVD_end dcD_end pmD_end anD_end cdD_end ctD_end), slD_end⟩)
    (cD_end : PySem.W.codeIn K cdD_end "Door.end" = true)
    (kD_end : PySem.W.keepIn K (.ref fD_end) = true)
    (aD_key : PySem.W.findIn K (.ref CD) "key" = some (some (.ref pD_key)))
    (gD_key : PySem.W.specialIn K (.ref pD_key) "__get__" = some (some (.builtin "property.__get__")))
    (tD_key : PySem.W.takesIn K (.ref pD_key) = some true)
    (rD_key : PySem.W.recIn K pD_key "property" = some (.ref fD_key :: rsD_key))
    (lD_key : K.lookup fD_key = some ⟨ocD_key, odD_key, .func (PySem.W.fnOf "key" "Door.key" (defArgs s_Door_key) (defBody s_Door_key) (defScope s_Door_key) .none kVD_key dcD_key pmD_key anD_key cdD_key ctD_key), slD_key⟩)
    (cD_key : PySem.W.codeIn K cdD_key "Door.key" = true)
    (kD_key : PySem.W.keepIn K (.ref fD_key) = true)
    (aD_ways : PySem.W.findIn K (.ref CD) "ways" = some (some (.ref fD_ways)))
    (iD_ways : PySem.W.isFn K (.ref fD_ways) = true)
    (lD_ways : K.lookup fD_ways = some ⟨ocD_ways, odD_ways, .func (PySem.W.fnOf "ways" "Door.ways" (defArgs s_Door_ways) (defBody s_Door_ways) (defScope s_Door_ways) .none kVD_ways dcD_ways pmD_ways anD_ways cdD_ways ctD_ways), slD_ways⟩)
    (cD_ways : PySem.W.codeIn K cdD_ways "Door.ways" = true)
    (kD_ways : PySem.W.keepIn K (.ref fD_ways) = true)
    (aP___init__ : PySem.W.findIn K (.ref CP) "__init__" = some (some (.ref fP___init__)))
    (iP___init__ : PySem.W.isFn K (.ref fP___init__) = true)
    (lP___init__ : K.lookup fP___init__ = some ⟨ocP___init__, odP___init__, .func (PySem.W.fnOf "__init__" "Person.__init__" (defArgs s_Person___init__) (defBody s_Person___init__) (defScope s_Person___init__) .none kVP___init__ dcP___init__ pmP___init__ anP___init__ cdP___init__ ctP___init__), slP___init__⟩)
    (cP___init__ : PySem.W.codeIn K cdP___init__ "Person.__init__" = true)
    (kP___init__ : PySem.W.keepIn K (.ref fP___init__) = true)
    (aP_start : PySem.W.findIn K (.ref CP) "start" = some (some (.ref pP_start)))
    (gP_start : PySem.W.specialIn K (.ref pP_start) "__get__" = some (some (.builtin "property.__get__")))
    (tP_start : PySem.W.takesIn K (.ref pP_start) = some true)
    (rP_start : PySem.W.recIn K pP_start "property" = some (.ref fP_start :: rsP_start))
    (lP_start : K.lookup fP_start = some ⟨ocP_start, odP_start, .func (PySem.W.fnOf "start" "Person.start" (defArgs s_Person_start) (defBody s_Person_start) (defScope s_Person_start) .none kVP_start dcP_start pmP_start anP_start cdP_start ctP_start), slP_start⟩)
    (cP_start : PySem.W.codeIn K cdP_start "Person.start" = true)
    (kP_start : PySem.W.keepIn K (.ref fP_start) = true)
    (aP_carried : PySem.W.findIn K (.ref CP) "carried" = some (some (.ref pP_carried)))
    (gP_carried : PySem.W.specialIn K (.ref pP_carried) "__get__" = some (some (.builtin "property.__get__")))
    (tP_carried : PySem.W.takesIn K (.ref pP_carried) = some true)
    (rP_carried : PySem.W.recIn K pP_carried "property" = some (.ref fP_carried :: rsP_carried))
    (lP_carried : K.lookup fP_carried = some ⟨ocP_carried, odP_carried, .func (PySem.W.fnOf "carried" "Person.carried" (defArgs s_Person_carried) (defBody s_Person_carried) (defScope s_Person_carried) .none kVP_carried dcP_carried pmP_carried anP_carried cdP_carried ctP_carried), slP_carried⟩)
    (cP_carried : PySem.W.codeIn K cdP_carried "Person.carried" = true)
    (kP_carried : PySem.W.keepIn K (.ref fP_carried) = true)
    (aP_needs : PySem.W.findIn K (.ref CP) "needs" = some (some (.ref pP_needs)))
    (gP_needs : PySem.W.specialIn K (.ref pP_needs) "__get__" = some (some (.builtin "property.__get__")))
    (tP_needs : PySem.W.takesIn K (.ref pP_needs) = some true)
    (rP_needs : PySem.W.recIn K pP_needs "property" = some (.ref fP_needs :: rsP_needs))
    (lP_needs : K.lookup fP_needs = some ⟨ocP_needs, odP_needs, .func (PySem.W.fnOf "needs" "Person.needs" (defArgs s_Person_needs) (defBody s_Person_needs) (defScope s_Person_needs) .none kVP_needs dcP_needs pmP_needs anP_needs cdP_needs ctP_needs), slP_needs⟩)
    (cP_needs : PySem.W.codeIn K cdP_needs "Person.needs" = true)
    (kP_needs : PySem.W.keepIn K (.ref fP_needs) = true)
    (aP_shuns : PySem.W.findIn K (.ref CP) "shuns" = some (some (.ref pP_shuns)))
    (gP_shuns : PySem.W.specialIn K (.ref pP_shuns) "__get__" = some (some (.builtin "property.__get__")))
    (tP_shuns : PySem.W.takesIn K (.ref pP_shuns) = some true)
    (rP_shuns : PySem.W.recIn K pP_shuns "property" = some (.ref fP_shuns :: rsP_shuns))
    (lP_shuns : K.lookup fP_shuns = some ⟨ocP_shuns, odP_shuns, .func (PySem.W.fnOf "shuns" "Person.shuns" (defArgs s_Person_shuns) (defBody s_Person_shuns) (defScope s_Person_shuns) .none kVP_shuns dcP_shuns pmP_shuns anP_shuns cdP_shuns ctP_shuns), slP_shuns⟩)
    (cP_shuns : PySem.W.codeIn K cdP_shuns "Person.shuns" = true)
    (kP_shuns : PySem.W.keepIn K (.ref fP_shuns) = true)
    (aB___init__ : PySem.W.findIn K (.ref CB) "__init__" = some (some (.ref fB___init__)))
    (iB___init__ : PySem.W.isFn K (.ref fB___init__) = true)
    (lB___init__ : K.lookup fB___init__ = some ⟨ocB___init__, odB___init__, .func (PySem.W.fnOf "__init__" "Building.__init__" (defArgs s_Building___init__) (defBody s_Building___init__) (defScope s_Building___init__) .none kVB___init__ dcB___init__ pmB___init__ anB___init__ cdB___init__ ctB___init__), slB___init__⟩)
    (cB___init__ : PySem.W.codeIn K cdB___init__ "Building.__init__" = true)
    (kB___init__ : PySem.W.keepIn K (.ref fB___init__) = true)
    (aB_key_rooms : PySem.W.findIn K (.ref CB) "key_rooms" = some (some (.ref pB_key_rooms)))
    (gB_key_rooms : PySem.W.specialIn K (.ref pB_key_rooms) "__get__" = some (some (.builtin "property.__get__")))
    (tB_key_rooms : PySem.W.takesIn K (.ref pB_key_rooms) = some true)
    (rB_key_rooms : PySem.W.recIn K pB_key_rooms "property" = some (.ref fB_key_rooms :: rsB_key_rooms))
    (lB_key_rooms : K.lookup fB_key_rooms = some ⟨ocB_key_rooms, odB_key_rooms, .func (PySem.W.fnOf "key_rooms" "Building.key_rooms" (defArgs s_Building_key_rooms) (defBody s_Building_key_rooms) (defScope s_Building_key_rooms) .none kVB_key_rooms dcB_key_rooms pmB_key_rooms anB_key_rooms cdB_key_rooms ctB_key_rooms), slB_key_rooms⟩)
    (cB_key_rooms : PySem.W.codeIn K cdB_key_rooms "Building.key_rooms" = true)
    (kB_key_rooms : PySem.W.keepIn K (.ref fB_key_rooms) = true)
    (aB_doors : PySem.W.findIn K (.ref CB) "doors" = some (some (.ref pB_doors)))
    (gB_doors : PySem.W.specialIn K (.ref pB_doors) "__get__" = some (some (.builtin "property.__get__")))
    (tB_doors : PySem.W.takesIn K (.ref pB_doors) = some true)
    (rB_doors : PySem.W.recIn K pB_doors "property" = some (.ref fB_doors :: rsB_doors))
    (lB_doors : K.lookup fB_doors = some ⟨ocB_doors, odB_doors, .func (PySem.W.fnOf "doors" "Building.doors" (defArgs s_Building_doors) (defBody s_Building_doors) (defScope s_Building_doors) .none kVB_doors dcB_doors pmB_doors anB_doors cdB_doors ctB_doors), slB_doors⟩)
    (cB_doors : PySem.W.codeIn K cdB_doors "Building.doors" = true)
    (kB_doors : PySem.W.keepIn K (.ref fB_doors) = true)
    (aB_people : PySem.W.findIn K (.ref CB) "people" = some (some (.ref pB_people)))
    (gB_people : PySem.W.specialIn K (.ref pB_people) "__get__" = some (some (.builtin "property.__get__")))
    (tB_people : PySem.W.takesIn K (.ref pB_people) = some true)
    (rB_people : PySem.W.recIn K pB_people "property" = some (.ref fB_people :: rsB_people))
    (lB_people : K.lookup fB_people = some ⟨ocB_people, odB_people, .func (PySem.W.fnOf "people" "Building.people" (defArgs s_Building_people) (defBody s_Building_people) (defScope s_Building_people) .none kVB_people dcB_people pmB_people anB_people cdB_people ctB_people), slB_people⟩)
    (cB_people : PySem.W.codeIn K cdB_people "Building.people" = true)
    (kB_people : PySem.W.keepIn K (.ref fB_people) = true)
    (aB_door : PySem.W.findIn K (.ref CB) "door" = some (some (.ref fB_door)))
    (iB_door : PySem.W.isFn K (.ref fB_door) = true)
    (lB_door : K.lookup fB_door = some ⟨ocB_door, odB_door, .func (PySem.W.fnOf "door" "Building.door" (defArgs s_Building_door) (defBody s_Building_door) (defScope s_Building_door) .none kVB_door dcB_door pmB_door anB_door cdB_door ctB_door), slB_door⟩)
    (cB_door : PySem.W.codeIn K cdB_door "Building.door" = true)
    (kB_door : PySem.W.keepIn K (.ref fB_door) = true)
    (aB_person : PySem.W.findIn K (.ref CB) "person" = some (some (.ref fB_person)))
    (iB_person : PySem.W.isFn K (.ref fB_person) = true)
    (lB_person : K.lookup fB_person = some ⟨ocB_person, odB_person, .func (PySem.W.fnOf "person" "Building.person" (defArgs s_Building_person) (defBody s_Building_person) (defScope s_Building_person) .none kVB_person dcB_person pmB_person anB_person cdB_person ctB_person), slB_person⟩)
    (cB_person : PySem.W.codeIn K cdB_person "Building.person" = true)
    (kB_person : PySem.W.keepIn K (.ref fB_person) = true)
    (aB_reach : PySem.W.findIn K (.ref CB) "reach" = some (some (.ref fB_reach)))
    (iB_reach : PySem.W.isFn K (.ref fB_reach) = true)
    (lB_reach : K.lookup fB_reach = some ⟨ocB_reach, odB_reach, .func (PySem.W.fnOf "reach" "Building.reach" (defArgs s_Building_reach) (defBody s_Building_reach) (defScope s_Building_reach) .none kVB_reach dcB_reach pmB_reach anB_reach cdB_reach ctB_reach), slB_reach⟩)
    (cB_reach : PySem.W.codeIn K cdB_reach "Building.reach" = true)
    (kB_reach : PySem.W.keepIn K (.ref fB_reach) = true)
    (tyg : PySem.W.specialIn K (.builtin "object.__class__") "__get__" = some (some (.builtin "getset_descriptor.__get__")))
    (tyt : PySem.W.takesIn K (.builtin "object.__class__") = some true)
    (v_LETTERS : PySem.W.nsIn K mainGlobals "LETTERS" = some (some (.str abc tk0)))
    (v_LONGEST : PySem.W.nsIn K mainGlobals "LONGEST" = some (some (.int 8 tk1)))
    (v_FEWEST_ROOMS : PySem.W.nsIn K mainGlobals "FEWEST_ROOMS" = some (some (.int 2 tk2)))
    (v_MOST_ROOMS : PySem.W.nsIn K mainGlobals "MOST_ROOMS" = some (some (.int 6 tk3)))
    (v_MOST_KEYS : PySem.W.nsIn K mainGlobals "MOST_KEYS" = some (some (.int 3 tk4)))
    (v_MOST_DOORS : PySem.W.nsIn K mainGlobals "MOST_DOORS" = some (some (.int 8 tk5)))
    (v_MOST_PEOPLE : PySem.W.nsIn K mainGlobals "MOST_PEOPLE" = some (some (.int 4 tk6)))
    (v_HIGHEST_COST : PySem.W.nsIn K mainGlobals "HIGHEST_COST" = some (some (.int 9 tk7)))
    (v_THROUGH : PySem.W.nsIn K mainGlobals "THROUGH" = some (some (.str "through" tk8)))
    (v_SHUT : PySem.W.nsIn K mainGlobals "SHUT" = some (some (.str "shut" tk9)))
    (z0 : PySem.W.nsIn K mainGlobals "len" = some none)
    (z1 : PySem.W.nsIn K mainGlobals "isinstance" = some none)
    (z2 : PySem.W.nsIn K mainGlobals "str" = some none)
    (z3 : PySem.W.nsIn K mainGlobals "all" = some none)
    (z4 : PySem.W.nsIn K mainGlobals "set" = some none)
    (z5 : PySem.W.nsIn K mainGlobals "sorted" = some none)
    (z6 : PySem.W.nsIn K mainGlobals "tuple" = some none)
    (z7 : PySem.W.nsIn K mainGlobals "list" = some none)
    (z8 : PySem.W.nsIn K mainGlobals "bool" = some none)
    (z9 : PySem.W.nsIn K mainGlobals "range" = some none)
    (z10 : PySem.W.nsIn K mainGlobals "max" = some none)
    (z11 : PySem.W.nsIn K mainGlobals "min" = some none)
    (z12 : PySem.W.nsIn K mainGlobals "any" = some none)
    (z13 : PySem.W.nsIn K mainGlobals "sum" = some none)
    (z14 : PySem.W.nsIn K mainGlobals "int" = some none)
    (z15 : PySem.W.nsIn K mainGlobals "dict" = some none)
    (zx_abs : PySem.W.nsIn K mainGlobals "abs" = some none)
    (zx_enumerate : PySem.W.nsIn K mainGlobals "enumerate" = some none)
    : ∃ fd : FuncData, (∀ (s : Shared) (v : Value), BindsTo s fd ⟨[v], []⟩ [("_law_script", v)]) ∧ ∀ base : Heap, K.In base → base.Ns mainGlobals mg → FnOk l.prog w K mg base CX0 11 fa fd ["_law_script"] (spLaw K) := by
  have e := hfa.symm.trans (PySem.W.mg_of X G a_law)
  cases e
  have B : Blt mg := ⟨PySem.W.mg_none_of X G z0, PySem.W.mg_none_of X G z1, PySem.W.mg_none_of X G z2, PySem.W.mg_none_of X G z3, PySem.W.mg_none_of X G z4, PySem.W.mg_none_of X G z5, PySem.W.mg_none_of X G z6, PySem.W.mg_none_of X G z7, PySem.W.mg_none_of X G z8, PySem.W.mg_none_of X G z9, PySem.W.mg_none_of X G z10, PySem.W.mg_none_of X G z11, PySem.W.mg_none_of X G z12, PySem.W.mg_none_of X G z13, PySem.W.mg_none_of X G z14, PySem.W.mg_none_of X G z15⟩
  have F_is_name := fun_mk (st := s_is_name) l_is_name c_is_name k_is_name
  have F_are_names := fun_mk (st := s_are_names) l_are_names c_are_names k_are_names
  have F_all_in := fun_mk (st := s_all_in) l_all_in c_all_in k_all_in
  have F_check_other := fun_mk (st := s_check_other) l_check_other c_check_other k_check_other
  have F_is_cost := fun_mk (st := s_is_cost) l_is_cost c_is_cost k_is_cost
  have F_is_table := fun_mk (st := s_is_table) l_is_table c_is_table k_is_table
  have F_are_rooms := fun_mk (st := s_are_rooms) l_are_rooms c_are_rooms k_are_rooms
  have F_is_key := fun_mk (st := s_is_key) l_is_key c_is_key k_is_key
  have F_are_keys := fun_mk (st := s_are_keys) l_are_keys c_are_keys k_are_keys
  have F_fits_door := fun_mk (st := s_fits_door) l_fits_door c_fits_door k_fits_door
  have F_fits_person := fun_mk (st := s_fits_person) l_fits_person c_fits_person k_fits_person
  have F_are_doors := fun_mk (st := s_are_doors) l_are_doors c_are_doors k_are_doors
  have F_are_people := fun_mk (st := s_are_people) l_are_people c_are_people k_are_people
  have F_check_building := fun_mk (st := s_check_building) l_check_building c_check_building k_check_building
  have F_check_locks := fun_mk (st := s_check_locks) l_check_locks c_check_locks k_check_locks
  have F_are_doors_of := fun_mk (st := s_are_doors_of) l_are_doors_of c_are_doors_of k_are_doors_of
  have F_keys_held := fun_mk (st := s_keys_held) l_keys_held c_keys_held k_keys_held
  have F_lets_through := fun_mk (st := s_lets_through) l_lets_through c_lets_through k_lets_through
  have F_room_added := fun_mk (st := s_room_added) l_room_added c_room_added k_room_added
  have F_rooms_beyond := fun_mk (st := s_rooms_beyond) l_rooms_beyond c_rooms_beyond k_rooms_beyond
  have F_rooms_of := fun_mk (st := s_rooms_of) l_rooms_of c_rooms_of k_rooms_of
  have F_first_step := fun_mk (st := s_first_step) l_first_step c_first_step k_first_step
  have F_trail_of := fun_mk (st := s_trail_of) l_trail_of c_trail_of k_trail_of
  have F_has_doubt_form := fun_mk (st := s_has_doubt_form) l_has_doubt_form c_has_doubt_form k_has_doubt_form
  have F_check_doubt := fun_mk (st := s_check_doubt) l_check_doubt c_check_doubt k_check_doubt
  have F_leads_to_shunned := fun_mk (st := s_leads_to_shunned) l_leads_to_shunned c_leads_to_shunned k_leads_to_shunned
  have F_shuts_out := fun_mk (st := s_shuts_out) l_shuts_out c_shuts_out k_shuts_out
  have F_is_doubt := fun_mk (st := s_is_doubt) l_is_doubt c_is_doubt k_is_doubt
  have F_strikes := fun_mk (st := s_strikes) l_strikes c_strikes k_strikes
  have F_rules_out := fun_mk (st := s_rules_out) l_rules_out c_rules_out k_rules_out
  have F__law_draw := fun_mk (st := s__law_draw) l__law_draw c__law_draw k__law_draw
  have F__law_cell_at := fun_mk (st := s__law_cell_at) l__law_cell_at c__law_cell_at k__law_cell_at
  have F__law_digits := fun_mk (st := s__law_digits) l__law_digits c__law_digits k__law_digits
  have F__law_take := fun_mk (st := s__law_take) l__law_take c__law_take k__law_take
  have F__law_pool := fun_mk (st := s__law_pool) l__law_pool c__law_pool k__law_pool
  have F__law_some := fun_mk (st := s__law_some) l__law_some c__law_some k__law_some
  have F__law_drawn := fun_mk (st := s__law_drawn) l__law_drawn c__law_drawn k__law_drawn
  have F__law_built := fun_mk (st := s__law_built) l__law_built c__law_built k__law_built
  have F__law_person := fun_mk (st := s__law_person) l__law_person c__law_person k__law_person
  have F__law_behind := fun_mk (st := s__law_behind) l__law_behind c__law_behind k__law_behind
  have F__law_reach := fun_mk (st := s__law_reach) l__law_reach c__law_reach k__law_reach
  have F__law_is_right := fun_mk (st := s__law_is_right) l__law_is_right c__law_is_right k__law_is_right
  have F__law_names := fun_mk (st := s__law_names) l__law_names c__law_names k__law_names
  have F__law_sets := fun_mk (st := s__law_sets) l__law_sets c__law_sets k__law_sets
  have F__law_locks := fun_mk (st := s__law_locks) l__law_locks c__law_locks k__law_locks
  have F__law_walked := fun_mk (st := s__law_walked) l__law_walked c__law_walked k__law_walked
  have F__law_drawn_trail := fun_mk (st := s__law_drawn_trail) l__law_drawn_trail c__law_drawn_trail k__law_drawn_trail
  have F__law_is_doubt := fun_mk (st := s__law_is_doubt) l__law_is_doubt c__law_is_doubt k__law_is_doubt
  have F__law_is_out := fun_mk (st := s__law_is_out) l__law_is_out c__law_is_out k__law_is_out
  have F__law_doubt := fun_mk (st := s__law_doubt) l__law_doubt c__law_doubt k__law_doubt
  have F__law_made := fun_mk (st := s__law_made) l__law_made c__law_made k__law_made
  have F_law := fun_mk (st := s_law) l_law c_law k_law
  have FL___init__ := fun_mk (st := s_Locks___init__) lL___init__ cL___init__ kL___init__
  have FL___or__ := fun_mk (st := s_Locks___or__) lL___or__ cL___or__ kL___or__
  have FL___contains__ := fun_mk (st := s_Locks___contains__) lL___contains__ cL___contains__ kL___contains__
  have FL_names := fun_mk (st := s_Locks_names) lL_names cL_names kL_names
  have FD___init__ := fun_mk (st := s_Door___init__) lD___init__ cD___init__ kD___init__
  have FD_start := fun_mk (st := s_Door_start) lD_start cD_start kD_start
  have FD_end := fun_mk (st := s_Door_end) lD_end cD_end kD_end
  have FD_key := fun_mk (st := s_Door_key) lD_key cD_key kD_key
  have FD_ways := fun_mk (st := s_Door_ways) lD_ways cD_ways kD_ways
  have FP___init__ := fun_mk (st := s_Person___init__) lP___init__ cP___init__ kP___init__
  have FP_start := fun_mk (st := s_Person_start) lP_start cP_start kP_start
  have FP_carried := fun_mk (st := s_Person_carried) lP_carried cP_carried kP_carried
  have FP_needs := fun_mk (st := s_Person_needs) lP_needs cP_needs kP_needs
  have FP_shuns := fun_mk (st := s_Person_shuns) lP_shuns cP_shuns kP_shuns
  have FB___init__ := fun_mk (st := s_Building___init__) lB___init__ cB___init__ kB___init__
  have FB_key_rooms := fun_mk (st := s_Building_key_rooms) lB_key_rooms cB_key_rooms kB_key_rooms
  have FB_doors := fun_mk (st := s_Building_doors) lB_doors cB_doors kB_doors
  have FB_people := fun_mk (st := s_Building_people) lB_people cB_people kB_people
  have FB_door := fun_mk (st := s_Building_door) lB_door cB_door kB_door
  have FB_person := fun_mk (st := s_Building_person) lB_person cB_person kB_person
  have FB_reach := fun_mk (st := s_Building_reach) lB_reach cB_reach kB_reach
  have b_is_name := F_is_name.binds (ps := ["value"]) fun _ _ _ _ _ _ us hl => match us, hl with | [_], _ => rfl
  have n_is_name : mg "is_name" = some (.ref f_is_name) := PySem.W.mg_of X G a_is_name
  have b_are_names := F_are_names.binds (ps := ["values"]) fun _ _ _ _ _ _ us hl => match us, hl with | [_], _ => rfl
  have n_are_names : mg "are_names" = some (.ref f_are_names) := PySem.W.mg_of X G a_are_names
  have b_all_in := F_all_in.binds (ps := ["names", "known"]) fun _ _ _ _ _ _ us hl => match us, hl with | [_, _], _ => rfl
  have n_all_in : mg "all_in" = some (.ref f_all_in) := PySem.W.mg_of X G a_all_in
  have b_check_other := F_check_other.binds (ps := ["other"]) fun _ _ _ _ _ _ us hl => match us, hl with | [_], _ => rfl
  have n_check_other : mg "check_other" = some (.ref f_check_other) := PySem.W.mg_of X G a_check_other
  have b_is_cost := F_is_cost.binds (ps := ["value"]) fun _ _ _ _ _ _ us hl => match us, hl with | [_], _ => rfl
  have n_is_cost : mg "is_cost" = some (.ref f_is_cost) := PySem.W.mg_of X G a_is_cost
  have b_is_table := F_is_table.binds (ps := ["value", "fewest", "most"]) fun _ _ _ _ _ _ us hl => match us, hl with | [_, _, _], _ => rfl
  have n_is_table : mg "is_table" = some (.ref f_is_table) := PySem.W.mg_of X G a_is_table
  have b_are_rooms := F_are_rooms.binds (ps := ["rooms"]) fun _ _ _ _ _ _ us hl => match us, hl with | [_], _ => rfl
  have n_are_rooms : mg "are_rooms" = some (.ref f_are_rooms) := PySem.W.mg_of X G a_are_rooms
  have b_is_key := F_is_key.binds (ps := ["name", "room", "rooms"]) fun _ _ _ _ _ _ us hl => match us, hl with | [_, _, _], _ => rfl
  have n_is_key : mg "is_key" = some (.ref f_is_key) := PySem.W.mg_of X G a_is_key
  have b_are_keys := F_are_keys.binds (ps := ["keys", "rooms"]) fun _ _ _ _ _ _ us hl => match us, hl with | [_, _], _ => rfl
  have n_are_keys : mg "are_keys" = some (.ref f_are_keys) := PySem.W.mg_of X G a_are_keys
  have b_fits_door := F_fits_door.binds (ps := ["door", "rooms", "keys"]) fun _ _ _ _ _ _ us hl => match us, hl with | [_, _, _], _ => rfl
  have n_fits_door : mg "fits_door" = some (.ref f_fits_door) := PySem.W.mg_of X G a_fits_door
  have b_fits_person := F_fits_person.binds (ps := ["person", "rooms", "keys"]) fun _ _ _ _ _ _ us hl => match us, hl with | [_, _, _], _ => rfl
  have n_fits_person : mg "fits_person" = some (.ref f_fits_person) := PySem.W.mg_of X G a_fits_person
  have b_are_doors := F_are_doors.binds (ps := ["doors", "rooms", "keys"]) fun _ _ _ _ _ _ us hl => match us, hl with | [_, _, _], _ => rfl
  have n_are_doors : mg "are_doors" = some (.ref f_are_doors) := PySem.W.mg_of X G a_are_doors
  have b_are_people := F_are_people.binds (ps := ["people", "rooms", "keys"]) fun _ _ _ _ _ _ us hl => match us, hl with | [_, _, _], _ => rfl
  have n_are_people : mg "are_people" = some (.ref f_are_people) := PySem.W.mg_of X G a_are_people
  have b_check_building := F_check_building.binds (ps := ["building"]) fun _ _ _ _ _ _ us hl => match us, hl with | [_], _ => rfl
  have n_check_building : mg "check_building" = some (.ref f_check_building) := PySem.W.mg_of X G a_check_building
  have b_check_locks := F_check_locks.binds (ps := ["building", "locks"]) fun _ _ _ _ _ _ us hl => match us, hl with | [_, _], _ => rfl
  have n_check_locks : mg "check_locks" = some (.ref f_check_locks) := PySem.W.mg_of X G a_check_locks
  have b_are_doors_of := F_are_doors_of.binds (ps := ["building", "names"]) fun _ _ _ _ _ _ us hl => match us, hl with | [_, _], _ => rfl
  have n_are_doors_of : mg "are_doors_of" = some (.ref f_are_doors_of) := PySem.W.mg_of X G a_are_doors_of
  have b_keys_held := F_keys_held.binds (ps := ["building", "person", "rooms"]) fun _ _ _ _ _ _ us hl => match us, hl with | [_, _, _], _ => rfl
  have n_keys_held : mg "keys_held" = some (.ref f_keys_held) := PySem.W.mg_of X G a_keys_held
  have b_lets_through := F_lets_through.binds (ps := ["building", "person", "locks", "rooms", "name"]) fun _ _ _ _ _ _ us hl => match us, hl with | [_, _, _, _, _], _ => rfl
  have n_lets_through : mg "lets_through" = some (.ref f_lets_through) := PySem.W.mg_of X G a_lets_through
  have b_room_added := F_room_added.binds (ps := ["building", "person", "locks", "rooms", "name"]) fun _ _ _ _ _ _ us hl => match us, hl with | [_, _, _, _, _], _ => rfl
  have n_room_added : mg "room_added" = some (.ref f_room_added) := PySem.W.mg_of X G a_room_added
  have b_rooms_beyond := F_rooms_beyond.binds (ps := ["building", "person", "locks", "rooms"]) fun _ _ _ _ _ _ us hl => match us, hl with | [_, _, _, _], _ => rfl
  have n_rooms_beyond : mg "rooms_beyond" = some (.ref f_rooms_beyond) := PySem.W.mg_of X G a_rooms_beyond
  have b_rooms_of := F_rooms_of.binds (ps := ["building", "person", "locks", "trail"]) fun _ _ _ _ _ _ us hl => match us, hl with | [_, _, _, _], _ => rfl
  have n_rooms_of : mg "rooms_of" = some (.ref f_rooms_of) := PySem.W.mg_of X G a_rooms_of
  have b_first_step := F_first_step.binds (ps := ["building", "person", "locks", "rooms"]) fun _ _ _ _ _ _ us hl => match us, hl with | [_, _, _, _], _ => rfl
  have n_first_step : mg "first_step" = some (.ref f_first_step) := PySem.W.mg_of X G a_first_step
  have b_trail_of := F_trail_of.binds (ps := ["building", "name", "locks"]) fun _ _ _ _ _ _ us hl => match us, hl with | [_, _, _], _ => rfl
  have n_trail_of : mg "trail_of" = some (.ref f_trail_of) := PySem.W.mg_of X G a_trail_of
  have b_has_doubt_form := F_has_doubt_form.binds (ps := ["building", "doubt"]) fun _ _ _ _ _ _ us hl => match us, hl with | [_, _], _ => rfl
  have n_has_doubt_form : mg "has_doubt_form" = some (.ref f_has_doubt_form) := PySem.W.mg_of X G a_has_doubt_form
  have b_check_doubt := F_check_doubt.binds (ps := ["building", "doubt"]) fun _ _ _ _ _ _ us hl => match us, hl with | [_, _], _ => rfl
  have n_check_doubt : mg "check_doubt" = some (.ref f_check_doubt) := PySem.W.mg_of X G a_check_doubt
  have b_leads_to_shunned := F_leads_to_shunned.binds (ps := ["building", "person", "trail"]) fun _ _ _ _ _ _ us hl => match us, hl with | [_, _, _], _ => rfl
  have n_leads_to_shunned : mg "leads_to_shunned" = some (.ref f_leads_to_shunned) := PySem.W.mg_of X G a_leads_to_shunned
  have b_shuts_out := F_shuts_out.binds (ps := ["building", "name", "doors"]) fun _ _ _ _ _ _ us hl => match us, hl with | [_, _, _], _ => rfl
  have n_shuts_out : mg "shuts_out" = some (.ref f_shuts_out) := PySem.W.mg_of X G a_shuts_out
  have b_is_doubt := F_is_doubt.binds (ps := ["building", "doubt"]) fun _ _ _ _ _ _ us hl => match us, hl with | [_, _], _ => rfl
  have n_is_doubt : mg "is_doubt" = some (.ref f_is_doubt) := PySem.W.mg_of X G a_is_doubt
  have b_strikes := F_strikes.binds (ps := ["doubt", "locks"]) fun _ _ _ _ _ _ us hl => match us, hl with | [_, _], _ => rfl
  have n_strikes : mg "strikes" = some (.ref f_strikes) := PySem.W.mg_of X G a_strikes
  have b_rules_out := F_rules_out.binds (ps := ["building", "doubt", "locks"]) fun _ _ _ _ _ _ us hl => match us, hl with | [_, _, _], _ => rfl
  have n_rules_out : mg "rules_out" = some (.ref f_rules_out) := PySem.W.mg_of X G a_rules_out
  have b__law_draw := F__law_draw.binds (ps := ["_law_cell", "_law_k", "_law_many"]) fun _ _ _ _ _ _ us hl => match us, hl with | [_, _, _], _ => rfl
  have n__law_draw : mg "_law_draw" = some (.ref f__law_draw) := PySem.W.mg_of X G a__law_draw
  have b__law_cell_at := F__law_cell_at.binds (ps := ["_law_script", "_law_k"]) fun _ _ _ _ _ _ us hl => match us, hl with | [_, _], _ => rfl
  have n__law_cell_at : mg "_law_cell_at" = some (.ref f__law_cell_at) := PySem.W.mg_of X G a__law_cell_at
  have b__law_digits := F__law_digits.binds (ps := ["_law_script", "_law_at", "_law_many", "_law_base"]) fun _ _ _ _ _ _ us hl => match us, hl with | [_, _, _, _], _ => rfl
  have n__law_digits : mg "_law_digits" = some (.ref f__law_digits) := PySem.W.mg_of X G a__law_digits
  have b__law_take := F__law_take.binds (ps := ["_law_draws", "_law_many"]) fun _ _ _ _ _ _ us hl => match us, hl with | [_, _], _ => rfl
  have n__law_take : mg "_law_take" = some (.ref f__law_take) := PySem.W.mg_of X G a__law_take
  have b__law_pool := F__law_pool.binds (ps := ["_law_script", "_law_bases"]) fun _ _ _ _ _ _ us hl => match us, hl with | [_, _], _ => rfl
  have n__law_pool : mg "_law_pool" = some (.ref f__law_pool) := PySem.W.mg_of X G a__law_pool
  have b__law_some := F__law_some.binds (ps := ["_law_draws", "_law_items", "_law_many"]) fun _ _ _ _ _ _ us hl => match us, hl with | [_, _, _], _ => rfl
  have n__law_some : mg "_law_some" = some (.ref f__law_some) := PySem.W.mg_of X G a__law_some
  have b__law_drawn := F__law_drawn.binds (ps := ["_law_draws", "_law_most"]) fun _ _ _ _ _ _ us hl => match us, hl with | [_, _], _ => rfl
  have n__law_drawn : mg "_law_drawn" = some (.ref f__law_drawn) := PySem.W.mg_of X G a__law_drawn
  have b__law_built := F__law_built.binds (ps := ["_law_plan"]) fun _ _ _ _ _ _ us hl => match us, hl with | [_], _ => rfl
  have n__law_built : mg "_law_built" = some (.ref f__law_built) := PySem.W.mg_of X G a__law_built
  have b__law_person := F__law_person.binds (ps := ["_law_plan", "_law_name"]) fun _ _ _ _ _ _ us hl => match us, hl with | [_, _], _ => rfl
  have n__law_person : mg "_law_person" = some (.ref f__law_person) := PySem.W.mg_of X G a__law_person
  have b__law_behind := F__law_behind.binds (ps := ["_law_plan", "_law_person_here", "_law_rooms", "_law_door"]) fun _ _ _ _ _ _ us hl => match us, hl with | [_, _, _, _], _ => rfl
  have n__law_behind : mg "_law_behind" = some (.ref f__law_behind) := PySem.W.mg_of X G a__law_behind
  have b__law_reach := F__law_reach.binds (ps := ["_law_plan", "_law_name", "_law_locked"]) fun _ _ _ _ _ _ us hl => match us, hl with | [_, _, _], _ => rfl
  have n__law_reach : mg "_law_reach" = some (.ref f__law_reach) := PySem.W.mg_of X G a__law_reach
  have b__law_is_right := F__law_is_right.binds (ps := ["_law_plan", "_law_locked"]) fun _ _ _ _ _ _ us hl => match us, hl with | [_, _], _ => rfl
  have n__law_is_right : mg "_law_is_right" = some (.ref f__law_is_right) := PySem.W.mg_of X G a__law_is_right
  have b__law_names := F__law_names.binds (ps := ["_law_plan"]) fun _ _ _ _ _ _ us hl => match us, hl with | [_], _ => rfl
  have n__law_names : mg "_law_names" = some (.ref f__law_names) := PySem.W.mg_of X G a__law_names
  have b__law_sets := F__law_sets.binds (ps := ["_law_plan"]) fun _ _ _ _ _ _ us hl => match us, hl with | [_], _ => rfl
  have n__law_sets : mg "_law_sets" = some (.ref f__law_sets) := PySem.W.mg_of X G a__law_sets
  have b__law_locks := F__law_locks.binds (ps := ["_law_names_here"]) fun _ _ _ _ _ _ us hl => match us, hl with | [_], _ => rfl
  have n__law_locks : mg "_law_locks" = some (.ref f__law_locks) := PySem.W.mg_of X G a__law_locks
  have b__law_walked := F__law_walked.binds (ps := ["_law_plan", "_law_name", "_law_locked", "_law_trail"]) fun _ _ _ _ _ _ us hl => match us, hl with | [_, _, _, _], _ => rfl
  have n__law_walked : mg "_law_walked" = some (.ref f__law_walked) := PySem.W.mg_of X G a__law_walked
  have b__law_drawn_trail := F__law_drawn_trail.binds (ps := ["_law_draws", "_law_plan", "_law_name", "_law_locked"]) fun _ _ _ _ _ _ us hl => match us, hl with | [_, _, _, _], _ => rfl
  have n__law_drawn_trail : mg "_law_drawn_trail" = some (.ref f__law_drawn_trail) := PySem.W.mg_of X G a__law_drawn_trail
  have b__law_is_doubt := F__law_is_doubt.binds (ps := ["_law_plan", "_law_doubt_here"]) fun _ _ _ _ _ _ us hl => match us, hl with | [_, _], _ => rfl
  have n__law_is_doubt : mg "_law_is_doubt" = some (.ref f__law_is_doubt) := PySem.W.mg_of X G a__law_is_doubt
  have b__law_is_out := F__law_is_out.binds (ps := ["_law_plan", "_law_doubt_here", "_law_locked"]) fun _ _ _ _ _ _ us hl => match us, hl with | [_, _, _], _ => rfl
  have n__law_is_out : mg "_law_is_out" = some (.ref f__law_is_out) := PySem.W.mg_of X G a__law_is_out
  have b__law_doubt := F__law_doubt.binds (ps := ["_law_draws", "_law_plan"]) fun _ _ _ _ _ _ us hl => match us, hl with | [_, _], _ => rfl
  have n__law_doubt : mg "_law_doubt" = some (.ref f__law_doubt) := PySem.W.mg_of X G a__law_doubt
  have b__law_made := F__law_made.binds (ps := ["_law_plan", "_law_built_here", "_law_locked"]) fun _ _ _ _ _ _ us hl => match us, hl with | [_, _, _], _ => rfl
  have n__law_made : mg "_law_made" = some (.ref f__law_made) := PySem.W.mg_of X G a__law_made
  have b_law := F_law.binds (ps := ["_law_script"]) fun _ _ _ _ _ _ us hl => match us, hl with | [_], _ => rfl
  have mL___init__ : Meth K CL "__init__" fL___init__ := ⟨aL___init__, iL___init__, kL___init__⟩
  have bL___or__ := FL___or__.binds (ps := ["self", "other"]) fun _ _ _ _ _ _ us hl => match us, hl with | [_, _], _ => rfl
  have mL___or__ : Meth K CL "__or__" fL___or__ := ⟨aL___or__, iL___or__, kL___or__⟩
  have bL___contains__ := FL___contains__.binds (ps := ["self", "name"]) fun _ _ _ _ _ _ us hl => match us, hl with | [_, _], _ => rfl
  have mL___contains__ : Meth K CL "__contains__" fL___contains__ := ⟨aL___contains__, iL___contains__, kL___contains__⟩
  have bL_names := FL_names.binds (ps := ["self"]) fun _ _ _ _ _ _ us hl => match us, hl with | [_], _ => rfl
  have oL_names : PropOf K CL "names" pL_names fL_names := ⟨aL_names, gL_names, tL_names, rsL_names, rL_names⟩
  have mD___init__ : Meth K CD "__init__" fD___init__ := ⟨aD___init__, iD___init__, kD___init__⟩
  have bD_start := FD_start.binds (ps := ["self"]) fun _ _ _ _ _ _ us hl => match us, hl with | [_], _ => rfl
  have oD_start : PropOf K CD "start" pD_start fD_start := ⟨aD_start, gD_start, tD_start, rsD_start, rD_start⟩
  have bD_end := FD_end.binds (ps := ["self"]) fun _ _ _ _ _ _ us hl => match us, hl with | [_], _ => rfl
  have oD_end : PropOf K CD "end" pD_end fD_end := ⟨aD_end, gD_end, tD_end, rsD_end, rD_end⟩
  have bD_key := FD_key.binds (ps := ["self"]) fun _ _ _ _ _ _ us hl => match us, hl with | [_], _ => rfl
  have oD_key : PropOf K CD "key" pD_key fD_key := ⟨aD_key, gD_key, tD_key, rsD_key, rD_key⟩
  have bD_ways := FD_ways.binds (ps := ["self"]) fun _ _ _ _ _ _ us hl => match us, hl with | [_], _ => rfl
  have mD_ways : Meth K CD "ways" fD_ways := ⟨aD_ways, iD_ways, kD_ways⟩
  have mP___init__ : Meth K CP "__init__" fP___init__ := ⟨aP___init__, iP___init__, kP___init__⟩
  have bP_start := FP_start.binds (ps := ["self"]) fun _ _ _ _ _ _ us hl => match us, hl with | [_], _ => rfl
  have oP_start : PropOf K CP "start" pP_start fP_start := ⟨aP_start, gP_start, tP_start, rsP_start, rP_start⟩
  have bP_carried := FP_carried.binds (ps := ["self"]) fun _ _ _ _ _ _ us hl => match us, hl with | [_], _ => rfl
  have oP_carried : PropOf K CP "carried" pP_carried fP_carried := ⟨aP_carried, gP_carried, tP_carried, rsP_carried, rP_carried⟩
  have bP_needs := FP_needs.binds (ps := ["self"]) fun _ _ _ _ _ _ us hl => match us, hl with | [_], _ => rfl
  have oP_needs : PropOf K CP "needs" pP_needs fP_needs := ⟨aP_needs, gP_needs, tP_needs, rsP_needs, rP_needs⟩
  have bP_shuns := FP_shuns.binds (ps := ["self"]) fun _ _ _ _ _ _ us hl => match us, hl with | [_], _ => rfl
  have oP_shuns : PropOf K CP "shuns" pP_shuns fP_shuns := ⟨aP_shuns, gP_shuns, tP_shuns, rsP_shuns, rP_shuns⟩
  have bB___init__ := FB___init__.binds (ps := ["self", "rooms", "keys", "doors", "people"]) fun _ _ _ _ _ _ us hl => match us, hl with | [_, _, _, _, _], _ => rfl
  have mB___init__ : Meth K CB "__init__" fB___init__ := ⟨aB___init__, iB___init__, kB___init__⟩
  have bB_key_rooms := FB_key_rooms.binds (ps := ["self"]) fun _ _ _ _ _ _ us hl => match us, hl with | [_], _ => rfl
  have oB_key_rooms : PropOf K CB "key_rooms" pB_key_rooms fB_key_rooms := ⟨aB_key_rooms, gB_key_rooms, tB_key_rooms, rsB_key_rooms, rB_key_rooms⟩
  have bB_doors := FB_doors.binds (ps := ["self"]) fun _ _ _ _ _ _ us hl => match us, hl with | [_], _ => rfl
  have oB_doors : PropOf K CB "doors" pB_doors fB_doors := ⟨aB_doors, gB_doors, tB_doors, rsB_doors, rB_doors⟩
  have bB_people := FB_people.binds (ps := ["self"]) fun _ _ _ _ _ _ us hl => match us, hl with | [_], _ => rfl
  have oB_people : PropOf K CB "people" pB_people fB_people := ⟨aB_people, gB_people, tB_people, rsB_people, rB_people⟩
  have bB_door := FB_door.binds (ps := ["self", "name"]) fun _ _ _ _ _ _ us hl => match us, hl with | [_, _], _ => rfl
  have mB_door : Meth K CB "door" fB_door := ⟨aB_door, iB_door, kB_door⟩
  have bB_person := FB_person.binds (ps := ["self", "name"]) fun _ _ _ _ _ _ us hl => match us, hl with | [_, _], _ => rfl
  have mB_person : Meth K CB "person" fB_person := ⟨aB_person, iB_person, kB_person⟩
  have bB_reach := FB_reach.binds (ps := ["self", "name", "locks"]) fun _ _ _ _ _ _ us hl => match us, hl with | [_, _, _], _ => rfl
  have mB_reach : Meth K CB "reach" fB_reach := ⟨aB_reach, iB_reach, kB_reach⟩
  have TL : LkC K mg CL := ⟨⟨pgL, hdL, poL, saL⟩, PySem.W.mg_of X G a_Locks, noL0, tycL, tyg, tyt, tymL, if_pos (beq_self_eq_true _), sfL, nbL⟩
  have TD : OwnC K mg CD "Door" ["kept_start", "kept_end", "kept_key", "kept_both", "kept_cost"] := ⟨⟨pgD, hdD, poD, saD⟩, PySem.W.mg_of X G a_Door, (fun f hf => by
    simp only [List.mem_cons, List.not_mem_nil, or_false] at hf
    rcases hf with rfl | rfl | rfl | rfl | rfl
    · exact noD0
    · exact noD1
    · exact noD2
    · exact noD3
    · exact noD4), tycD, tyg, tyt, tymD⟩
  have TP : OwnC K mg CP "Person" ["kept_start", "kept_carried", "kept_needs", "kept_shuns"] := ⟨⟨pgP, hdP, poP, saP⟩, PySem.W.mg_of X G a_Person, (fun f hf => by
    simp only [List.mem_cons, List.not_mem_nil, or_false] at hf
    rcases hf with rfl | rfl | rfl | rfl
    · exact noP0
    · exact noP1
    · exact noP2
    · exact noP3), tycP, tyg, tyt, tymP⟩
  have TB : OwnC K mg CB "Building" ["kept_rooms", "kept_keys", "door_names", "kept_doors", "person_names", "kept_people"] := ⟨⟨pgB, hdB, poB, saB⟩, PySem.W.mg_of X G a_Building, (fun f hf => by
    simp only [List.mem_cons, List.not_mem_nil, or_false] at hf
    rcases hf with rfl | rfl | rfl | rfl | rfl | rfl
    · exact noB0
    · exact noB1
    · exact noB2
    · exact noB3
    · exact noB4
    · exact noB5), tycB, tyg, tyt, tymB⟩
  refine ⟨PySem.W.fnOf "law" "law" (defArgs s_law) (defBody s_law) (defScope s_law) .none kV_law dc_law pm_law an_law cd_law ct_law, fun s v => .of_eq rfl, fun base _ _ => ?_⟩
  have S : Cst mg := ⟨⟨tk0, PySem.W.mg_of X G v_LETTERS⟩, ⟨tk1, PySem.W.mg_of X G v_LONGEST⟩⟩
  have Li : Lim mg := ⟨⟨tk2, PySem.W.mg_of X G v_FEWEST_ROOMS⟩, ⟨tk3, PySem.W.mg_of X G v_MOST_ROOMS⟩, ⟨tk4, PySem.W.mg_of X G v_MOST_KEYS⟩, ⟨tk5, PySem.W.mg_of X G v_MOST_DOORS⟩, ⟨tk6, PySem.W.mg_of X G v_MOST_PEOPLE⟩⟩
  have oN : FnOk l.prog w K mg base CX0 1 f_is_name _ ["value"] spName := ok_name F_is_name B S
  have GN : Fn l.prog w K mg base 1 "is_name" ["value"] spName := ⟨⟨_, _, n_is_name, k_is_name, b_is_name, oN⟩⟩
  have GA : Fn l.prog w K mg base 2 "are_names" ["values"] (spAre K) := ⟨⟨_, _, n_are_names, k_are_names, b_are_names, ok_are F_are_names B oN b_is_name n_is_name k_is_name⟩⟩
  have GI : Fn l.prog w K mg base 1 "all_in" ["names", "known"] (spAllIn K) := ⟨⟨_, _, n_all_in, k_all_in, b_all_in, ok_allIn F_all_in B⟩⟩
  have GIL : Fn l.prog w K mg base 1 "all_in" ["names", "known"] (spAllInL K) := ⟨⟨_, _, n_all_in, k_all_in, b_all_in, ok_allInL F_all_in B⟩⟩
  have GID : Fn l.prog w K mg base 1 "all_in" ["names", "known"] (spAllInD K) := ⟨⟨_, _, n_all_in, k_all_in, b_all_in, ok_allInD F_all_in B⟩⟩
  have GCo : Fn l.prog w K mg base 1 "is_cost" ["value"] spCost := ⟨⟨_, _, n_is_cost, k_is_cost, b_is_cost, ok_cost F_is_cost B ⟨tk7, PySem.W.mg_of X G v_HIGHEST_COST⟩⟩⟩
  have oC : FnOk l.prog w K mg base CX0 1 f_check_other _ ["other"] (spCheck CL) := ok_check F_check_other B TL
  have ML : Mk K CL fL___init__ := ⟨mkL, aL___init__, iL___init__, kcL⟩
  have rL : FnR l.prog w K mg base CX0 2 fL___init__ (spNew CL) := ok_init FL___init__ B TL oN b_is_name n_is_name k_is_name
  have LT : LkT l.prog w K mg base CL := ⟨TL, ⟨_, ML, rL⟩, ⟨_, _, ⟨aL___or__, iL___or__⟩, ok_or FL___or__ TL oC b_check_other n_check_other k_check_other ML rL, bL___or__⟩⟩
  have HL : Has l.prog w K mg base CL := ⟨⟨_, _, ⟨aL___contains__, iL___contains__⟩, bL___contains__, ok_has FL___contains__ TL⟩⟩
  have PN : Pr l.prog w K mg base 1 CL "names" (spNames CL) := ⟨⟨_, _, _, oL_names, bL_names, ok_names FL_names B TL⟩⟩
  have DT : DoorT l.prog w K mg base CD := ⟨TD, ⟨⟨_, _, _, oD_start, bD_start, ok_getter FD_start ⟨rfl, rfl, rfl, by decide +kernel, rfl, by decide +kernel, by decide +kernel⟩ ⟨_, _, _, rfl⟩ TD.cl noD0⟩⟩,
    ⟨⟨_, _, _, oD_end, bD_end, ok_getter FD_end ⟨rfl, rfl, rfl, by decide +kernel, rfl, by decide +kernel, by decide +kernel⟩ ⟨_, _, _, rfl⟩ TD.cl noD1⟩⟩,
    ⟨⟨_, _, _, oD_key, bD_key, ok_getter FD_key ⟨rfl, rfl, rfl, by decide +kernel, rfl, by decide +kernel, by decide +kernel⟩ ⟨_, _, _, rfl⟩ TD.cl noD2⟩⟩⟩
  have PT : PersT l.prog w K mg base CP := ⟨TP, ⟨⟨_, _, _, oP_start, bP_start, ok_getter FP_start ⟨rfl, rfl, rfl, by decide +kernel, rfl, by decide +kernel, by decide +kernel⟩ ⟨_, _, _, rfl⟩ TP.cl noP0⟩⟩,
    ⟨⟨_, _, _, oP_carried, bP_carried, ok_getter FP_carried ⟨rfl, rfl, rfl, by decide +kernel, rfl, by decide +kernel, by decide +kernel⟩ ⟨_, _, _, rfl⟩ TP.cl noP1⟩⟩,
    ⟨⟨_, _, _, oP_needs, bP_needs, ok_getter FP_needs ⟨rfl, rfl, rfl, by decide +kernel, rfl, by decide +kernel, by decide +kernel⟩ ⟨_, _, _, rfl⟩ TP.cl noP2⟩⟩,
    ⟨⟨_, _, _, oP_shuns, bP_shuns, ok_getter FP_shuns ⟨rfl, rfl, rfl, by decide +kernel, rfl, by decide +kernel, by decide +kernel⟩ ⟨_, _, _, rfl⟩ TP.cl noP3⟩⟩⟩
  have MD : MkW l.prog w K mg base 3 CD "Door" ["self", "start", "end", "key", "both", "cost"] ["key", "both", "cost"] 2 (spDoor CD) := ⟨⟨_, _, ⟨mkD, aD___init__, iD___init__, kcD⟩, TD.mgC, kb_door FD___init__, ok_door FD___init__ B TD GA GN GCo⟩⟩
  have MP : MkW l.prog w K mg base 3 CP "Person" ["self", "start", "carried", "needs", "shuns"] ["carried", "needs", "shuns"] 1 (spPerson K CP) := ⟨⟨_, _, ⟨mkP, aP___init__, iP___init__, kcP⟩, TP.mgC, kb_person FP___init__, ok_person FP___init__ B TP GA GN⟩⟩
  have GT : Fn l.prog w K mg base 2 "is_table" ["value", "fewest", "most"] spTable := ⟨⟨_, _, n_is_table, k_is_table, b_is_table, ok_table F_is_table B GN⟩⟩
  have GRo : Fn l.prog w K mg base 3 "are_rooms" ["rooms"] (spRooms K) := ⟨⟨_, _, n_are_rooms, k_are_rooms, b_are_rooms, ok_rooms F_are_rooms B Li GA⟩⟩
  have GIK : Fn l.prog w K mg base 2 "is_key" ["name", "room", "rooms"] (spIsKey K) := ⟨⟨_, _, n_is_key, k_is_key, b_is_key, ok_isKey F_is_key GN⟩⟩
  have GKs : Fn l.prog w K mg base 3 "are_keys" ["keys", "rooms"] (spKeys K) := ⟨⟨_, _, n_are_keys, k_are_keys, b_are_keys, ok_keys F_are_keys B Li GT GIK⟩⟩
  have GFD : Fn l.prog w K mg base 3 "fits_door" ["door", "rooms", "keys"] (spFitsD K CD) := ⟨⟨_, _, n_fits_door, k_fits_door, b_fits_door, ok_fitsD F_fits_door B DT GI⟩⟩
  have GDs : Fn l.prog w K mg base 4 "are_doors" ["doors", "rooms", "keys"] (spDoors K CD) := ⟨⟨_, _, n_are_doors, k_are_doors, b_are_doors, ok_doors F_are_doors B Li GT GFD⟩⟩
  have GFP : Fn l.prog w K mg base 3 "fits_person" ["person", "rooms", "keys"] (spFitsP K CP) := ⟨⟨_, _, n_fits_person, k_fits_person, b_fits_person, ok_fitsP F_fits_person B PT GI GID⟩⟩
  have GPs : Fn l.prog w K mg base 4 "are_people" ["people", "rooms", "keys"] (spPeople K CP) := ⟨⟨_, _, n_are_people, k_are_people, b_are_people, ok_people F_are_people B Li GT GFP⟩⟩
  have MB : MkP l.prog w K mg base 5 CB "Building" ["self", "rooms", "keys", "doors", "people"] (spBld K CD CP CB) := ⟨⟨_, _, ⟨mkB, aB___init__, iB___init__, kcB⟩, TB.mgC, bB___init__, ok_bld FB___init__ B TB GRo GKs GDs GPs⟩⟩
  have PK : Pr l.prog w K mg base 1 CB "key_rooms" (spKeyRooms K CD CP CB) := ⟨⟨_, _, _, oB_key_rooms, bB_key_rooms, ok_keyRooms FB_key_rooms B TB⟩⟩
  have PD : Pr l.prog w K mg base 1 CB "doors" (spBDoors K CD CP CB) := ⟨⟨_, _, _, oB_doors, bB_doors, ok_bDoors FB_doors B TB⟩⟩
  have PP : Pr l.prog w K mg base 1 CB "people" (spBPeople K CD CP CB) := ⟨⟨_, _, _, oB_people, bB_people, ok_bPeople FB_people B TB⟩⟩
  have MtD : Mt l.prog w K mg base 2 CB "door" ["self", "name"] (spDoorOf K CD CP CB) := ⟨⟨_, _, mB_door, bB_door, ok_doorOf FB_door TB GN⟩⟩
  have MtP : Mt l.prog w K mg base 2 CB "person" ["self", "name"] (spPersOf K CD CP CB) := ⟨⟨_, _, mB_person, bB_person, ok_persOf FB_person TB GN⟩⟩
  have GCh : Fn l.prog w K mg base 3 "check_locks" ["building", "locks"] (spChk K CD CP CB CL) := ⟨⟨_, _, n_check_locks, k_check_locks, b_check_locks, ok_chk F_check_locks B TL TB GIL PN PD⟩⟩
  have GH : Fn l.prog w K mg base 3 "keys_held" ["building", "person", "rooms"] (spHeld K CD CP CB) := ⟨⟨_, _, n_keys_held, k_keys_held, b_keys_held, ok_held F_keys_held B TB PT PK⟩⟩
  have GW : Gen l.prog w K mg base CD := ⟨⟨_, _, mD_ways, bD_ways, ok_ways FD_ways TD⟩⟩
  have GTh : Fn l.prog w K mg base 4 "lets_through" ["building", "person", "locks", "rooms", "name"] (spThru K CD CP CB CL) := ⟨⟨_, _, n_lets_through, k_lets_through, b_lets_through, ok_thru F_lets_through TB DT GH MtD HL⟩⟩
  have GAd : Fn l.prog w K mg base 5 "room_added" ["building", "person", "locks", "rooms", "name"] (spAdded K CD CP CB CL) := ⟨⟨_, _, n_room_added, k_room_added, b_room_added, ok_added F_room_added TB DT GTh MtD GW⟩⟩
  have GBe : Fn l.prog w K mg base 6 "rooms_beyond" ["building", "person", "locks", "rooms"] (spBeyond K CD CP CB CL) := ⟨⟨_, _, n_rooms_beyond, k_rooms_beyond, b_rooms_beyond, ok_beyond F_rooms_beyond TB GAd PD⟩⟩
  have MtR : Mt l.prog w K mg base 7 CB "reach" ["self", "name", "locks"] (spReach K CD CP CB CL) := ⟨⟨_, _, mB_reach, bB_reach, ok_reach FB_reach TB PT MtP GCh GBe⟩⟩
  have GCB : Fn l.prog w K mg base 1 "check_building" ["building"] (spChkB CB) := ⟨⟨_, _, n_check_building, k_check_building, b_check_building, ok_chkB F_check_building B TB⟩⟩
  have GDO : Fn l.prog w K mg base 3 "are_doors_of" ["building", "names"] (spDoorsOf K CD CP CB) := ⟨⟨_, _, n_are_doors_of, k_are_doors_of, b_are_doors_of, ok_doorsOf F_are_doors_of B TB GN PD⟩⟩
  have GRO : Fn l.prog w K mg base 6 "rooms_of" ["building", "person", "locks", "trail"] (spRoomsOf K CD CP CB CL) := ⟨⟨_, _, n_rooms_of, k_rooms_of, b_rooms_of, ok_roomsOf F_rooms_of PT GAd⟩⟩
  have GST : Fn l.prog w K mg base 6 "first_step" ["building", "person", "locks", "rooms"] (spStep K CD CP CB CL) := ⟨⟨_, _, n_first_step, k_first_step, b_first_step, ok_step F_first_step TB GAd PD⟩⟩
  have GTO : Fn l.prog w K mg base 7 "trail_of" ["building", "name", "locks"] (spTrailOf K CD CP CB CL) := ⟨⟨_, _, n_trail_of, k_trail_of, b_trail_of, ok_trailOf F_trail_of TB PT GCB MtP GCh GST⟩⟩
  have WS : Words mg := ⟨⟨tk8, PySem.W.mg_of X G v_THROUGH⟩, ⟨tk9, PySem.W.mg_of X G v_SHUT⟩⟩
  have MLs : MkLs l.prog w K mg base CL := ⟨⟨_, ML, rL⟩⟩
  have GFo : Fn l.prog w K mg base 4 "has_doubt_form" ["building", "doubt"] (spForm K CD CP CB) := ⟨⟨_, _, n_has_doubt_form, k_has_doubt_form, b_has_doubt_form, ok_form F_has_doubt_form B WS TB GN PP GDO⟩⟩
  have GCD : Fn l.prog w K mg base 5 "check_doubt" ["building", "doubt"] (spChkD K CD CP CB) := ⟨⟨_, _, n_check_doubt, k_check_doubt, b_check_doubt, ok_chkD F_check_doubt GFo⟩⟩
  have GLe : Fn l.prog w K mg base 7 "leads_to_shunned" ["building", "person", "trail"] (spLeads K CD CP CB) := ⟨⟨_, _, n_leads_to_shunned, k_leads_to_shunned, b_leads_to_shunned, ok_leads F_leads_to_shunned B TL PT MLs GRO⟩⟩
  have GSh : Fn l.prog w K mg base 8 "shuts_out" ["building", "name", "doors"] (spShuts K CD CP CB) := ⟨⟨_, _, n_shuts_out, k_shuts_out, b_shuts_out, ok_shuts F_shuts_out B TL TB PT MLs PD GI MtP MtR⟩⟩
  have GAK : Fn l.prog w K mg base 2 "all_in" ["names", "known"] (spAllInK K CL) := ⟨⟨_, _, n_all_in, k_all_in, b_all_in, ok_allInK F_all_in B HL⟩⟩
  have GSk : Fn l.prog w K mg base 3 "strikes" ["doubt", "locks"] (spStrikes K CL) := ⟨⟨_, _, n_strikes, k_strikes, b_strikes, ok_strikes F_strikes B WS HL GAK⟩⟩
  have GID' : Fn l.prog w K mg base 9 "is_doubt" ["building", "doubt"] (spIsDbt K CD CP CB) := ⟨⟨_, _, n_is_doubt, k_is_doubt, b_is_doubt, ok_isDbt F_is_doubt WS TB GCB GCD MtP GLe GSh⟩⟩
  have GRu : Fn l.prog w K mg base 10 "rules_out" ["building", "doubt", "locks"] (spRules K CD CP CB CL) := ⟨⟨_, _, n_rules_out, k_rules_out, b_rules_out, ok_rules F_rules_out TB GCB GCD GCh GID' GSk⟩⟩
  have mA : mg "abs" = none := PySem.W.mg_none_of X G zx_abs
  have mEn : mg "enumerate" = none := PySem.W.mg_none_of X G zx_enumerate
  have G1 : Fn l.prog w K mg base 1 "_law_draw" ["_law_cell", "_law_k", "_law_many"] spDraw := ⟨⟨_, _, n__law_draw, k__law_draw, b__law_draw, ok_draw F__law_draw⟩⟩
  have G2 : Fn l.prog w K mg base 2 "_law_cell_at" ["_law_script", "_law_k"] (spCell K) := ⟨⟨_, _, n__law_cell_at, k__law_cell_at, b__law_cell_at, ok_cell F__law_cell_at B mA G1⟩⟩
  have G3 : Fn l.prog w K mg base 3 "_law_digits" ["_law_script", "_law_at", "_law_many", "_law_base"] (spDigits K) := ⟨⟨_, _, n__law_digits, k__law_digits, b__law_digits, ok_digits F__law_digits B G2 G1⟩⟩
  have G4 : Fn l.prog w K mg base 4 "_law_pool" ["_law_script", "_law_bases"] (spPool K) := ⟨⟨_, _, n__law_pool, k__law_pool, b__law_pool, ok_pool F__law_pool mEn G3⟩⟩
  have GX : Fn l.prog w K mg base 1 "_law_take" ["_law_draws", "_law_many"] spTake := ⟨⟨_, _, n__law_take, k__law_take, b__law_take, ok_take F__law_take⟩⟩
  have ST : Fn l.prog w K mg base 2 "_law_some" ["_law_draws", "_law_items", "_law_many"] (spSomeT K) := ⟨⟨_, _, n__law_some, k__law_some, b__law_some, ok_someT F__law_some B GX⟩⟩
  have SL : Fn l.prog w K mg base 2 "_law_some" ["_law_draws", "_law_items", "_law_many"] (spSomeL K) := ⟨⟨_, _, n__law_some, k__law_some, b__law_some, ok_someL F__law_some B GX⟩⟩
  have GD : Fn l.prog w K mg base 3 "_law_drawn" ["_law_draws", "_law_most"] (spDrawn K) := ⟨⟨_, _, n__law_drawn, k__law_drawn, b__law_drawn, ok_drawn F__law_drawn B GX ST SL⟩⟩
  have GB : Fn l.prog w K mg base 7 "_law_built" ["_law_plan"] (spBuilt K CD CP CB) := ⟨⟨_, _, n__law_built, k__law_built, b__law_built, ok_built F__law_built B MD MP MB⟩⟩
  have GL : Fn l.prog w K mg base 5 "_law_locks" ["_law_names_here"] (spLocks K CL) := ⟨⟨_, _, n__law_locks, k__law_locks, b__law_locks, ok_locks F__law_locks LT⟩⟩
  have Gp : Fn l.prog w K mg base 1 "_law_person" ["_law_plan", "_law_name"] (spPers K) := ⟨⟨_, _, n__law_person, k__law_person, b__law_person, ok_pers F__law_person⟩⟩
  have Gb : Fn l.prog w K mg base 1 "_law_behind" ["_law_plan", "_law_person_here", "_law_rooms", "_law_door"] (spBehind K) := ⟨⟨_, _, n__law_behind, k__law_behind, b__law_behind, ok_behind F__law_behind B⟩⟩
  have GR : Fn l.prog w K mg base 2 "_law_reach" ["_law_plan", "_law_name", "_law_locked"] (spLReach K) := ⟨⟨_, _, n__law_reach, k__law_reach, b__law_reach, ok_lreach F__law_reach B Gp Gb⟩⟩
  have GV : Fn l.prog w K mg base 3 "_law_is_right" ["_law_plan", "_law_locked"] (spLRight K) := ⟨⟨_, _, n__law_is_right, k__law_is_right, b__law_is_right, ok_lright F__law_is_right B GR⟩⟩
  have Gn : Fn l.prog w K mg base 1 "_law_names" ["_law_plan"] (spLNames K) := ⟨⟨_, _, n__law_names, k__law_names, b__law_names, ok_lnames F__law_names⟩⟩
  have Gw : Fn l.prog w K mg base 2 "_law_walked" ["_law_plan", "_law_name", "_law_locked", "_law_trail"] (spWalked K) := ⟨⟨_, _, n__law_walked, k__law_walked, b__law_walked, ok_walked F__law_walked Gp Gb⟩⟩
  have Gt : Fn l.prog w K mg base 2 "_law_drawn_trail" ["_law_draws", "_law_plan", "_law_name", "_law_locked"] (spDTrail K) := ⟨⟨_, _, n__law_drawn_trail, k__law_drawn_trail, b__law_drawn_trail, ok_dtrail F__law_drawn_trail B GX Gp Gb Gn⟩⟩
  have Gs : Fn l.prog w K mg base 2 "_law_sets" ["_law_plan"] spSets := ⟨⟨_, _, n__law_sets, k__law_sets, b__law_sets, ok_sets F__law_sets Gn⟩⟩
  have Gj : Fn l.prog w K mg base 3 "_law_is_doubt" ["_law_plan", "_law_doubt_here"] (spLDbt K) := ⟨⟨_, _, n__law_is_doubt, k__law_is_doubt, b__law_is_doubt, ok_ldbt F__law_is_doubt B Gp Gn Gw GR⟩⟩
  have Gu : Fn l.prog w K mg base 4 "_law_is_out" ["_law_plan", "_law_doubt_here", "_law_locked"] (spLOut K) := ⟨⟨_, _, n__law_is_out, k__law_is_out, b__law_is_out, ok_lout F__law_is_out B Gj⟩⟩
  have Gq : Fn l.prog w K mg base 3 "_law_doubt" ["_law_draws", "_law_plan"] (spDbt K) := ⟨⟨_, _, n__law_doubt, k__law_doubt, b__law_doubt, ok_dbt F__law_doubt B GX Gn SL Gt⟩⟩
  have Gm : Fn l.prog w K mg base 8 "_law_made" ["_law_plan", "_law_built_here", "_law_locked"] (spMade K CD CP CB) := ⟨⟨_, _, n__law_made, k__law_made, b__law_made, ok_made F__law_made B GR GL GTO⟩⟩
  exact ok_law F_law B G4 GD GB Gq Gn Gs GL GV Gm Gj Gu GID' GRu
end Lw
set_option Elab.async false
set_option linter.all false
open PySem PySem.W PyProof.Rows
set_option maxRecDepth 100000 in
set_option maxHeartbeats 0 in
theorem PySem.Challenge.cw_lockdoors_k03_whole_doubts_holds : PySem.Challenge.rw_lockdoors_k03_whole_doubts.Holds := by
  w_on; o_law; k_head; (case hw => w_witness2)
  k_fill
  refine L2.walk_of (l := PySem.Challenge.rw_lockdoors_k03_whole_doubts) (n := 63) (k := 11) (x := "_law_script") (CX := fun _ => L2.CX0) (sp := fun w => Lw.spLaw _) rfl (by decide) rfl ⟨rfl, by decide, by decide⟩ (fun w h Y => PySem.W.kIn_of Y) ?F (fun _ _ a ns hl _ hS => ⟨a, ns, rfl, hS, hl, fun _ => rfl⟩) (fun _ _ _ _ _ h => h)
  case F =>
    intro w mg fa h KX G hmg
    refine' Lw.all_mk KX G hmg ?a_is_name ?l_is_name ?c_is_name ?k_is_name ?a_are_names ?l_are_names ?c_are_names ?k_are_names ?a_all_in ?l_all_in ?c_all_in ?k_all_in ?a_check_other ?l_check_other ?c_check_other ?k_check_other ?a_is_cost ?l_is_cost ?c_is_cost ?k_is_cost ?a_is_table ?l_is_table ?c_is_table ?k_is_table ?a_are_rooms ?l_are_rooms ?c_are_rooms ?k_are_rooms ?a_is_key ?l_is_key ?c_is_key ?k_is_key ?a_are_keys ?l_are_keys ?c_are_keys ?k_are_keys ?a_fits_door ?l_fits_door ?c_fits_door ?k_fits_door ?a_fits_person ?l_fits_person ?c_fits_person ?k_fits_person ?a_are_doors ?l_are_doors ?c_are_doors ?k_are_doors ?a_are_people ?l_are_people ?c_are_people ?k_are_people ?a_check_building ?l_check_building ?c_check_building ?k_check_building ?a_check_locks ?l_check_locks ?c_check_locks ?k_check_locks ?a_are_doors_of ?l_are_doors_of ?c_are_doors_of ?k_are_doors_of ?a_keys_held ?l_keys_held ?c_keys_held ?k_keys_held ?a_lets_through ?l_lets_through ?c_lets_through ?k_lets_through ?a_room_added ?l_room_added ?c_room_added ?k_room_added ?a_rooms_beyond ?l_rooms_beyond ?c_rooms_beyond ?k_rooms_beyond ?a_rooms_of ?l_rooms_of ?c_rooms_of ?k_rooms_of ?a_first_step ?l_first_step ?c_first_step ?k_first_step ?a_trail_of ?l_trail_of ?c_trail_of ?k_trail_of ?a_has_doubt_form ?l_has_doubt_form ?c_has_doubt_form ?k_has_doubt_form ?a_check_doubt ?l_check_doubt ?c_check_doubt ?k_check_doubt ?a_leads_to_shunned ?l_leads_to_shunned ?c_leads_to_shunned ?k_leads_to_shunned ?a_shuts_out ?l_shuts_out ?c_shuts_out ?k_shuts_out ?a_is_doubt ?l_is_doubt ?c_is_doubt ?k_is_doubt ?a_strikes ?l_strikes ?c_strikes ?k_strikes ?a_rules_out ?l_rules_out ?c_rules_out ?k_rules_out ?a__law_draw ?l__law_draw ?c__law_draw ?k__law_draw ?a__law_cell_at ?l__law_cell_at ?c__law_cell_at ?k__law_cell_at ?a__law_digits ?l__law_digits ?c__law_digits ?k__law_digits ?a__law_take ?l__law_take ?c__law_take ?k__law_take ?a__law_pool ?l__law_pool ?c__law_pool ?k__law_pool ?a__law_some ?l__law_some ?c__law_some ?k__law_some ?a__law_drawn ?l__law_drawn ?c__law_drawn ?k__law_drawn ?a__law_built ?l__law_built ?c__law_built ?k__law_built ?a__law_person ?l__law_person ?c__law_person ?k__law_person ?a__law_behind ?l__law_behind ?c__law_behind ?k__law_behind ?a__law_reach ?l__law_reach ?c__law_reach ?k__law_reach ?a__law_is_right ?l__law_is_right ?c__law_is_right ?k__law_is_right ?a__law_names ?l__law_names ?c__law_names ?k__law_names ?a__law_sets ?l__law_sets ?c__law_sets ?k__law_sets ?a__law_locks ?l__law_locks ?c__law_locks ?k__law_locks ?a__law_walked ?l__law_walked ?c__law_walked ?k__law_walked ?a__law_drawn_trail ?l__law_drawn_trail ?c__law_drawn_trail ?k__law_drawn_trail ?a__law_is_doubt ?l__law_is_doubt ?c__law_is_doubt ?k__law_is_doubt ?a__law_is_out ?l__law_is_out ?c__law_is_out ?k__law_is_out ?a__law_doubt ?l__law_doubt ?c__law_doubt ?k__law_doubt ?a__law_made ?l__law_made ?c__law_made ?k__law_made ?a_law ?l_law ?c_law ?k_law ?a_Locks ?pgL ?hdL ?poL ?saL ?mkL ?kcL ?tycL ?tymL ?sfL ?nbL ?noL0 ?a_Door ?pgD ?hdD ?poD ?saD ?mkD ?kcD ?tycD ?tymD ?noD0 ?noD1 ?noD2 ?noD3 ?noD4 ?a_Person ?pgP ?hdP ?poP ?saP ?mkP ?kcP ?tycP ?tymP ?noP0 ?noP1 ?noP2 ?noP3 ?a_Building ?pgB ?hdB ?poB ?saB ?mkB ?kcB ?tycB ?tymB ?noB0 ?noB1 ?noB2 ?noB3 ?noB4 ?noB5 ?aL___init__ ?iL___init__ ?lL___init__ ?cL___init__ ?kL___init__ ?aL___or__ ?iL___or__ ?lL___or__ ?cL___or__ ?kL___or__ ?aL___contains__ ?iL___contains__ ?lL___contains__ ?cL___contains__ ?kL___contains__ ?aL_names ?gL_names ?tL_names ?rL_names ?lL_names ?cL_names ?kL_names ?aD___init__ ?iD___init__ ?lD___init__ ?cD___init__ ?kD___init__ ?aD_start ?gD_start ?tD_start ?rD_start ?lD_start ?cD_start ?kD_start ?aD_end ?gD_end ?tD_end ?rD_end ?lD_end ?cD_end ?kD_end ?aD_key ?gD_key ?tD_key ?rD_key ?lD_key ?cD_key ?kD_key ?aD_ways ?iD_ways ?lD_ways ?cD_ways ?kD_ways ?aP___init__ ?iP___init__ ?lP___init__ ?cP___init__ ?kP___init__ ?aP_start ?gP_start ?tP_start ?rP_start ?lP_start ?cP_start ?kP_start ?aP_carried ?gP_carried ?tP_carried ?rP_carried ?lP_carried ?cP_carried ?kP_carried ?aP_needs ?gP_needs ?tP_needs ?rP_needs ?lP_needs ?cP_needs ?kP_needs ?aP_shuns ?gP_shuns ?tP_shuns ?rP_shuns ?lP_shuns ?cP_shuns ?kP_shuns ?aB___init__ ?iB___init__ ?lB___init__ ?cB___init__ ?kB___init__ ?aB_key_rooms ?gB_key_rooms ?tB_key_rooms ?rB_key_rooms ?lB_key_rooms ?cB_key_rooms ?kB_key_rooms ?aB_doors ?gB_doors ?tB_doors ?rB_doors ?lB_doors ?cB_doors ?kB_doors ?aB_people ?gB_people ?tB_people ?rB_people ?lB_people ?cB_people ?kB_people ?aB_door ?iB_door ?lB_door ?cB_door ?kB_door ?aB_person ?iB_person ?lB_person ?cB_person ?kB_person ?aB_reach ?iB_reach ?lB_reach ?cB_reach ?kB_reach ?tyg ?tyt ?v_LETTERS ?v_LONGEST ?v_FEWEST_ROOMS ?v_MOST_ROOMS ?v_MOST_KEYS ?v_MOST_DOORS ?v_MOST_PEOPLE ?v_HIGHEST_COST ?v_THROUGH ?v_SHUT ?z0 ?z1 ?z2 ?z3 ?z4 ?z5 ?z6 ?z7 ?z8 ?z9 ?z10 ?z11 ?z12 ?z13 ?z14 ?z15 ?zx_abs ?zx_enumerate
    (case a_is_name => k_is)
    (case l_is_name => k_is)
    (case c_is_name => k_is)
    (case k_is_name => k_is)
    (case a_are_names => k_is)
    (case l_are_names => k_is)
    (case c_are_names => k_is)
    (case k_are_names => k_is)
    (case a_all_in => k_is)
    (case l_all_in => k_is)
    (case c_all_in => k_is)
    (case k_all_in => k_is)
    (case a_check_other => k_is)
    (case l_check_other => k_is)
    (case c_check_other => k_is)
    (case k_check_other => k_is)
    (case a_is_cost => k_is)
    (case l_is_cost => k_is)
    (case c_is_cost => k_is)
    (case k_is_cost => k_is)
    (case a_is_table => k_is)
    (case l_is_table => k_is)
    (case c_is_table => k_is)
    (case k_is_table => k_is)
    (case a_are_rooms => k_is)
    (case l_are_rooms => k_is)
    (case c_are_rooms => k_is)
    (case k_are_rooms => k_is)
    (case a_is_key => k_is)
    (case l_is_key => k_is)
    (case c_is_key => k_is)
    (case k_is_key => k_is)
    (case a_are_keys => k_is)
    (case l_are_keys => k_is)
    (case c_are_keys => k_is)
    (case k_are_keys => k_is)
    (case a_fits_door => k_is)
    (case l_fits_door => k_is)
    (case c_fits_door => k_is)
    (case k_fits_door => k_is)
    (case a_fits_person => k_is)
    (case l_fits_person => k_is)
    (case c_fits_person => k_is)
    (case k_fits_person => k_is)
    (case a_are_doors => k_is)
    (case l_are_doors => k_is)
    (case c_are_doors => k_is)
    (case k_are_doors => k_is)
    (case a_are_people => k_is)
    (case l_are_people => k_is)
    (case c_are_people => k_is)
    (case k_are_people => k_is)
    (case a_check_building => k_is)
    (case l_check_building => k_is)
    (case c_check_building => k_is)
    (case k_check_building => k_is)
    (case a_check_locks => k_is)
    (case l_check_locks => k_is)
    (case c_check_locks => k_is)
    (case k_check_locks => k_is)
    (case a_are_doors_of => k_is)
    (case l_are_doors_of => k_is)
    (case c_are_doors_of => k_is)
    (case k_are_doors_of => k_is)
    (case a_keys_held => k_is)
    (case l_keys_held => k_is)
    (case c_keys_held => k_is)
    (case k_keys_held => k_is)
    (case a_lets_through => k_is)
    (case l_lets_through => k_is)
    (case c_lets_through => k_is)
    (case k_lets_through => k_is)
    (case a_room_added => k_is)
    (case l_room_added => k_is)
    (case c_room_added => k_is)
    (case k_room_added => k_is)
    (case a_rooms_beyond => k_is)
    (case l_rooms_beyond => k_is)
    (case c_rooms_beyond => k_is)
    (case k_rooms_beyond => k_is)
    (case a_rooms_of => k_is)
    (case l_rooms_of => k_is)
    (case c_rooms_of => k_is)
    (case k_rooms_of => k_is)
    (case a_first_step => k_is)
    (case l_first_step => k_is)
    (case c_first_step => k_is)
    (case k_first_step => k_is)
    (case a_trail_of => k_is)
    (case l_trail_of => k_is)
    (case c_trail_of => k_is)
    (case k_trail_of => k_is)
    (case a_has_doubt_form => k_is)
    (case l_has_doubt_form => k_is)
    (case c_has_doubt_form => k_is)
    (case k_has_doubt_form => k_is)
    (case a_check_doubt => k_is)
    (case l_check_doubt => k_is)
    (case c_check_doubt => k_is)
    (case k_check_doubt => k_is)
    (case a_leads_to_shunned => k_is)
    (case l_leads_to_shunned => k_is)
    (case c_leads_to_shunned => k_is)
    (case k_leads_to_shunned => k_is)
    (case a_shuts_out => k_is)
    (case l_shuts_out => k_is)
    (case c_shuts_out => k_is)
    (case k_shuts_out => k_is)
    (case a_is_doubt => k_is)
    (case l_is_doubt => k_is)
    (case c_is_doubt => k_is)
    (case k_is_doubt => k_is)
    (case a_strikes => k_is)
    (case l_strikes => k_is)
    (case c_strikes => k_is)
    (case k_strikes => k_is)
    (case a_rules_out => k_is)
    (case l_rules_out => k_is)
    (case c_rules_out => k_is)
    (case k_rules_out => k_is)
    (case a__law_draw => k_is)
    (case l__law_draw => k_is)
    (case c__law_draw => k_is)
    (case k__law_draw => k_is)
    (case a__law_cell_at => k_is)
    (case l__law_cell_at => k_is)
    (case c__law_cell_at => k_is)
    (case k__law_cell_at => k_is)
    (case a__law_digits => k_is)
    (case l__law_digits => k_is)
    (case c__law_digits => k_is)
    (case k__law_digits => k_is)
    (case a__law_take => k_is)
    (case l__law_take => k_is)
    (case c__law_take => k_is)
    (case k__law_take => k_is)
    (case a__law_pool => k_is)
    (case l__law_pool => k_is)
    (case c__law_pool => k_is)
    (case k__law_pool => k_is)
    (case a__law_some => k_is)
    (case l__law_some => k_is)
    (case c__law_some => k_is)
    (case k__law_some => k_is)
    (case a__law_drawn => k_is)
    (case l__law_drawn => k_is)
    (case c__law_drawn => k_is)
    (case k__law_drawn => k_is)
    (case a__law_built => k_is)
    (case l__law_built => k_is)
    (case c__law_built => k_is)
    (case k__law_built => k_is)
    (case a__law_person => k_is)
    (case l__law_person => k_is)
    (case c__law_person => k_is)
    (case k__law_person => k_is)
    (case a__law_behind => k_is)
    (case l__law_behind => k_is)
    (case c__law_behind => k_is)
    (case k__law_behind => k_is)
    (case a__law_reach => k_is)
    (case l__law_reach => k_is)
    (case c__law_reach => k_is)
    (case k__law_reach => k_is)
    (case a__law_is_right => k_is)
    (case l__law_is_right => k_is)
    (case c__law_is_right => k_is)
    (case k__law_is_right => k_is)
    (case a__law_names => k_is)
    (case l__law_names => k_is)
    (case c__law_names => k_is)
    (case k__law_names => k_is)
    (case a__law_sets => k_is)
    (case l__law_sets => k_is)
    (case c__law_sets => k_is)
    (case k__law_sets => k_is)
    (case a__law_locks => k_is)
    (case l__law_locks => k_is)
    (case c__law_locks => k_is)
    (case k__law_locks => k_is)
    (case a__law_walked => k_is)
    (case l__law_walked => k_is)
    (case c__law_walked => k_is)
    (case k__law_walked => k_is)
    (case a__law_drawn_trail => k_is)
    (case l__law_drawn_trail => k_is)
    (case c__law_drawn_trail => k_is)
    (case k__law_drawn_trail => k_is)
    (case a__law_is_doubt => k_is)
    (case l__law_is_doubt => k_is)
    (case c__law_is_doubt => k_is)
    (case k__law_is_doubt => k_is)
    (case a__law_is_out => k_is)
    (case l__law_is_out => k_is)
    (case c__law_is_out => k_is)
    (case k__law_is_out => k_is)
    (case a__law_doubt => k_is)
    (case l__law_doubt => k_is)
    (case c__law_doubt => k_is)
    (case k__law_doubt => k_is)
    (case a__law_made => k_is)
    (case l__law_made => k_is)
    (case c__law_made => k_is)
    (case k__law_made => k_is)
    (case a_law => k_is)
    (case l_law => k_is)
    (case c_law => k_is)
    (case k_law => k_is)
    (case a_Locks => k_is)
    (case pgL => k_is)
    (case hdL => k_is)
    (case poL => k_is)
    (case saL => k_is)
    (case mkL => k_is)
    (case kcL => k_is)
    (case tycL => k_is)
    (case tymL => k_is)
    (case sfL => k_is)
    (case nbL => k_is)
    (case noL0 => k_is)
    (case a_Door => k_is)
    (case pgD => k_is)
    (case hdD => k_is)
    (case poD => k_is)
    (case saD => k_is)
    (case mkD => k_is)
    (case kcD => k_is)
    (case tycD => k_is)
    (case tymD => k_is)
    (case noD0 => k_is)
    (case noD1 => k_is)
    (case noD2 => k_is)
    (case noD3 => k_is)
    (case noD4 => k_is)
    (case a_Person => k_is)
    (case pgP => k_is)
    (case hdP => k_is)
    (case poP => k_is)
    (case saP => k_is)
    (case mkP => k_is)
    (case kcP => k_is)
    (case tycP => k_is)
    (case tymP => k_is)
    (case noP0 => k_is)
    (case noP1 => k_is)
    (case noP2 => k_is)
    (case noP3 => k_is)
    (case a_Building => k_is)
    (case pgB => k_is)
    (case hdB => k_is)
    (case poB => k_is)
    (case saB => k_is)
    (case mkB => k_is)
    (case kcB => k_is)
    (case tycB => k_is)
    (case tymB => k_is)
    (case noB0 => k_is)
    (case noB1 => k_is)
    (case noB2 => k_is)
    (case noB3 => k_is)
    (case noB4 => k_is)
    (case noB5 => k_is)
    (case aL___init__ => k_is)
    (case iL___init__ => k_is)
    (case lL___init__ => k_is)
    (case cL___init__ => k_is)
    (case kL___init__ => k_is)
    (case aL___or__ => k_is)
    (case iL___or__ => k_is)
    (case lL___or__ => k_is)
    (case cL___or__ => k_is)
    (case kL___or__ => k_is)
    (case aL___contains__ => k_is)
    (case iL___contains__ => k_is)
    (case lL___contains__ => k_is)
    (case cL___contains__ => k_is)
    (case kL___contains__ => k_is)
    (case aL_names => k_is)
    (case gL_names => k_is)
    (case tL_names => k_is)
    (case rL_names => k_is)
    (case lL_names => k_is)
    (case cL_names => k_is)
    (case kL_names => k_is)
    (case aD___init__ => k_is)
    (case iD___init__ => k_is)
    (case lD___init__ => k_is)
    (case cD___init__ => k_is)
    (case kD___init__ => k_is)
    (case aD_start => k_is)
    (case gD_start => k_is)
    (case tD_start => k_is)
    (case rD_start => k_is)
    (case lD_start => k_is)
    (case cD_start => k_is)
    (case kD_start => k_is)
    (case aD_end => k_is)
    (case gD_end => k_is)
    (case tD_end => k_is)
    (case rD_end => k_is)
    (case lD_end => k_is)
    (case cD_end => k_is)
    (case kD_end => k_is)
    (case aD_key => k_is)
    (case gD_key => k_is)
    (case tD_key => k_is)
    (case rD_key => k_is)
    (case lD_key => k_is)
    (case cD_key => k_is)
    (case kD_key => k_is)
    (case aD_ways => k_is)
    (case iD_ways => k_is)
    (case lD_ways => k_is)
    (case cD_ways => k_is)
    (case kD_ways => k_is)
    (case aP___init__ => k_is)
    (case iP___init__ => k_is)
    (case lP___init__ => k_is)
    (case cP___init__ => k_is)
    (case kP___init__ => k_is)
    (case aP_start => k_is)
    (case gP_start => k_is)
    (case tP_start => k_is)
    (case rP_start => k_is)
    (case lP_start => k_is)
    (case cP_start => k_is)
    (case kP_start => k_is)
    (case aP_carried => k_is)
    (case gP_carried => k_is)
    (case tP_carried => k_is)
    (case rP_carried => k_is)
    (case lP_carried => k_is)
    (case cP_carried => k_is)
    (case kP_carried => k_is)
    (case aP_needs => k_is)
    (case gP_needs => k_is)
    (case tP_needs => k_is)
    (case rP_needs => k_is)
    (case lP_needs => k_is)
    (case cP_needs => k_is)
    (case kP_needs => k_is)
    (case aP_shuns => k_is)
    (case gP_shuns => k_is)
    (case tP_shuns => k_is)
    (case rP_shuns => k_is)
    (case lP_shuns => k_is)
    (case cP_shuns => k_is)
    (case kP_shuns => k_is)
    (case aB___init__ => k_is)
    (case iB___init__ => k_is)
    (case lB___init__ => k_is)
    (case cB___init__ => k_is)
    (case kB___init__ => k_is)
    (case aB_key_rooms => k_is)
    (case gB_key_rooms => k_is)
    (case tB_key_rooms => k_is)
    (case rB_key_rooms => k_is)
    (case lB_key_rooms => k_is)
    (case cB_key_rooms => k_is)
    (case kB_key_rooms => k_is)
    (case aB_doors => k_is)
    (case gB_doors => k_is)
    (case tB_doors => k_is)
    (case rB_doors => k_is)
    (case lB_doors => k_is)
    (case cB_doors => k_is)
    (case kB_doors => k_is)
    (case aB_people => k_is)
    (case gB_people => k_is)
    (case tB_people => k_is)
    (case rB_people => k_is)
    (case lB_people => k_is)
    (case cB_people => k_is)
    (case kB_people => k_is)
    (case aB_door => k_is)
    (case iB_door => k_is)
    (case lB_door => k_is)
    (case cB_door => k_is)
    (case kB_door => k_is)
    (case aB_person => k_is)
    (case iB_person => k_is)
    (case lB_person => k_is)
    (case cB_person => k_is)
    (case kB_person => k_is)
    (case aB_reach => k_is)
    (case iB_reach => k_is)
    (case lB_reach => k_is)
    (case cB_reach => k_is)
    (case kB_reach => k_is)
    (case tyg => k_is)
    (case tyt => k_is)
    (case v_LETTERS => k_is)
    (case v_LONGEST => k_is)
    (case v_FEWEST_ROOMS => k_is)
    (case v_MOST_ROOMS => k_is)
    (case v_MOST_KEYS => k_is)
    (case v_MOST_DOORS => k_is)
    (case v_MOST_PEOPLE => k_is)
    (case v_HIGHEST_COST => k_is)
    (case v_THROUGH => k_is)
    (case v_SHUT => k_is)
    (case z0 => k_is)
    (case z1 => k_is)
    (case z2 => k_is)
    (case z3 => k_is)
    (case z4 => k_is)
    (case z5 => k_is)
    (case z6 => k_is)
    (case z7 => k_is)
    (case z8 => k_is)
    (case z9 => k_is)
    (case z10 => k_is)
    (case z11 => k_is)
    (case z12 => k_is)
    (case z13 => k_is)
    (case z14 => k_is)
    (case z15 => k_is)
    (case zx_abs => k_is)
    (case zx_enumerate => k_is)
