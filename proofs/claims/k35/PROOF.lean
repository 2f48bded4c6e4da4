import PyProof.Rows.All
import Wide.All
import OpenK.AllK
import Wide.FinOn
import HandS.ForMost
import HandS.Set
import HandS.Strs
import HandS.SetFor
import HandS.Star
import HandS.Property
import HandS.Small
import HandS.IsInst
import HandS.Walk
import HandS.Flow
import HandS.Wide
import HandS.EndBits
import HandS.TupAny
import HandS.GenList
import HandS.MakeKwOnly
import HandS.Iter
import HandS.More
import HandS.DictComp
import HandS.Dict
import HandS.WordsDict
import HandS.OwnEq
import HandS.NoneIn
import HandS.Steps
import KE.KDictSum
import KE.SortKeyHeap
import KE.SortData
import HandS.Lambda
import HandS.Style
import HandS.TryOnly
import KE.KLam
import KE.KNestM
import HandS.EndTab
import HandS.Head0
import HandS.Head1
import HandS.Head2
import PySem.Challenge.RW_lockdoors_k35_by_hand
set_option Elab.async false
set_option linter.all false
set_option maxRecDepth 100000
namespace Lw
open PySem PySem.W PySem.Calls PyProof.Rows
def obK (as ts : List Addr) (s : SharedT) : List (Option Obj) × List (Option Obj) := (as.map (HandSHeadRun.getT s), ts.map (HandSHeadRun.getT s))
theorem obK_eq (as ts : List Addr) (s : SharedT) : obK as ts s = (as.map s.abs.heap.get?, ts.map s.abs.heap.get?) := by
  unfold obK
  rw [show HandSHeadRun.getT s = s.abs.heap.get? from funext (HandSHeadRun.getT_eq s)]
/-- the head of a law by one kernel run, with a written part K and empty tables ts -/
theorem head_km {r : OpenRow} {q : Program} {K : Params → Frag} {as : List Addr} {ek : ∀ P, as = (K P).map (·.1)} {ts : List Addr} {M : Nat} {loose : List PySem.Str} {d : DefRec} {kwd : List (PySem.Str × PySem.Expr)} (H : Hook) (hH : H = kmHook K as ek ts)
    (e : opening r.prog = plainProg r.prog.main.scope.names) (f : ∀ s, fenceModules? r.prog s = some s) (run : ∀ w, HandSHeadRun.RunEq r q (kmHook K as ek ts) (obK as ts) M loose w)
    (hdef : defOf q r.name = some (d, kwd)) (hp : r.prog.theDef r.name = some (d.params, d.body, d.scope)) (hk : kwWritten? d.params.kwonlyargs d.params.kw_defaults = some kwd)
    (hwr : (!r.writes || r.records.isEmpty) = true) (k1 : r.wellSaid = true) (ok : (chainsOk q && opensWell r.prog && (frees r.toRowW && r.within.isEmpty)) = true) (hb : r.prog.bare) (hw : r.toRowW.promised)
    (call : WalkO q loose (XL q []) H.says r.toRowW d kwd fun f vs => PySem.call f vs) : r.Holds := by
  subst hH
  exact HandSHeadRun.head_any (H := kmHook K as ek ts) (ob := obK as ts) (fun s => obK_eq as ts s) e f run hdef hp hk hwr k1 ok hb hw call
/-- what km_head finds, kept for the runs -/
structure Pack where
  K : Params → Frag
  as : List Addr
  ts : List Addr
def Tag (_ : Pack) : Prop := True
def pick (r : OpenRow) (p : Pack) (_ : Tag p → r.Holds → r.Holds) : Pack := p
theorem fin {r : OpenRow} {K : Params → Frag} {as ts : List Addr} {ek : ∀ P, as = (K P).map (·.1)} (H : Hook) (_ : H = kmHook K as ek ts) (_ : Tag ⟨K, as, ts⟩) (h : r.Holds) : r.Holds := h
end Lw
set_option Elab.async false
set_option linter.all false
section
namespace Lw
open PySem PySem.W
abbrev hdR : OpenRow := OpenLaw.row PySem.Challenge.rw_lockdoors_k35_by_hand
abbrev hdQ : Program := view hdR.prog [78]
def hdN0 : List PySem.Str := ["_wall", "LETTERS", "LONGEST", "is_name", "are_names", "all_in", "LockError", "BadLocks"]
def hdN1 : List PySem.Str := ["BadDoor", "BadPerson", "BadBuilding", "BadName", "BadTrail", "BadDoubt", "check_other", "Locks"]
def hdN2 : List PySem.Str := ["FEWEST_ROOMS", "MOST_ROOMS", "MOST_KEYS", "MOST_DOORS", "MOST_PEOPLE", "HIGHEST_COST", "is_cost", "Door"]
def hdN3 : List PySem.Str := ["Person", "is_table", "are_rooms", "is_key", "are_keys", "fits_door", "fits_person", "are_doors"]
def hdN4 : List PySem.Str := ["are_people", "Building", "check_building", "check_locks", "are_doors_of", "check_trail", "keys_held", "lets_through"]
def hdN5 : List PySem.Str := ["room_added", "rooms_beyond", "suits", "THROUGH", "SHUT", "rooms_of", "is_trail", "is_complete"]
def hdN6 : List PySem.Str := ["first_step", "trail_of", "trail_into", "has_doubt_form", "check_doubt", "leads_to_shunned", "shuts_out", "is_doubt"]
def hdN7 : List PySem.Str := ["strikes", "rules_out", "is_struck", "locks_at", "sets_by_price", "doubt_about", "cheapest", "are_doubts"]
def hdN8 : List PySem.Str := ["Locking", "NoLocking", "_law_house", "_law_reaches_right", "_law_trails_right", "_law_doubts_right", "_law_cheapest_right", "_law_answers_right"]
def hdN : List PySem.Str := hdN0 ++ hdN1 ++ hdN2 ++ hdN3 ++ hdN4 ++ hdN5 ++ hdN6 ++ hdN7 ++ hdN8
end Lw
open PySem PySem.W PyProof.Rows
local macro_rules | `(tactic| o_head $H:term) => `(tactic| exact Lw.fin $H rfl (by assumption) (by assumption))
set_option maxRecDepth 100000 in
set_option maxHeartbeats 0 in
noncomputable def Lw.hdP : Lw.Pack := by
  apply Lw.pick Lw.hdR
  intro t h
  km_head
theorem Lw.hdEk : ∀ P, Lw.hdP.as = (Lw.hdP.K P).map (·.1) := fun _ => by kernel_rfl
theorem Lw.hdRun0 : ∀ w : World, HandSHeadRun.RunEq Lw.hdR Lw.hdQ (kmHook Lw.hdP.K Lw.hdP.as Lw.hdEk Lw.hdP.ts) (Lw.obK Lw.hdP.as Lw.hdP.ts) 9000 Lw.hdN w := fun w os => by kernel_rfl
end
set_option Elab.async false
set_option linter.all false
set_option maxRecDepth 100000
set_option maxHeartbeats 2000000
/-! Sets of texts: set(sequence of texts), sorted(set), len(set), set == set. -/
namespace TxS
open PySem PySem.Spec PyProof.Rows L2

def txt (e : Int × Value) : Str := match e.2 with
  | .str z _ => z
  | _ => Str.empty
def TxE (w : World) (e : Int × Value) : Prop := ∃ z q, e.2 = Value.str z q ∧ e.1 = hashStr w z

structure Tbl (w : World) (es : Array (Int × Value)) (t : SetTable) (S : Str → Bool) : Prop where
  row : ∀ e ∈ es.toList, TxE w e
  nd : (es.toList.map txt).Nodup
  mem : ∀ z, S z = true ↔ z ∈ es.toList.map txt
  few : es.size < scanBound
  fit : t.fits es.size = true
  ris : Ris t.place.toList
  led : w.params.followText "set-order" = true ∨ t.led = true
/-- the set of texts at a: S its members, n how many -/
def SetX (w : World) (h : Heap) (a : Addr) (S : Str → Bool) (n : Nat) : Prop :=
  ∃ ob es ep t, h.get? a = some ob ∧ ob.ExactSet ∧ ob.data = .set es ep t ∧ Tbl w es t S ∧ es.size = n

section
variable {P : Program} {w : World} {h h' : Heap} {a : Addr} {S : Str → Bool} {n : Nat}
theorem SetX.move (R : SetX w h a S n) (keep : ∀ ob, h.get? a = some ob → h'.get? a = some ob) : SetX w h' a S n := by
  obtain ⟨ob, es, ep, t, hob, rest⟩ := R
  exact ⟨ob, es, ep, t, keep ob hob, rest⟩
theorem SetX.like {S' : Str → Bool} (R : SetX w h a S n) (e : ∀ z, S' z = S z) : SetX w h a S' n := (funext e : S' = S) ▸ R
theorem row_is {e : Int × Value} (r : TxE w e) (z : Str) : (PySem.strKind P w).is z e.2 = true ↔ txt e = z := by
  obtain ⟨y, q, e2, _⟩ := r
  unfold txt
  rw [e2]
  constructor
  · intro u
    obtain ⟨q', e'⟩ := Value.isStrOf_shape (x := z) (v := Value.str y q) u
    injection e'
  · intro u
    subst u
    show Value.isStrOf y (Value.str y q) = true
    simp [Value.isStrOf]
theorem rows_el {l : List (Int × Value)} (r : ∀ e ∈ l, TxE w e) : ElemsOf (PySem.strKind P w) l := fun e he => by
  obtain ⟨y, q, e2, e1⟩ := r e he
  refine ⟨⟨y, ?_, e1⟩, by rw [e2] <;> rfl⟩
  rw [e2]
  show Value.isStrOf y (Value.str y q) = true
  simp [Value.isStrOf]
theorem rows_mem {l : List (Int × Value)} (r : ∀ e ∈ l, TxE w e) (z : Str) : z ∈ l.map txt ↔ ∃ e ∈ l, (PySem.strKind P w).is z e.2 = true := by
  rw [List.mem_map]
  exact ⟨fun ⟨e, he, q⟩ => ⟨e, he, (row_is (r e he) z).2 q⟩, fun ⟨e, he, q⟩ => ⟨e, he, (row_is (r e he) z).1 q⟩⟩
theorem SetX.of (R : SetX w h a S n) : h.SetOf (PySem.strKind P w) a S n := by
  obtain ⟨ob, es, ep, t, hob, ex, hd, T, hn⟩ := R
  exact ⟨ob, es, ep, t, hob, ex, hd, rows_el T.row, fun z => (T.mem z).trans (rows_mem T.row z), T.few, T.fit, hn⟩
theorem Tbl.relay {es es2 : Array (Int × Value)} {t t2 : SetTable} (T : Tbl w es t S) (p : es2.toList.Perm es.toList) (f : t2.fits es2.size = true) (r : Ris t2.place.toList) (l : t2.led = t.led) : Tbl w es2 t2 S := by
  have sz : es2.size = es.size := by rw [← Array.length_toList, ← Array.length_toList]; exact p.length_eq
  exact ⟨fun e he => T.row e (p.mem_iff.mp he), (p.map txt).nodup_iff.mpr T.nd, fun z => (T.mem z).trans (p.map txt).mem_iff.symm, sz ▸ T.few, f, r, T.led.imp id fun q => l.trans q⟩
theorem Tbl.more {es es2 : Array (Int × Value)} {t t2 : SetTable} {z : Str} {q : Tok} (T : Tbl w es t S) (fresh : z ∉ es.toList.map txt) (p : es2.toList.Perm ((hashStr w z, Value.str z q) :: es.toList)) (b : es2.size < scanBound)
    (f : t2.fits es2.size = true) (r : Ris t2.place.toList) (l : t2.led = t.led) : Tbl w es2 t2 (fun y => S y || decide (y = z)) := by
  have pk : (es2.toList.map txt).Perm (z :: es.toList.map txt) := p.map txt
  refine ⟨fun e he => ?_, pk.nodup_iff.mpr (List.nodup_cons.mpr ⟨fresh, T.nd⟩), fun y => ?_, b, f, r, T.led.imp id fun u => l.trans u⟩
  · rcases List.mem_cons.mp (p.mem_iff.mp he) with u | u
    · exact ⟨z, q, by rw [u], by rw [u]⟩
    · exact T.row e u
  · rw [Bool.or_eq_true, decide_eq_true_eq, T.mem y, pk.mem_iff, List.mem_cons]
    exact Or.comm
end

section
variable {P : Program} {w : World} {A : Around} {E : Value → Shared → Prop} {s : Shared} {a : Addr} {S S' : Str → Bool} {n : Nat}
/-- the table is laid, and laid anew where it is too full -/
theorem lay_end {g : Bool → Sem Unit} (hg : ∀ (b : Bool) (s1 : Shared) (Q' : Unit → Shared → Prop), Q' () s1 → wpAny (model P w) A (g b) Q' E s1)
    {ob : Obj} {es es1 : Array (Int × Value)} {ep : Nat} {t t2 : SetTable} (hob : s.heap.get? a = some ob) (ex : ob.ExactSet) (hd : ob.data = .set es ep t) (T : Tbl w es1 t2 S') {dm : Bool} {R : Option Bool → Shared → Prop}
    (hR : ∀ h', Heap.SameBut a s.heap h' → SetX w h' a S' es1.size → R (some true) { s with heap := h' }) :
    wpAny (model P w) A (do
        storeSet a es1 t2
        if (!dm && t2.tooFull) = true then do
            g (relayAll t2 es1 (SetTable.grown es1.size)).2.2
            storeSet a (relayAll t2 es1 (SetTable.grown es1.size)).1 (relayAll t2 es1 (SetTable.grown es1.size)).2.1
            pure (some true)
          else pure (some true)) R E s := by
  refine wpAny_bind (wpAny_storeSet_of hob hd ?_ (fits_of_scanBound T.few))
  have st1 := store_at (es' := es1) (t' := t2) hob hd
  have same1 := Heap.SameBut.update s.heap a (Obj.putSet es1 t2)
  split
  · have T2 := T.relay (relayAll_perm t2 es1 (SetTable.grown es1.size)) (relayAll_fits t2 es1 (SetTable.grown es1.size)) (relayAll_ris t2 es1 (SetTable.grown es1.size)) (relayAll_led t2 es1 (SetTable.grown es1.size))
    have sz2 : (relayAll t2 es1 (SetTable.grown es1.size)).1.size = es1.size := by
      rw [← Array.length_toList, ← Array.length_toList]
      exact (relayAll_perm t2 es1 (SetTable.grown es1.size)).length_eq
    refine wpAny_bind (hg _ _ _ ?_)
    refine wpAny_bind (wpAny_storeSet_of st1 rfl ?_ (fits_of_scanBound T2.few))
    exact wpAny_pure (hR _ (same1.trans (Heap.SameBut.update _ a _)) ⟨_, _, _, _, store_at st1 rfl, ex, rfl, T2, sz2⟩)
  · exact wpAny_pure (hR _ same1 ⟨_, es1, _, t2, st1, ex, rfl, T, rfl⟩)

theorem add_txt {z : Str} {q : Tok} {Q : Bool → Shared → Prop} (R : SetX w s.heap a S n) (room : n + 1 < scanBound)
    (hQ : ∀ h', Heap.SameBut a s.heap h' → SetX w h' a (fun y => S y || decide (y = z)) (if S z = true then n else n + 1) → Q (!S z) { s with heap := h' }) :
    wpAny (model P w) A (setAddHashed a (.str z q) (hashStr w z)) Q E s := by
  obtain ⟨ob, es, ep, t, hob, ex, hd, T, hn⟩ := R
  have key : (PySem.strKind P w).is z (.str z q) = true := by
    show Value.isStrOf z (Value.str z q) = true
    simp [Value.isStrOf]
  have scn : (Value.str z q).scannable = true := rfl
  have els : ElemsOf (PySem.strKind P w) es.toList := rows_el T.row
  unfold setAddHashed setAddHashedIn
  refine wpAny_holding (wpAny_bind (wpAny_setState_of hob hd T.fit ?_))
  dsimp only
  rw [byScan_of scn T.few els]
  simp only [↓reduceIte]
  unfold setAddByScan
  refine wpAny_bind (wpAny_bind (wpAny_rule ?_))
  refine wpAny_bind (wpAny_setScan_of (knd := PySem.strKind P w) key hob hd T.fit els ?_)
  cases fi : List.findIdx? (fun e => (PySem.strKind P w).is z e.2) es.toList with
  | some j =>
    dsimp only
    obtain ⟨lj, pj, _⟩ := List.findIdx?_eq_some_iff_getElem.mp fi
    have yes : S z = true := (T.mem z).2 ((rows_mem (P := P) T.row z).2 ⟨es.toList[j], List.getElem_mem lj, pj⟩)
    have same : (fun y => S y || decide (y = z)) = S := funext fun y => by
      by_cases u : y = z
      · subst u
        rw [yes] <;> rfl
      · rw [decide_eq_false u, Bool.or_false]
    have done := hQ s.heap (Heap.SameBut.refl a s.heap) (by rw [same, if_pos yes]; exact ⟨ob, es, ep, t, hob, ex, hd, T, hn⟩)
    rw [yes] at done
    exact wpAny_pure (wpAny_pure done)
  | none =>
    dsimp only
    have fresh : z ∉ es.toList.map txt := fun u => by
      obtain ⟨e, he, k1⟩ := (rows_mem (P := P) T.row z).1 u
      have k2 := List.findIdx?_eq_none_iff.mp fi e he
      rw [k1] at k2
      cases k2
    have no : S z = false := Bool.eq_false_iff.mpr fun u => fresh ((T.mem z).1 u)
    have way : ∀ (b : Bool) {s1 : Shared} {Q' : Unit → Shared → Prop}, Q' () s1 → wpAny (model P w) A (match b with | true => rule "set.scan.the-table-gave-way" | false => pure ()) Q' E s1 := by
      intro b s1 Q' u
      cases b
      · exact wpAny_pure u
      · exact wpAny_rule u
    have p0 := layNew_perm t es ((PySem.strKind P w).hash z) (.str z q)
    have f0 := layNew_fits t es ((PySem.strKind P w).hash z) (.str z q)
    have r0 := layNew_ris t es ((PySem.strKind P w).hash z) (.str z q) T.ris
    have l0 := layNew_led t es ((PySem.strKind P w).hash z) (.str z q)
    show wpAny _ _ _ _ _ _
    have hh : (PySem.strKind P w).hash z = hashStr w z := rfl
    rw [hh] at p0 f0 r0 l0
    generalize layNew t es (hashStr w z) (.str z q) = Z at p0 f0 r0 l0 ⊢
    obtain ⟨es1, t1, dm, gv⟩ := Z
    dsimp only at p0 f0 r0 l0 ⊢
    rw [Array.toList_push] at p0
    have p1 : es1.toList.Perm ((hashStr w z, Value.str z q) :: es.toList) := p0.trans (List.perm_append_singleton _ _)
    have sz : es1.size = n + 1 := by
      rw [← Array.length_toList, p1.length_eq, List.length_cons, Array.length_toList, hn]
    have bd : es1.size < scanBound := by rw [sz]; exact room
    have T1 : ∀ t' : SetTable, t'.fits es1.size = true → Ris t'.place.toList → t'.led = t1.led → Tbl w es1 t' (fun y => S y || decide (y = z)) := fun t' a b c => T.more fresh p1 bd a b (c.trans l0)
    have fin : ∀ h', Heap.SameBut a s.heap h' → SetX w h' a (fun y => S y || decide (y = z)) es1.size → Q true { s with heap := h' } := fun h' sb r => by
      have u := hQ h' sb
      rw [no] at u
      rw [sz] at r
      exact u r
    refine wpAny_bind (way _ ?_)
    split
    · refine wpAny_bind ?_
      rw [hashByValue_scannable 8 scn]
      refine wpAny_pure ?_
      refine lay_end (fun b s1 Q' u => ?_) hob ex hd (T1 _ ?_ ?_ ?_) ?_
      · cases b <;> first | exact wpAny_pure u | exact wpAny_rule u
      · first | exact f0 | (split <;> first | exact f0 | exact SetTable.fits_plain_off f0)
      · first | exact r0 | (split <;> exact r0)
      · first | rfl | (split <;> rfl)
      · intro h' sb r
        exact wpAny_pure (fin h' sb r)
    · refine wpAny_bind (wpAny_pure ?_)
      simp only [↓reduceIte]
      refine lay_end (fun b s1 Q' u => ?_) hob ex hd (T1 _ f0 r0 rfl) ?_
      · cases b <;> first | exact wpAny_pure u | exact wpAny_rule u
      · intro h' sb r
        exact wpAny_pure (fin h' sb r)
end

/-! ### set(sequence of texts) -/
abbrev freshSet (w : World) : Obj := { cls := .type "set", dict := none, data := .set #[] 0 (.fresh 0 0 (!w.params.followText "set-order")) }
theorem fresh_at {w : World} {h : Heap} {a : Addr} (hob : h.get? a = some (freshSet w)) : SetX w h a (fun _ => false) 0 := by
  refine ⟨_, #[], 0, _, hob, ⟨rfl, rfl, rfl⟩, rfl, ⟨fun e he => (by cases he), List.Pairwise.nil, fun z => ⟨fun u => (by cases u), fun u => (by cases u)⟩, by decide, by rfl, List.Pairwise.nil, ?_⟩, rfl⟩
  show _ ∨ (!w.params.followText "set-order") = true
  cases w.params.followText "set-order" <;> simp

section
variable {P : Program} {w : World} {A : Around} {E : Value → Shared → Prop} {s : Shared}
theorem upd_loop {I : Addr} {fp wr : List Addr} {G : Array GenState → Array GenState → Prop} {n : Nat} {Pv : Nat → Value → Prop} {St : Nat → Shared → Prop} {R : Result → Shared → Prop}
    (W : WalksS P w A.in1 I fp wr G n Pv St) (D : Addr) (off : D ∉ fp) (zs : List Str) (len : n = zs.length) (few : zs.length + 1 < scanBound) (val : ∀ i v, Pv i v → ∃ z q, zs[i]? = some z ∧ v = .str z q) :
    ∀ (k i : Nat) (s : Shared), n - i = k → i ≤ n → St i s → (∃ c, c ≤ i ∧ SetX w s.heap D (fun y => decide (y ∈ zs.take i)) c) →
      (∀ s' c, Moved (D :: wr) G s s' → c ≤ n → SetX w s'.heap D (fun y => decide (y ∈ zs)) c → R (.ok (.ret .none)) s') →
      codeAny (model P w) A (.builtin "set.update.loop" ⟨[.ref D, .ref I], []⟩) R s := by
  have offW : D ∉ wr := fun u => off (W.sub _ u)
  have wide : ∀ b ∈ wr, b ∈ D :: wr := fun b u => List.mem_cons_of_mem _ u
  intro k
  induction k with
  | zero =>
    rintro i s ek hi st ⟨c, hc, X⟩ hR
    obtain rfl : i = n := by omega
    rw [List.take_of_length_le (by omega)] at X
    refine codeAny_builtin F.entry_set_update_loop ?_
    rw [Around.under_plainId F.plain_set_update_loop _]
    refine wpAny_bind (m := pyNext (.ref I)) (W.done s _ _ st fun s' mv => ?_)
    exact wpAny_pure (hR s' c (mv.mono wide) hc (X.move fun o e => mv.heap D o offW e))
  | succ k ih =>
    rintro i s ek hi st ⟨c, hc, X⟩ hR
    have lt : i < n := by omega
    refine codeAny_builtin F.entry_set_update_loop ?_
    rw [Around.under_plainId F.plain_set_update_loop _]
    refine wpAny_bind (m := pyNext (.ref I)) (W.item i s _ _ lt st fun v s' pv st' mv => ?_)
    obtain ⟨z, q, hz, rfl⟩ := val i v pv
    have X1 : SetX w s'.heap D (fun y => decide (y ∈ zs.take i)) c := X.move fun o e => mv.heap D o offW e
    refine wpAny_bind (m := holding [Value.str z q] (setAdd D (.str z q))) (wpAny_holding ?_)
    unfold setAdd
    refine wpAny_holding (wpAny_bind (wpAny_pyHash_str ?_))
    refine add_txt (s := { s' with toks := s'.toks + 1 }) X1 (by omega) fun h' same X2 => ?_
    have X3 : SetX w h' D (fun y => decide (y ∈ zs.take (i + 1))) (if decide (z ∈ zs.take i) = true then c else c + 1) := X2.like fun y => by
      rw [List.take_add_one, hz]
      simp [List.mem_append]
    have hc3 : (if decide (z ∈ zs.take i) = true then c else c + 1) ≤ i + 1 := by
      by_cases u : decide (z ∈ zs.take i) = true
      · rw [if_pos u]
        omega
      · rw [if_neg u]
        omega
    refine wpAny_pure ⟨plainId_quiet F.plain_set_update_loop _, ih (i + 1) _ (by omega) lt (W.frame _ s' _ _ st' (Nat.le_succ _) fun b hb o e => ?_) ⟨_, hc3, X3⟩ fun s2 c2 mv2 hc2 X4 => ?_⟩
    · exact (same.2 b fun u : b = D => off (u ▸ hb)).trans e
    · refine hR s2 c2 (Moved.trans W.gtrans ((mv.mono wide).then_heap (Nat.le_succ _) fun b o hb e => ?_) mv2) hc2 X4
      exact (same.2 b fun u : b = D => hb (u ▸ List.mem_cons_self)).trans e

theorem at_txt {us : List Value} {zs : List Str} (r : StrsAre us zs) (i : Nat) (v : Value) (e : us[i]? = some v) : ∃ z q, zs[i]? = some z ∧ v = .str z q := by
  obtain ⟨q, e2⟩ := SS.strs_at r i v e
  have h1 : i < us.length := (List.getElem?_eq_some_iff.mp e).1
  have h2 : i < zs.length := by rw [← StrsAre.len_eq r]; exact h1
  refine ⟨zs[i], q, List.getElem?_eq_getElem h2, ?_⟩
  rw [e2, List.getD_eq_getElem?_getD, List.getElem?_eq_getElem h2] <;> rfl

set_option maxHeartbeats 6400000 in
theorem call_setT {l : Addr} {its : Array Value} (zs : List Str) {Q : Value → Shared → Prop} (calm : A.handled = none) (hl : s.heap.IsTuple l its) (hz : StrsAre its.toList zs) (few : zs.length + 1 < scanBound)
    (done : ∀ (h' : Heap) (tk c : Nat), SetX w h' s.heap.objs.size (fun y => decide (y ∈ zs)) c → c ≤ zs.length → (∀ b o, s.heap.get? b = some o → h'.get? b = some o) → Q (.ref s.heap.objs.size) { s with heap := h', toks := tk }) :
    wpAny (model P w) A (call (.type "set") [.ref l]) Q E s := by
  have sz : its.size = zs.length := by
    rw [← StrsAre.len_eq hz, Array.length_toList]
  obtain ⟨k0, k1, m1⟩ := F.called_set.mro
  have m2 := F.called_set.made
  have m3 := F.called_set.sub
  refine wpAny_call (codeAny_of_tree ?_)
  show wpAny _ _ (callAny (.type "set") _) _ _ _
  refine wpAny_pure ⟨Code.quiet_builtin _ (by decide +kernel), codeAny_builtin F.entry_type_call ?_⟩
  rw [Around.under_plain (weight_type_call_type "set" [.ref l] []) rfl]
  have m4 := F.called_set.notType
  have m5 := F.called_set.canCreate
  have m6 := F.typeCall_set_1 (.ref l)
  repeat (any_goals (first | assumption | wp_step))
  refine codeAny_mono (code_set_led1 (.ref l) (E := E) (Q₁ := fun v s1 => v = .ref s.heap.objs.size ∧ s1 = { s with heap := s.heap.push (freshSet w) }) ⟨rfl, rfl⟩) fun r s1 hr => ?_
  cases r with
  | error e => exact hr
  | ok fl =>
    cases fl with
    | ret v =>
      obtain ⟨rfl, rfl⟩ := hr
      have g0 : (s.heap.push (freshSet w)).get? s.heap.objs.size = some (freshSet w) := Heap.get?_push_size _ rfl
      have ty0 : Shared.TypeIs { s with heap := s.heap.push (freshSet w) } (.ref s.heap.objs.size) "set" := ⟨_, g0, rfl⟩
      have m7 := F.called_set.init.lookup
      have m8 := F.called_set.init.bind (.ref s.heap.objs.size)
      repeat (any_goals (first | assumption | wp_step))
      refine codeAny_mono (codeAny_call_builtin (R := wants (fun r s2 => r = .none ∧ ∃ h' tk c, s2 = { s with heap := h', toks := tk } ∧ SetX w h' s.heap.objs.size (fun y => decide (y ∈ zs)) c ∧ c ≤ zs.length ∧
          (∀ b o, s.heap.get? b = some o → h'.get? b = some o)) E) F.called_set.init.plain F.entry_set_init (check_set_init_1 ty0 ?_)) fun r2 s2 hr2 => ?_
      · obtain ⟨⟨oc, od, odt, osl⟩, ho, hcl, nl, hdl⟩ := hl
        simp only at hcl hdl
        subst hcl hdl
        have ho1 : (s.heap.push (freshSet w)).get? l = some { cls := .type "tuple", dict := od, data := .seq its nl, slots := osl } := Heap.get?_push_of_some _ ho
        have n1 := F.sub_tuple_set
        have n2 := F.sub_tuple_frozenset
        have n3 : (Value.type "tuple" == Value.type "dict") = false := by decide
        have isT : (s.heap.push (freshSet w)).IsTuple l its := ⟨_, ho1, rfl, nl, rfl⟩
        unfold Builtin.«set.__init__» noKeywords Builtin.Frozenset.updateFrom
        generalize ePI : pyIter = PI
        wp_walk
        subst ePI
        refine wpAny_pyIter_tuple isT ?_
        refine wpAny_bind (wpAny_runValue ?_)
        have ll : l < s.heap.objs.size := Heap.lt_size ho
        have cm : A.in1.in1.in1.handled = none := by simp [calm]
        have zz : (s.heap.push (freshSet w)).objs.size = s.heap.objs.size + 1 := Heap.size_push ..
        have nI : l ≠ (s.heap.push (freshSet w)).objs.size := by rw [zz]; exact Nat.ne_of_lt (Nat.lt_succ_of_lt ll)
        have nF : s.heap.objs.size ∉ [(s.heap.push (freshSet w)).objs.size, l] := by
          simp only [List.mem_cons, List.not_mem_nil, or_false, not_or]
          exact ⟨by rw [zz]; exact Nat.ne_of_lt (Nat.lt_succ_self _), Nat.ne_of_gt ll⟩
        refine upd_loop ((Walks.tuple cm _ l nI its).toS) s.heap.objs.size nF zs sz few (fun i v hv => at_txt hz i v (by rw [Array.getElem?_toList]; exact hv)) (its.size - 0) 0 _ (by omega) (Nat.zero_le _)
          ⟨⟨_, Heap.get?_push_size _ rfl, rfl, rfl⟩, (isT.push _)⟩ ⟨0, Nat.le_refl 0, ?_⟩ fun s' c' mv hc' X' => ?_
        · exact (fresh_at (Heap.get?_push_of_some _ g0)).like fun y => by simp
        · obtain ⟨h', g2, d2, tk2, os2⟩ := s'
          obtain rfl : g2 = s.gens := mv.gens
          obtain rfl : d2 = s.drawn := mv.drawn
          obtain rfl : os2 = s.os := mv.os
          show wpAny _ _ _ _ _ _
          refine wpAny_pure (wpAny_pure ⟨rfl, h', tk2, c', rfl, X', by omega, fun b o e => ?_⟩)
          have bl : b < s.heap.objs.size := Heap.lt_size e
          refine mv.heap b o ?_ (Heap.get?_push_of_some _ (Heap.get?_push_of_some _ e))
          simp only [List.mem_cons, List.not_mem_nil, or_false, not_or]
          exact ⟨Nat.ne_of_lt bl, by rw [zz]; exact Nat.ne_of_lt (Nat.lt_succ_of_lt bl)⟩
      · cases r2 with
        | error e => exact hr2
        | ok fl2 =>
          cases fl2 with
          | ret r =>
            obtain ⟨rfl, h', tk, c', rfl, X', hc', kp⟩ := hr2
            repeat (any_goals (first | assumption | wp_step))
            exact done _ _ _ X' hc' kp
          | _ => exact hr2.elim
    | _ => exact hr.elim

set_option maxHeartbeats 6400000 in
theorem call_setL {l : Addr} {its : Array Value} (zs : List Str) {Q : Value → Shared → Prop} (calm : A.handled = none) (hl : s.heap.IsList l its) (hz : StrsAre its.toList zs) (few : zs.length + 1 < scanBound)
    (done : ∀ (h' : Heap) (tk c : Nat), SetX w h' s.heap.objs.size (fun y => decide (y ∈ zs)) c → c ≤ zs.length → (∀ b o, s.heap.get? b = some o → h'.get? b = some o) → Q (.ref s.heap.objs.size) { s with heap := h', toks := tk }) :
    wpAny (model P w) A (call (.type "set") [.ref l]) Q E s := by
  have sz : its.size = zs.length := by
    rw [← StrsAre.len_eq hz, Array.length_toList]
  obtain ⟨k0, k1, m1⟩ := F.called_set.mro
  have m2 := F.called_set.made
  have m3 := F.called_set.sub
  refine wpAny_call (codeAny_of_tree ?_)
  show wpAny _ _ (callAny (.type "set") _) _ _ _
  refine wpAny_pure ⟨Code.quiet_builtin _ (by decide +kernel), codeAny_builtin F.entry_type_call ?_⟩
  rw [Around.under_plain (weight_type_call_type "set" [.ref l] []) rfl]
  have m4 := F.called_set.notType
  have m5 := F.called_set.canCreate
  have m6 := F.typeCall_set_1 (.ref l)
  repeat (any_goals (first | assumption | wp_step))
  refine codeAny_mono (code_set_led1 (.ref l) (E := E) (Q₁ := fun v s1 => v = .ref s.heap.objs.size ∧ s1 = { s with heap := s.heap.push (freshSet w) }) ⟨rfl, rfl⟩) fun r s1 hr => ?_
  cases r with
  | error e => exact hr
  | ok fl =>
    cases fl with
    | ret v =>
      obtain ⟨rfl, rfl⟩ := hr
      have g0 : (s.heap.push (freshSet w)).get? s.heap.objs.size = some (freshSet w) := Heap.get?_push_size _ rfl
      have ty0 : Shared.TypeIs { s with heap := s.heap.push (freshSet w) } (.ref s.heap.objs.size) "set" := ⟨_, g0, rfl⟩
      have m7 := F.called_set.init.lookup
      have m8 := F.called_set.init.bind (.ref s.heap.objs.size)
      repeat (any_goals (first | assumption | wp_step))
      refine codeAny_mono (codeAny_call_builtin (R := wants (fun r s2 => r = .none ∧ ∃ h' tk c, s2 = { s with heap := h', toks := tk } ∧ SetX w h' s.heap.objs.size (fun y => decide (y ∈ zs)) c ∧ c ≤ zs.length ∧
          (∀ b o, s.heap.get? b = some o → h'.get? b = some o)) E) F.called_set.init.plain F.entry_set_init (check_set_init_1 ty0 ?_)) fun r2 s2 hr2 => ?_
      · obtain ⟨⟨oc, od, odt, osl⟩, ho, hcl, nl, hdl⟩ := hl
        simp only at hcl hdl
        subst hcl hdl
        have ho1 : (s.heap.push (freshSet w)).get? l = some { cls := .type "list", dict := od, data := .seq its nl, slots := osl } := Heap.get?_push_of_some _ ho
        have n1 := F.sub_list_set
        have n2 := F.sub_list_frozenset
        have n3 : (Value.type "list" == Value.type "dict") = false := by decide
        have isT : (s.heap.push (freshSet w)).IsList l its := ⟨_, ho1, rfl, nl, rfl⟩
        unfold Builtin.«set.__init__» noKeywords Builtin.Frozenset.updateFrom
        generalize ePI : pyIter = PI
        wp_walk
        subst ePI
        refine wpAny_pyIter_list isT ?_
        refine wpAny_bind (wpAny_runValue ?_)
        have ll : l < s.heap.objs.size := Heap.lt_size ho
        have cm : A.in1.in1.in1.handled = none := by simp [calm]
        have zz : (s.heap.push (freshSet w)).objs.size = s.heap.objs.size + 1 := Heap.size_push ..
        have nI : l ≠ (s.heap.push (freshSet w)).objs.size := by rw [zz]; exact Nat.ne_of_lt (Nat.lt_succ_of_lt ll)
        have nF : s.heap.objs.size ∉ [(s.heap.push (freshSet w)).objs.size, l] := by
          simp only [List.mem_cons, List.not_mem_nil, or_false, not_or]
          exact ⟨by rw [zz]; exact Nat.ne_of_lt (Nat.lt_succ_self _), Nat.ne_of_gt ll⟩
        refine upd_loop ((Walks.list cm _ l nI its).toS) s.heap.objs.size nF zs sz few (fun i v hv => at_txt hz i v (by rw [Array.getElem?_toList]; exact hv)) (its.size - 0) 0 _ (by omega) (Nat.zero_le _)
          ⟨⟨_, Heap.get?_push_size _ rfl, rfl, rfl⟩, (isT.push _)⟩ ⟨0, Nat.le_refl 0, ?_⟩ fun s' c' mv hc' X' => ?_
        · exact (fresh_at (Heap.get?_push_of_some _ g0)).like fun y => by simp
        · obtain ⟨h', g2, d2, tk2, os2⟩ := s'
          obtain rfl : g2 = s.gens := mv.gens
          obtain rfl : d2 = s.drawn := mv.drawn
          obtain rfl : os2 = s.os := mv.os
          show wpAny _ _ _ _ _ _
          refine wpAny_pure (wpAny_pure ⟨rfl, h', tk2, c', rfl, X', by omega, fun b o e => ?_⟩)
          have bl : b < s.heap.objs.size := Heap.lt_size e
          refine mv.heap b o ?_ (Heap.get?_push_of_some _ (Heap.get?_push_of_some _ e))
          simp only [List.mem_cons, List.not_mem_nil, or_false, not_or]
          exact ⟨Nat.ne_of_lt bl, by rw [zz]; exact Nat.ne_of_lt (Nat.lt_succ_of_lt bl)⟩
      · cases r2 with
        | error e => exact hr2
        | ok fl2 =>
          cases fl2 with
          | ret r =>
            obtain ⟨rfl, h', tk, c', rfl, X', hc', kp⟩ := hr2
            repeat (any_goals (first | assumption | wp_step))
            exact done _ _ _ X' hc' kp
          | _ => exact hr2.elim
    | _ => exact hr.elim
end
end TxS
set_option Elab.async false
set_option linter.all false
set_option maxRecDepth 100000
set_option maxHeartbeats 2000000
namespace TxS
open PySem PySem.Spec PyProof.Rows L2

/-! ### ascending lists of texts -/
def Sl (a b : Str) : Prop := a.cps.toList < b.cps.toList
instance (a b : Str) : Decidable (Sl a b) := inferInstanceAs (Decidable (a.cps.toList < b.cps.toList))
theorem sl_irr (a : Str) : ¬ Sl a a := List.lt_irrefl _
theorem sl_trans {a b c : Str} (h : Sl a b) (k : Sl b c) : Sl a c := List.lt_trans h k
theorem str_ext {a b : Str} (h : a.cps.toList = b.cps.toList) : a = b := by
  cases a
  cases b
  simp only [Str.mk.injEq]
  exact Array.toList_inj.mp h
theorem sl_total (a b : Str) : Sl a b ∨ a = b ∨ Sl b a := by
  by_cases h : Sl a b
  · exact .inl h
  · by_cases k : Sl b a
    · exact .inr (.inr k)
    · exact .inr (.inl (str_ext (List.le_antisymm (List.not_lt.mp k) (List.not_lt.mp h))))
abbrev Asc (l : List Str) : Prop := l.Pairwise Sl
theorem asc_same : ∀ {l m : List Str}, Asc l → Asc m → (∀ z, z ∈ l ↔ z ∈ m) → l = m
  | [], [], _, _, _ => rfl
  | [], y :: m, _, _, h => absurd ((h y).2 List.mem_cons_self) (by simp)
  | x :: l, [], _, _, h => absurd ((h x).1 List.mem_cons_self) (by simp)
  | x :: l, y :: m, hl, hm, h => by
    obtain ⟨l1, l2⟩ := List.pairwise_cons.mp hl
    obtain ⟨m1, m2⟩ := List.pairwise_cons.mp hm
    have exy : x = y := by
      rcases List.mem_cons.mp ((h x).1 List.mem_cons_self) with e | e
      · exact e
      · rcases List.mem_cons.mp ((h y).2 List.mem_cons_self) with e2 | e2
        · exact e2.symm
        · exact absurd (sl_trans (m1 x e) (l1 y e2)) (sl_irr y)
    subst exy
    refine congrArg (x :: ·) (asc_same l2 m2 fun z => ⟨fun u => ?_, fun u => ?_⟩)
    · rcases List.mem_cons.mp ((h z).1 (List.mem_cons_of_mem _ u)) with e | e
      · subst e
        exact absurd (l1 z u) (sl_irr z)
      · exact e
    · rcases List.mem_cons.mp ((h z).2 (List.mem_cons_of_mem _ u)) with e | e
      · subst e
        exact absurd (m1 z u) (sl_irr z)
      · exact e
def ins (z : Str) : List Str → List Str
  | [] => [z]
  | x :: r => if Sl z x then z :: x :: r else if z = x then x :: r else x :: ins z r
def srt (l : List Str) : List Str := l.foldr ins []
theorem mem_ins (z : Str) : ∀ (l : List Str) (y : Str), y ∈ ins z l ↔ y = z ∨ y ∈ l
  | [], y => by simp [ins]
  | x :: r, y => by
    unfold ins
    by_cases h : Sl z x
    · rw [if_pos h]
      simp
    · rw [if_neg h]
      by_cases k : z = x
      · rw [if_pos k]
        subst k
        simp
      · rw [if_neg k, List.mem_cons, mem_ins z r y, List.mem_cons]
        constructor
        · rintro (a | a | a)
          · exact .inr (.inl a)
          · exact .inl a
          · exact .inr (.inr a)
        · rintro (a | a | a)
          · exact .inr (.inl a)
          · exact .inl a
          · exact .inr (.inr a)
theorem asc_ins (z : Str) : ∀ l : List Str, Asc l → Asc (ins z l)
  | [], _ => List.pairwise_singleton _ _
  | x :: r, h => by
    obtain ⟨h1, h2⟩ := List.pairwise_cons.mp h
    unfold ins
    by_cases a : Sl z x
    · rw [if_pos a]
      refine List.pairwise_cons.mpr ⟨fun y hy => ?_, h⟩
      rcases List.mem_cons.mp hy with e | e
      · exact e ▸ a
      · exact sl_trans a (h1 y e)
    · rw [if_neg a]
      by_cases k : z = x
      · rw [if_pos k]
        exact h
      · rw [if_neg k]
        refine List.pairwise_cons.mpr ⟨fun y hy => ?_, asc_ins z r h2⟩
        rcases (mem_ins z r y).1 hy with e | e
        · subst e
          rcases sl_total x y with q | q | q
          · exact q
          · exact absurd q.symm k
          · exact absurd q a
        · exact h1 y e
theorem asc_srt : ∀ l : List Str, Asc (srt l)
  | [] => List.Pairwise.nil
  | z :: r => asc_ins z (srt r) (asc_srt r)
theorem mem_srt : ∀ (l : List Str) (y : Str), y ∈ srt l ↔ y ∈ l
  | [], y => Iff.rfl
  | z :: r, y => by
    show y ∈ ins z (srt r) ↔ _
    rw [mem_ins, mem_srt r y, List.mem_cons]
theorem srt_eq {l m : List Str} (h : ∀ z, z ∈ l ↔ z ∈ m) : srt l = srt m := asc_same (asc_srt l) (asc_srt m) fun z => by rw [mem_srt, mem_srt, h z]
theorem srt_of {l m : List Str} (a : Asc m) (h : ∀ z, z ∈ m ↔ z ∈ l) : m = srt l := asc_same a (asc_srt l) fun z => by rw [mem_srt, h z]
theorem srt_asc {l : List Str} (a : Asc l) : srt l = l := (srt_of a fun _ => Iff.rfl).symm
theorem srt_iff {l m : List Str} : srt l = srt m ↔ ∀ z, z ∈ l ↔ z ∈ m := ⟨fun e z => by rw [← mem_srt l z, e, mem_srt], srt_eq⟩
theorem len_ins (z : Str) : ∀ l : List Str, (ins z l).length ≤ l.length + 1
  | [] => Nat.le_refl _
  | x :: r => by
    unfold ins
    have ih := len_ins z r
    split
    · exact Nat.le_refl _
    · split
      · exact Nat.le_succ _
      · simp only [List.length_cons]
        omega
theorem len_srt : ∀ l : List Str, (srt l).length ≤ l.length
  | [] => Nat.le_refl _
  | z :: r => by
    have := len_srt r
    have := len_ins z (srt r)
    show (ins z (srt r)).length ≤ r.length + 1
    omega
theorem asc_of : ∀ {l : List Str}, sortedS l = true → l.Nodup → Asc l
  | [], _, _ => List.Pairwise.nil
  | x :: r, h, nd => by
    have go : ∀ (r : List Str) (p : Str), risingS p r = true → (p :: r).Nodup → Asc (p :: r) := by
      intro r
      induction r with
      | nil => intro p _ _; exact List.pairwise_singleton _ _
      | cons y r ih =>
        intro p h nd
        have h0 : (!ltCps y.cps.toList p.cps.toList && risingS y r) = true := h
        obtain ⟨h1, h2⟩ := Bool.and_eq_true_iff.mp h0
        obtain ⟨n1, n2⟩ := List.nodup_cons.mp nd
        have t := ih y h2 n2
        have py : Sl p y := by
          rcases sl_total p y with q | q | q
          · exact q
          · exact absurd (q ▸ List.mem_cons_self) n1
          · exfalso
            have : ltCps y.cps.toList p.cps.toList = true := (ltCps_eq _ _).trans (decide_eq_true q)
            rw [this] at h1
            cases h1
        refine List.pairwise_cons.mpr ⟨fun z hz => ?_, t⟩
        rcases List.mem_cons.mp hz with e | e
        · exact e ▸ py
        · exact sl_trans py ((List.pairwise_cons.mp t).1 z e)
    exact go r x h nd

/-! ### sorted(set) -/
section
variable {P : Program} {w : World} {A : Around} {E : Value → Shared → Prop} {s : Shared} {a : Addr} {S : Str → Bool} {n : Nat}
theorem strs_of : ∀ (l : List Value), (∀ v ∈ l, ∃ z q, v = Value.str z q) → ∃ zs : List Str, StrsAre l zs ∧ zs = l.map fun v => txt (0, v)
  | [], _ => ⟨[], .nil, rfl⟩
  | v :: l, h => by
    obtain ⟨z, q, rfl⟩ := h v List.mem_cons_self
    obtain ⟨zs, r, e⟩ := strs_of l fun u hu => h u (List.mem_cons_of_mem _ hu)
    exact ⟨z :: zs, .cons z q r, by rw [e]; rfl⟩
theorem sort_set {Q : Value → Shared → Prop} (R : SetX w s.heap a S n) (calm : A.handled = none) (few : n < 64)
    (done : ∀ s' p (out : Array Value) (c : Nat) (ys : List Str), (∀ b o, s.heap.get? b = some o → s'.heap.get? b = some o) → s'.gens = s.gens → s'.os = s.os → s.heap.objs.size ≤ p →
      s'.heap.get? p = some (seqObj "list" out c) → StrsAre out.toList ys → Asc ys → (∀ z, z ∈ ys ↔ S z = true) → ys.length = n → Q (.ref p) s') :
    wpAny (model P w) A (call (.builtin "sorted") [.ref a]) Q E s := by
  obtain ⟨ob, es, ep, t, hob, ex, hd, T, hn⟩ := R
  refine Calls.call_function_entry kind_sorted plain_sorted entry_sorted (args_sorted1 _) ?_
  unfold Builtin.«sorted»
  refine wpAny_bind (m := checkCount "sorted" 1 1 _) (wpAny_pure (wpAny_bind (collect_set (A := A.in1) calm ⟨ob, hob, ex.1, hd⟩ T.fit T.few T.ris T.led fun s1 vs kp sz g1 o1 pm => ?_)))
  have lv : vs.length = n := by rw [pm.length_eq, List.length_map, Array.length_toList]; exact hn
  obtain ⟨zs, hz, ez⟩ := strs_of vs fun v hv => by
    obtain ⟨e, he, q⟩ := List.mem_map.mp (pm.mem_iff.mp hv)
    obtain ⟨y, tk, h1, _⟩ := T.row e he
    exact ⟨y, tk, by rw [← q]; exact h1⟩
  have pk : zs.Perm (es.toList.map txt) := by
    rw [ez]
    have q := pm.map fun v => txt (0, v)
    rw [List.map_map] at q
    exact q
  refine wpAny_bind (wpAny_newList ?_ (by rw [lv, sizeLine_eq]; omega))
  have at1 : (s1.heap.push (seqObj "list" vs.toArray 0)).get? s1.heap.objs.size = some (seqObj "list" vs.toArray 0) := Heap.get?_push_size _ rfl
  refine wpAny_bind (wpAny_holding (wpAny_call_entry slot_list_sort ⟨_, at1, rfl⟩ entry_list_sort (list_sort_treeK strKind_oneLt at1 hz.keysOf (fun v1 v2 rest e => keyKind_strs (by rw [← e]; exact hz)) (by rw [lv]; exact few) fun st' a1 a2 => ⟨_, rfl, ?_⟩) (args_list_sort _)))
  obtain ⟨ys, y1, y2, y3⟩ := sorted_out_str hz a1 a2
  obtain ⟨c, hc⟩ := sortedHeap_at (vs := vs) (out := (arrOf st').map (·.2)) at1
  have py : ys.Perm (es.toList.map txt) := y2.trans pk
  refine wpAny_pure ⟨_, rfl, done _ s1.heap.objs.size _ c ys (fun b u e => ?_) g1 o1 sz hc y1 (asc_of y3 (py.nodup_iff.mpr T.nd)) (fun z => by rw [py.mem_iff, ← T.mem z]) (by rw [py.length_eq, List.length_map, Array.length_toList]; exact hn)⟩
  have q := kp b u e
  have lt := Heap.lt_size q
  refine Eq.trans (sortedHeap_old (Nat.ne_of_lt lt) ?_) (Heap.get?_push_of_some _ q)
  rw [size_push']
  exact Nat.lt_succ_of_lt lt
end

/-! ### set == set -/
section
variable {P : Program} {w : World} {A : Around} {E : Value → Shared → Prop} {s : Shared} {a b : Addr} {S S' : Str → Bool} {n m : Nat}
theorem entry_set_eq : entryFor table "set.__eq__" = some Builtin.«frozenset.__eq__» :=
  entryFor_alias (id' := "frozenset.__eq__") (by kernel_rfl) rfl (by decide +kernel) (by kernel_rfl)
theorem any_set {Q : Bool → Shared → Prop} (ty : s.TypeIs (.ref a) "set") (h : Q true s) : wpAny (model P w) A (Builtin.Frozenset.isAnySet (.ref a)) Q E s := by
  unfold Builtin.Frozenset.isAnySet orM
  refine wpAny_bind (wpAny_isInstance ty sub_set_self ?_)
  exact wpAny_pure h
theorem quiet_txt {z : Str} {q : Tok} : Builtin.Frozenset.quietEq (.str z q) = pure true := rfl
theorem size_set {Q : Nat → Shared → Prop} (R : SetX w s.heap a S n) (h : Q n s) : wpAny (model P w) A (Builtin.Frozenset.sizeOf a) Q E s := by
  obtain ⟨ob, es, ep, t, hob, ex, hd, T, hn⟩ := R
  unfold Builtin.Frozenset.sizeOf
  refine wpAny_bind (wpAny_setEntries_of hob hd T.fit (wpAny_pure ?_))
  rw [hn]
  exact h
theorem SetX.ty (R : SetX w s.heap a S n) : s.TypeIs (.ref a) "set" := by
  obtain ⟨ob, es, ep, t, hob, ex, hd, T, hn⟩ := R
  exact ⟨ob, hob, ex.1⟩
theorem full_of : ∀ {l m : List Str}, l.Nodup → (∀ x ∈ l, x ∈ m) → m.length ≤ l.length → ∀ x ∈ m, x ∈ l
  | [], m, _, _, hl, x, hx => by
    have : m = [] := List.eq_nil_of_length_eq_zero (Nat.le_zero.mp hl)
    rw [this] at hx
    cases hx
  | a :: l, m, nd, hs, hl, x, hx => by
    obtain ⟨n1, n2⟩ := List.nodup_cons.mp nd
    have am : a ∈ m := hs a List.mem_cons_self
    have le : (m.erase a).length ≤ l.length := by
      rw [List.length_erase_of_mem am]
      rw [List.length_cons] at hl
      omega
    by_cases e : x = a
    · exact e ▸ List.mem_cons_self
    · refine List.mem_cons_of_mem _ (full_of n2 (fun y hy => ?_) le x ((List.mem_erase_of_ne e).mpr hx))
      exact (List.mem_erase_of_ne fun u : y = a => n1 (u ▸ hy)).mpr (hs y (List.mem_cons_of_mem _ hy))
theorem walk_unseen {Q : List (Int × Value) → Shared → Prop} {ob ob' : Obj} {es es' : Array (Int × Value)} {ep ep' : Nat} {t t' : SetTable} (hob : s.heap.get? a = some ob) (hd : ob.data = .set es ep t) (T : Tbl w es t S)
    (hob' : s.heap.get? b = some ob') (hd' : ob'.data = .set es' ep' t') (T' : Tbl w es' t' S') (h : Q es.toList s) : wpAny (model P w) A (Builtin.Frozenset.walkUnseen a b) Q E s := by
  unfold Builtin.Frozenset.walkUnseen
  refine wpAny_bind (wpAny_setEntries_of hob hd T.fit ?_)
  refine wpAny_bind (wpAny_setEntries_of hob' hd' T'.fit ?_)
  refine wpAny_bind (wpAny_forIn_list _ (fun rest x s' => (∀ e ∈ rest, TxE w e) ∧ x.1 = none ∧ s' = s) _ ?_ ?_ _ _ ⟨fun e he => ?_, rfl, rfl⟩)
  · rintro ⟨h0, v⟩ rest x s' ⟨hr, hx, rfl⟩
    obtain ⟨z, q, e2, _⟩ := hr _ List.mem_cons_self
    have e2' : v = Value.str z q := e2
    subst e2'
    refine wpAny_bind (wpAny_of_eq quiet_txt ?_)
    exact wpAny_pure ⟨fun e he => hr e (List.mem_cons_of_mem _ he), rfl, rfl⟩
  · rintro ⟨x1, x2⟩ s' ⟨_, hx, rfl⟩
    have hx' : x1 = none := hx
    subst hx'
    exact wpAny_pure h
  · rcases List.mem_append.mp he with u | u
    · exact T.row e u
    · exact T'.row e u
theorem sub_set {id : String} {Q : Bool → Shared → Prop} (R : SetX w s.heap a S n) (R' : SetX w s.heap b S' m) (le : ¬ n > m) (done : ∀ k : Bool, (k = true ↔ ∀ z, S z = true → S' z = true) → Q k s) :
    wpAny (model P w) A (Builtin.Frozenset.subsetOf id a b) Q E s := by
  have Ra := R
  obtain ⟨ob, es, ep, t, hob, ex, hd, T, hn⟩ := R
  have R0 := R'
  obtain ⟨ob', es', ep', t', hob', ex', hd', T', hn'⟩ := R'
  unfold Builtin.Frozenset.subsetOf
  refine wpAny_bind (size_set Ra (wpAny_bind (size_set R0 ?_)))
  rw [if_neg le]
  refine wpAny_bind (wpAny_setEpoch_of hob hd T.fit ?_)
  refine wpAny_bind (walk_unseen hob hd T hob' hd' T' ?_)
  refine wpAny_bind (wpAny_forIn_list _ (fun rest x s' => (∃ pre, pre ++ rest = es.toList ∧ ∀ e ∈ pre, S' (txt e) = true) ∧ x.1 = none ∧ s' = s) _ ?_ ?_ _ _ ⟨⟨[], rfl, fun _ u => by cases u⟩, rfl, rfl⟩)
  · rintro ⟨h0, v⟩ rest x s' ⟨⟨pre, hp, ha⟩, hx, rfl⟩
    have hm : (h0, v) ∈ es.toList := by rw [← hp]; exact List.mem_append_right _ List.mem_cons_self
    obtain ⟨z, q, e2, e1⟩ := T.row _ hm
    have e2' : v = Value.str z q := e2
    have e1' : h0 = hashStr w z := e1
    subst e2' e1'
    have key : (PySem.strKind P w).is z (.str z q) = true := by
      show Value.isStrOf z (Value.str z q) = true
      simp [Value.isStrOf]
    refine wpAny_bind (wpAny_holding (wpAny_setFind_of (knd := PySem.strKind P w) key rfl R0.of fun r hr => ?_))
    cases r with
    | none =>
      have no : S' z = false := hr.symm
      refine wpAny_pure ?_
      exact wpAny_pure (done false ⟨fun u => (by cases u), fun h => (by
        have := h z ((T.mem z).2 (List.mem_map.mpr ⟨_, hm, rfl⟩))
        rw [no] at this
        cases this)⟩)
    | some j =>
      have yes : S' z = true := hr.symm
      rw [if_neg (by simp)]
      unfold Builtin.Frozenset.unchanged
      refine wpAny_bind (wpAny_bind (wpAny_setEpoch_of hob hd T.fit ?_))
      rw [if_neg (by simp)]
      refine wpAny_pure (wpAny_pure ⟨⟨pre ++ [(hashStr w z, Value.str z q)], by rw [List.append_assoc]; exact hp, fun e he => ?_⟩, rfl, rfl⟩)
      rcases List.mem_append.mp he with u | u
      · exact ha e u
      · rw [List.mem_singleton.mp u]
        exact yes
  · rintro ⟨x1, x2⟩ s' ⟨⟨pre, hp, ha⟩, hx, rfl⟩
    have hx' : x1 = none := hx
    subst hx'
    rw [List.append_nil] at hp
    subst hp
    refine wpAny_pure (done true ⟨fun _ z hz => ?_, fun _ => rfl⟩)
    obtain ⟨e, he, rfl⟩ := List.mem_map.mp ((T.mem z).1 hz)
    exact ha e he
theorem subt_sf : isSubtype (.type "set") (.type "frozenset") = pure false := by rw [isSubtype_type]; kernel_rfl
theorem eq_set {Q : Value → Shared → Prop} (R : SetX w s.heap a S n) (R' : SetX w s.heap b S' m) (hu : A.units < cLine) (done : ∀ k : Bool, (k = true ↔ ∀ z, S z = S' z) → Q (.bool k) s) :
    wpAny (model P w) A (compareOp .Eq (.ref a) (.ref b)) Q E s := by
  show wpAny (model P w) A (richCompare .Eq (.ref a) (.ref b)) Q E s
  refine wpAny_richCompare_same_room (op := .Eq) R.ty R'.ty F.slot_set_eq (wpAny_call_entry F.slot_set_eq R.ty entry_set_eq ?_ (F.args_set_eq_2 _ _)) hu
  unfold Builtin.«frozenset.__eq__»
  refine wpAny_bind (m := Builtin.Frozenset.slot1 "__eq__" _) (wpAny_of_eq (a := (Value.ref a, Value.ref b)) (by rfl) ?_)
  refine wpAny_bind (m := Builtin.Frozenset.isAnySet (.ref b)) (any_set R'.ty ?_)
  rw [if_neg (by simp)]
  refine wpAny_bind (wpAny_pure ?_)
  refine wpAny_bind (wpAny_pure ?_)
  refine wpAny_bind (size_set R ?_)
  refine wpAny_bind (size_set R' ?_)
  dsimp only
  refine wpAny_bind ?_
  have T := R
  have T' := R'
  obtain ⟨ob, es, ep, t, hob, ex, hd, T, hn⟩ := T
  obtain ⟨ob', es', ep', t', hob', ex', hd', T', hn'⟩ := T'
  have same_len : (∀ z, S z = S' z) → n = m := fun h => by
    have p : (es.toList.map txt).Perm (es'.toList.map txt) := (List.perm_ext_iff_of_nodup T.nd T'.nd).mpr fun z => by rw [← T.mem z, ← T'.mem z, h z]
    have := p.length_eq
    rw [List.length_map, List.length_map, Array.length_toList, Array.length_toList] at this
    omega
  by_cases e : n = m
  · rw [if_neg (by simp [e])]
    unfold andM
    refine wpAny_bind (wpAny_bind (wpAny_isInstance R.ty subt_sf ?_))
    refine wpAny_pure ?_
    rw [if_neg (by simp)]
    refine sub_set R R' (by omega) fun k hk => ?_
    refine wpAny_pure ⟨_, rfl, (fun u => nomatch u), done k (hk.trans ⟨fun h z => ?_, fun h z hz => (h z) ▸ hz⟩)⟩
    -- a subset as large as the whole is the whole
    have sub : ∀ y ∈ es.toList.map txt, y ∈ es'.toList.map txt := fun y hy => (T'.mem y).1 (h y ((T.mem y).2 hy))
    rw [Bool.eq_iff_iff, T.mem z, T'.mem z]
    exact ⟨sub z, full_of T.nd sub (by rw [List.length_map, List.length_map, Array.length_toList, Array.length_toList]; omega) z⟩
  · rw [if_pos (by simp [e])]
    refine wpAny_pure (wpAny_pure ⟨_, rfl, (fun u => nomatch u), done false ⟨fun u => (by cases u), fun h => absurd (same_len h) e⟩⟩)
end

/-! ### over the layer -/
def SetXO (w : World) (a : Addr) (S : Str → Bool) (n : Nat) : HO := .ext fun h => SetX w h a S n
section
variable {X : Cx}
theorem setXO_new {w : World} {P : Program} {H : Hp} {h : Heap} {a : Addr} {S : Str → Bool} {n : Nat} (R : SetX w h a S n) : ObjOk P w H h a (SetXO w a S n) := by
  have ⟨ob, _, _, _, hob, _⟩ := R
  exact ⟨R, ⟨ob, hob⟩, fun h1 h2 p k => p.move k⟩
theorem setXO_get {pins : List (Addr × Obj)} {σ : L2.St} {H : Hp} {s : Shared} {a : Addr} {S : Str → Bool} {n : Nat} (I : Inv X pins σ H s) (ha : H a = some (SetXO X.w a S n)) : SetX X.w s.heap a S n := (I.hok a _ ha).1
/-- set(t), t a tuple or a list of texts -/
def rSetX (K : PySem.W.Frag) (w : World) : List V → Hp → VK → Prop := fun xs H Q => ∃ (p : Addr) (zs : List Str), xs = [V.ref p] ∧ (SqT K H p (zs.map V.str) ∨ SqL K H p (zs.map V.str)) ∧ zs.length + 1 < scanBound ∧
  ∀ l c, c ≤ zs.length → H l = none → Q (.ref l) (upd H l (SetXO w l (fun y => decide (y ∈ zs)) c))
theorem cr_setX (hc : X.calm = true) : CallR X (.type "set") (rSetX X.K X.w) := by
  intro pins s σ H vs us Q I r h
  obtain ⟨p, zs, rfl, hs, few, q⟩ := h
  rw [Vals.ref1 r]
  have fin : ∀ (h' : Heap) (tk c : Nat), SetX X.w h' s.heap.objs.size (fun y => decide (y ∈ zs)) c → c ≤ zs.length → (∀ b o, s.heap.get? b = some o → h'.get? b = some o) → EP X pins σ Q (.ref s.heap.objs.size) { s with heap := h', toks := tk } := fun h' tk c R hc' kp =>
    ⟨.ref _, _, I.laid kp (Nat.le_refl _) (setXO_new R), rfl, q _ c hc' (I.hok.fresh (Nat.le_refl _))⟩
  rcases hs with hs | hs
  · obtain ⟨its, rv, pl, _⟩ := I.tuple hs
    exact call_setT zs (I.ok.hd hc) pl (by simpa using rv.strs) few fin
  · obtain ⟨its, rv, pl, _⟩ := I.list hs
    exact call_setL zs (I.ok.hd hc) pl.isList (by simpa using rv.strs) few fin
/-- sorted(found) -/
def rSortX (w : World) : List V → Hp → VK → Prop := fun vs H Q => ∃ (a : Addr) (S : Str → Bool) (n : Nat), vs = [V.ref a] ∧ H a = some (SetXO w a S n) ∧ n < 64 ∧
  ∀ (ys : List Str) (p : Addr), Asc ys → (∀ z, z ∈ ys ↔ S z = true) → ys.length = n → H p = none → Q (.ref p) (upd H p (.lst (ys.map V.str)))
theorem cr_sortX (hc : X.calm = true) : CallR X (.builtin "sorted") (rSortX X.w) := by
  intro pins s σ H vs us Q I r h
  obtain ⟨a, S, n, rfl, ha, few, q⟩ := h
  rw [Vals.ref1 r]
  refine sort_set (setXO_get I ha) (I.ok.hd hc) few fun s' p out c ys kp g o hp hg hi hA hm hl => ?_
  have len : (ys.map V.str).length ≤ sizeLine := by rw [List.length_map, hl, sizeLine_eq]; omega
  have hn : H p = none := I.hok.fresh hp
  have J : Inv X pins σ (upd H p (.lst (ys.map V.str))) { s with heap := s'.heap, gens := s'.gens, drawn := s'.drawn, toks := s'.toks } :=
    I.call (ch := []) (Un.laid kp hp hn) (I.hok.laid kp hp ⟨len, out.toList, c, vals_of_strs hi, hg⟩) (by rw [g]; exact I.bare) (fun _ z => nomatch z)
  have e : s' = { s with heap := s'.heap, gens := s'.gens, drawn := s'.drawn, toks := s'.toks } := by
    cases s'
    cases s
    cases o
    rfl
  rw [e]
  exact ⟨.ref p, _, J, rfl, q ys p hA hm hl hn⟩
/-- set(a) == set(b) -/
def rEqX (w : World) : R2 := fun x y H Q => ∃ (a b : Addr) (S S' : Str → Bool) (n m : Nat), x = V.ref a ∧ y = V.ref b ∧ H a = some (SetXO w a S n) ∧ H b = some (SetXO w b S' m) ∧ ∀ k : Bool, (k = true ↔ ∀ z, S z = S' z) → Q (.bl k) H
theorem op_eqX (hu : X.A.units < cLine) : OpR X (compareOp .Eq) (rEqX X.w) := by
  intro pins s σ H x y v u Q I rx ry h
  obtain ⟨a, b, S, S', n, m, rfl, rfl, ha, hb, q⟩ := h
  cases rx
  cases ry
  exact eq_set (setXO_get I ha) (setXO_get I hb) hu fun k hk => ⟨.bl k, H, I, rfl, q k hk⟩
/-- len(found) -/
theorem cr_lenX : CallR X (.builtin "len") (fun xs H Q => ∃ (a : Addr) (S : Str → Bool) (n : Nat), xs = [V.ref a] ∧ H a = some (SetXO X.w a S n) ∧ Q (.int n) H) := by
  intro pins s σ H vs us Q I r h
  obtain ⟨a, S, n, rfl, ha, q⟩ := h
  rw [Vals.ref1 r]
  obtain ⟨ob, es, ep, t, hob, ex, hd, T, hn⟩ := setXO_get I ha
  have big : (es.size : Int) < 2 ^ 63 := by
    have := fits_of_scanBound T.few
    rw [sizeLine_eq] at this
    omega
  refine call_len_set hob ex hd T.fit big ⟨.int n, H, I.tok _, ⟨s.toks + 1, ?_⟩, q⟩
  rw [hn]
end
end TxS
set_option Elab.async false
set_option linter.all false
set_option maxRecDepth 100000
set_option maxHeartbeats 2000000
/-! Operators of an own class: a | b, a == b, x in a, len(a), bool(a); C() and C(*xs) by a positional promise of __init__. -/
namespace LkO
open PySem PySem.Spec PyProof.Rows L2

/-- the class at C has the def at f under this name -/
structure OwnM (K : PySem.W.Frag) (C f : Addr) (name : Str) : Prop where
  at_ : PySem.W.findIn K (.ref C) name = some (some (.ref f))
  fn : PySem.W.isFn K (.ref f) = true

section
variable {X : Cx} {CX : CXT} {k : Nat} {C f : Addr} {fd : FuncData} {ps : List Str} {sp : Sp} {E : XK}
theorem back_of {pins : List (Addr × Obj)} {σ : L2.St} {Q : VK} {u : Value} {s' : Shared} (h : EP X pins σ Q u s') : PySem.W.CmpBack (EP X pins σ Q) u s' := by
  cases u with
  | notImplemented =>
    obtain ⟨v, H', I', rv, q⟩ := h
    cases v with
    | non => exact nomatch (show Value.notImplemented = Value.none from rv)
    | bl b => exact nomatch (show Value.notImplemented = Value.bool b from rv)
    | int i => obtain ⟨t, e⟩ := (show ∃ t, Value.notImplemented = Value.int i t from rv); exact nomatch e
    | str z => obtain ⟨t, e⟩ := (show ∃ t, Value.notImplemented = Value.str z t from rv); exact nomatch e
    | byt z => obtain ⟨t, e⟩ := (show ∃ t, Value.notImplemented = Value.bytes z t from rv); exact nomatch e
    | flt z => obtain ⟨t, e⟩ := (show ∃ t, Value.notImplemented = Value.float z t from rv); exact nomatch e
    | ref a => exact nomatch (show Value.notImplemented = Value.ref a from rv)
    | ty n => exact nomatch (show Value.notImplemented = Value.type n from rv)
  | _ => exact h
theorem inst_of {pins : List (Addr × Obj)} {σ : L2.St} {H : Hp} {s : Shared} {a dx : Addr} {fs : List (Str × V)} (I : Inv X pins σ H s) (h : H a = some (.ins C dx fs)) : ∃ od, PySem.W.InstAt s.heap a (PySem.W.instObj C dx) C od := by
  obtain ⟨mA, J, _⟩ := ins_get I.hok h
  obtain ⟨od, J, _⟩ := J.look
  exact ⟨_, J⟩
/-- both operands instances of C: the method's promise -/
def rOwn (C : Addr) (sp : Sp) (E : XK) : R2 := fun x y H Q => ∃ a dx fs b dy gs, x = .ref a ∧ y = .ref b ∧ H a = some (.ins C dx fs) ∧ H b = some (.ins C dy gs) ∧ sp [.ref a, .ref b] H Q E
theorem op_own {op : Operator} (hc : PySem.W.selfFirst X.K C = true) (m : OwnM X.K C f (PySem.dunder op.info.2)) (F : FnOk X.prog X.w X.K X.mg X.base CX k f fd ps sp) (hr : Room k X.A) (hb : Binds X.K fd ps []) (hx : Passes CX X E) :
    OpR X (binaryOp op) (rOwn C sp E) := by
  intro pins s σ H x y v u Q I rx ry h
  obtain ⟨a, dx, fs, b, dy, gs, rfl, rfl, ha, hb', q⟩ := h
  cases rx
  cases ry
  obtain ⟨od, J⟩ := inst_of I ha
  obtain ⟨od', J'⟩ := inst_of I hb'
  obtain ⟨m0, hF⟩ := I.fr
  exact PySem.W.binop_K hF I.ok.mod.kin J J'.type hc m.at_ m.fn (thn (run_fn (vs := [.ref a, .ref b]) F hr hb .nil hx I (.cons rfl (.cons rfl .nil)) q) fun w s' z => back_of z)
theorem op_ownEq (m : OwnM X.K C f "__eq__") (F : FnOk X.prog X.w X.K X.mg X.base CX k f fd ps sp) (hr : Room k X.A) (hb : Binds X.K fd ps []) (hx : Passes CX X E) : OpR X (compareOp .Eq) (rOwn C sp E) := by
  intro pins s σ H x y v u Q I rx ry h
  obtain ⟨a, dx, fs, b, dy, gs, rfl, rfl, ha, hb', q⟩ := h
  cases rx
  cases ry
  obtain ⟨od, J⟩ := inst_of I ha
  obtain ⟨od', J'⟩ := inst_of I hb'
  obtain ⟨m0, hF⟩ := I.fr
  exact PySem.W.cmp_K (op := .Eq) (tb := .ref C) hr.units0 hF I.ok.mod.kin J J'.type (by simp [PySem.W.notFirst]) m.at_ m.fn (thn (run_fn (vs := [.ref a, .ref b]) F hr hb .nil hx I (.cons rfl (.cons rfl .nil)) q) fun w s' z => back_of z)
/-- x in a -/
def rOwnIn (C : Addr) (sp : Sp) (E : XK) (neg : Bool) : R2 := fun x y H Q => ∃ a dx fs, y = .ref a ∧ H a = some (.ins C dx fs) ∧ sp [.ref a, x] H (fun v H' => ∃ c, v = .bl c ∧ Q (.bl (if neg then !c else c)) H') E
theorem op_ownIn (m : OwnM X.K C f "__contains__") (F : FnOk X.prog X.w X.K X.mg X.base CX k f fd ps sp) (hr : Room k X.A) (hb : Binds X.K fd ps []) (hx : Passes CX X E) : OpR X (compareOp .In) (rOwnIn C sp E false) := by
  intro pins s σ H x y v u Q I rx ry h
  obtain ⟨a, dx, fs, rfl, ha, q⟩ := h
  cases ry
  obtain ⟨od, J⟩ := inst_of I ha
  obtain ⟨m0, hF⟩ := I.fr
  refine PySem.W.in_K hF I.ok.mod.kin J m.at_ m.fn (thn (run_fn (vs := [.ref a, x]) F hr hb .nil hx I (.cons rfl (.cons rx .nil)) q) fun w s' z => ?_)
  obtain ⟨z0, H', I', rz, c, rfl, q'⟩ := z
  cases rz
  exact wpAny_truthy_bool ⟨.bl c, H', I', rfl, q'⟩
theorem op_ownNotIn (m : OwnM X.K C f "__contains__") (F : FnOk X.prog X.w X.K X.mg X.base CX k f fd ps sp) (hr : Room k X.A) (hb : Binds X.K fd ps []) (hx : Passes CX X E) : OpR X (compareOp .NotIn) (rOwnIn C sp E true) := by
  intro pins s σ H x y v u Q I rx ry h
  obtain ⟨a, dx, fs, rfl, ha, q⟩ := h
  cases ry
  obtain ⟨od, J⟩ := inst_of I ha
  obtain ⟨m0, hF⟩ := I.fr
  refine PySem.W.notIn_K hF I.ok.mod.kin J m.at_ m.fn (thn (run_fn (vs := [.ref a, x]) F hr hb .nil hx I (.cons rfl (.cons rx .nil)) q) fun w s' z => ?_)
  obtain ⟨z0, H', I', rz, c, rfl, q'⟩ := z
  cases rz
  exact wpAny_truthy_bool ⟨.bl (!c), H', I', rfl, q'⟩
/-- the callee runs one builtin deeper -/
theorem run_in1 {A : Around} {pins : List (Addr × Obj)} {σ : L2.St} {H : Hp} {s : Shared} {Q : VK} {us : List Value} {vs : List V} (F : FnOk X.prog X.w X.K X.mg X.base CX k f fd ps sp) (hr : Room k A) (fr : A.frames = X.A.frames) (hb : Binds X.K fd ps []) (hx : Passes CX X E)
    (I : Inv X pins σ H s) (r : Vals vs us) (h : sp vs H Q E) : wpAny (model X.prog X.w) A (call (.ref f) us) (EP X pins σ Q) X.xe s := by
  have hl : us.length = ps.length := by rw [← r.length]; exact F.len _ _ _ _ h
  have e0 : Env0 X.prog X.w X.K X.mg X.base A X.stack s H := by
    have e := I.env0
    exact ⟨by rw [fr]; exact e.frames, e.mod, e.bs, e.bsz, e.funs, e.frf, e.hok, e.bare⟩
  refine wpAny_call (codeAny_mono (F.run A X.stack s H ⟨us, []⟩ us vs Q E hr e0 (by simpa using hb s us I.kIn (by simpa using hl)) r h) fun r s' hq => ?_)
  cases r with
  | error e => exact hx pins σ H s e s' I hq
  | ok fl =>
    cases fl with
    | ret u => exact I.after hq
    | next => exact False.elim hq
    | brk => exact False.elim hq
    | cont => exact False.elim hq
/-- len(a) -/
def rOwnLen (C : Addr) (sp : Sp) (E : XK) (g : Nat → V) : List V → Hp → VK → Prop := fun xs H Q => ∃ a dx fs, xs = [.ref a] ∧ H a = some (.ins C dx fs) ∧ sp [.ref a] H (fun v H' => ∃ n : Nat, v = .int n ∧ n ≤ sizeLine ∧ Q (g n) H') E
theorem cr_ownLen (m : OwnM X.K C f "__len__") (F : FnOk X.prog X.w X.K X.mg X.base CX k f fd ps sp) (hr : Room (k + 1) X.A) (hb : Binds X.K fd ps []) (hx : Passes CX X E) : CallR X (.builtin "len") (rOwnLen C sp E fun n => .int n) := by
  intro pins s σ H xs us Q I r h
  obtain ⟨a, dx, fs, rfl, ha, q⟩ := h
  rw [Vals.ref1 r]
  obtain ⟨od, J⟩ := inst_of I ha
  obtain ⟨m0, hF⟩ := I.fr
  refine PySem.W.len_K hF I.ok.mod.kin J m.at_ m.fn (thn (run_in1 (vs := [.ref a]) F hr.in1 rfl hb hx I (.cons rfl .nil) q) fun w s' z => ?_)
  obtain ⟨z0, H', I', rz, n, rfl, hn, q'⟩ := z
  obtain ⟨t, rfl⟩ := rz
  have hl := line63
  exact ⟨⟨by omega, by omega⟩, .int n, H', I'.tok _, ⟨_, rfl⟩, q'⟩
/-- a's truth, by __len__ alone -/
theorem own_truth {A : Around} {pins : List (Addr × Obj)} {σ : L2.St} {H : Hp} {s : Shared} {a dx : Addr} {fs : List (Str × V)} {Q : Bool → Hp → Prop} (nb : PySem.W.findIn X.K (.ref C) "__bool__" = some none) (m : OwnM X.K C f "__len__")
    (F : FnOk X.prog X.w X.K X.mg X.base CX k f fd ps sp) (hr : Room (k + 1) A) (fr : A.frames = X.A.frames) (hb : Binds X.K fd ps []) (hx : Passes CX X E) (I : Inv X pins σ H s) (ha : H a = some (.ins C dx fs))
    (h : sp [.ref a] H (fun v H' => ∃ n : Nat, v = .int n ∧ n ≤ sizeLine ∧ Q (n != 0) H') E) : wpAny (model X.prog X.w) A (truthy (.ref a)) (TP X pins σ Q) X.xe s := by
  obtain ⟨od, J⟩ := inst_of I ha
  obtain ⟨m0, hF⟩ := I.fr
  have kin := I.kIn
  have key : wpAny (model X.prog X.w) A (runValue (.builtin "len" ⟨[.ref a], []⟩)) (fun r s' => ∃ (n : Nat) (t : Tok), r = .int n t ∧ TP X pins σ Q (n != 0) s') X.xe s := by
    refine wpAny_runValue (codeAny_builtin entry_len ?_)
    rw [Around.under_plainId plain_len _]
    unfold Builtin.«len»
    refine wpAny_bind (m := oneArg "len" _) (wpAny_pure ?_)
    refine wpAny_bind (m := callSpecial? (.ref a) (Str.ofString "__len__")) (PySem.W.special_fn kin J m.at_ (beq_iff_eq.mp m.fn) (thn (run_in1 (vs := [.ref a]) F hr.in1 fr hb hx I (.cons rfl .nil) h) fun w s' z => ?_))
    obtain ⟨z0, H', I', rz, n, rfl, hn, q'⟩ := z
    obtain ⟨t, rfl⟩ := rz
    have hl := line63
    refine wpAny_bind (wpAny_holding (wpAny_pure ?_))
    refine wpAny_bind (wpAny_letGo ?_)
    rw [if_neg (by omega)]
    rw [if_neg (by omega)]
    exact wpAny_bind (wpAny_mkInt (wpAny_pure ⟨n, _, rfl, H', I'.tok _, q'⟩))
  unfold truthy
  refine wpAny_bind (m := callSpecial? (.ref a) (Str.ofString "__bool__")) (wpAny_bind (wpAny_bind (J.type.here ((PySem.W.looks_findIn kin nb).here (wpAny_pure ?_)))))
  refine wpAny_bind (wpAny_bind (J.type.here ((PySem.W.looks_findIn kin m.at_).here ?_)))
  refine wpAny_bind (thn key fun r s' z => ?_)
  obtain ⟨n, t, rfl, q⟩ := z
  refine wpAny_pure ?_
  have e : ((n : Int) != 0) = (n != 0) := by
    cases n <;> rfl
  rw [e]
  exact q
theorem cr_ownBool (nb : PySem.W.findIn X.K (.ref C) "__bool__" = some none) (m : OwnM X.K C f "__len__") (F : FnOk X.prog X.w X.K X.mg X.base CX k f fd ps sp) (hr : Room (k + 4) X.A) (hb : Binds X.K fd ps []) (hx : Passes CX X E) :
    CallR X (.type "bool") (rOwnLen C sp E fun n => .bl (n != 0)) := by
  intro pins s σ H xs us Q I r h
  obtain ⟨a, dx, fs, rfl, ha, q⟩ := h
  rw [Vals.ref1 r]
  refine callType_newIn (S := fun A' R s' => A' = X.A.in1 ∧ s' = s ∧ (∀ b s2, TP X pins σ (fun b H' => Q (.bl b) H') b s2 → R (.ok (.ret (.bool b))) s2) ∧ ∀ e s2, X.xe e s2 → R (.error e) s2) PySem.F.called_bool PySem.F.newNe_bool (PySem.F.typeCall_bool_1 _) (PySem.F.newCall_bool_1 _) (fun obj => PySem.F.args_object_init_2 obj _) PySem.F.entry_bool_new (fun A' R s' hS => ?_) ?_
  · obtain ⟨rfl, rfl, h1, h2⟩ := hS
    unfold Builtin.«bool.__new__»
    refine wpAny_bind (m := isType (Value.type "bool")) (wpAny_of_eq (a := true) (by rfl) ?_)
    dsimp only
    rw [if_neg (by simp)]
    refine wpAny_bind (wpAny_of_eq PySem.F.conv_sub_bool ?_)
    rw [if_neg (by simp)]
    refine wpAny_bind (wpAny_of_eq (a := [Value.ref a]) (by rfl) ?_)
    dsimp only
    refine wpAny_bind (wpAny_mono (own_truth (A := X.A.in1.in1) (Q := fun b H' => Q (.bl b) H') nb m F (hr.in1.in1.mono (by omega)) rfl hb hx I ha q) (fun b s2 z => ?_) fun e s2 z => h2 e s2 z)
    exact wpAny_pure (h1 b s2 z)
  · exact ⟨rfl, rfl, fun b s2 z => ⟨PySem.typeIs_bool _ _, let ⟨H', I', q'⟩ := z; ⟨.bl b, H', I', rfl, q'⟩⟩, fun e s2 z => z⟩
end

/-! ### C(), C(*xs) -/
section
variable {X : Cx} {CX : CXT} {k : Nat} {f C : Addr} {sp : Sp} {E : XK} {x : Str} {e : Expr} {te : TE} {p sp_ pos : Pos}
theorem pe_makeR0 (M : Mk X.K C f) (F : FnR X.prog X.w X.K X.mg X.base CX k f sp) (hr : Room (k + 1) X.A) (hg : Gl X x) (hm : X.mg x = some (.ref C)) (hx : Passes CX X E) (hdb : (x == ("__debug__" : Str)) = false := by decide) :
    PE X (.Call (.Name x p) [] [] pos) (StX.tMakeR C sp E tNil) := by
  refine ⟨fun pins s σ H Q I h => ?_⟩
  refine wpAny_Call_Name_kw (ld_glob I hg hm ?_ hdb)
  exact PySem.W.callWith_K0 I.kIn M.kp (StX.run_makeR (us := []) M F hr hx I .nil h)
def tMakeS (K : PySem.W.Frag) (C : Addr) (sp : Sp) (E : XK) (te : TE) : TE := fun σ H Q => te σ H fun y H1 => ∃ a xs, y = V.ref a ∧ (SqT K H1 a xs ∨ SqL K H1 a xs) ∧ ∀ x dx, H1 x = Option.none → H1 dx = Option.none → dx ≠ x →
  sp (V.ref x :: xs) (upd (upd H1 dx (.own x)) x (.ins C dx [])) (fun v H2 => v = .non ∧ Q (.ref x) H2) E
theorem pe_makeS (M : Mk X.K C f) (F : FnR X.prog X.w X.K X.mg X.base CX k f sp) (hr : Room (k + 1) X.A) (hg : Gl X x) (hm : X.mg x = some (.ref C)) (hx : Passes CX X E) (he : PE X e te) (hd : (x == ("__debug__" : Str)) = false := by decide)
    (hst : starEach [.Starred e sp_] X.env = [(true, eval e X.env)] := by rfl) : PE X (.Call (.Name x p) [.Starred e sp_] [] pos) (tMakeS X.K C sp E te) := by
  refine ⟨fun pins s σ H Q I h => ?_⟩
  refine wpAny_Call_Name_kw (ld_glob I hg hm ?_ hd)
  refine PySem.W.callWith_S (h₀ := X.base) I.ok.mod.kin M.kp (thn (he.run pins s σ H _ I h) fun v s1 ⟨y, H1, I1, ry, a, xs, ey, hxs, q⟩ => ?_) hst
  subst ey
  obtain rfl : v = Value.ref a := ry
  exact StX.star_any I1 hxs fun us s2 I2 rv => ⟨I2.kIn, StX.run_makeR M F hr hx I2 rv q⟩
end
end LkO
set_option Elab.async false
set_option linter.all false
set_option maxRecDepth 100000
set_option maxHeartbeats 2000000
/-! What the program's defs share: names, lists of texts as data, heaps that grew, comprehensions. -/
namespace Lk
open PySem PySem.Spec PyProof.Rows L2 TxS LkO

/-! ### names -/
def abc : Str := "abcdefghijklmnopqrstuvwxyz"
def lettersOk (z : Str) : Bool := z.cps.toList.all fun c => decide (c ∈ abc.cps.toList)
def isNm (z : Str) : Bool := (decide (1 ≤ z.length) && decide (z.length ≤ 8)) && lettersOk z
theorem nm_len {z : Str} (h : isNm z = true) : z.length ≤ 8 := by
  unfold isNm at h
  simp only [Bool.and_eq_true, decide_eq_true_eq] at h
  exact h.1.2
theorem nm_line {z : Str} (h : isNm z = true) : z.length ≤ sizeLine := Nat.le_trans (nm_len h) (by rw [sizeLine_eq]; decide)
theorem abc_small : abc.cps.toList.all (fun c => decide (c < 128)) = true := by decide +kernel
theorem nm_ok {z : Str} (h : isNm z = true) : PyData.strOk z = true := by
  have l8 := nm_len h
  unfold isNm at h
  simp only [Bool.and_eq_true] at h
  have h2 := h.2
  unfold lettersOk at h2
  have small : ∀ c ∈ z.cps.toList, c < 128 := fun c hc => by
    have := List.all_eq_true.mp h2 c hc
    exact of_decide_eq_true (List.all_eq_true.mp abc_small c (of_decide_eq_true this))
  unfold PyData.strOk
  rw [← Array.all_toList]
  refine List.all_eq_true.mpr fun c hc => decide_eq_true ?_
  have := small c hc
  omega

/-! ### heaps that grew -/
theorem same_new {H : Hp} {p : Addr} {o : HO} (h : H p = none) : Same H (upd H p o) := fun b x e => by
  rw [upd_ne (ne_of_none e h)]
  exact e
theorem Same.up {H H1 : Hp} {p : Addr} {o : HO} (s : Same H H1) (h : H p = none) : Same H (upd H1 p o) := fun b x e => by
  rw [upd_ne (ne_of_none e h)]
  exact s b x e
theorem Same.tup {K : PySem.W.Frag} {H H' : Hp} {a : Addr} {xs : List V} (e : Same H H') (h : SqT K H a xs) : SqT K H' a xs := by
  rcases h with (h | ⟨o, h⟩) | h
  · exact .inl (.inl (e _ _ h))
  · exact .inl (.inr ⟨o, e _ _ h⟩)
  · exact .inr h
/-- a list or a tuple -/
def Sq (K : PySem.W.Frag) (H : Hp) (a : Addr) (xs : List V) : Prop := SqL K H a xs ∨ SqT K H a xs
theorem Same.sq {K : PySem.W.Frag} {H H' : Hp} {a : Addr} {xs : List V} (e : Same H H') (h : Sq K H a xs) : Sq K H' a xs := h.imp e.seq (Same.tup e)
/-- all of H stands, and a list of xs stands at D -/
def Grow (H : Hp) (D : Addr) (xs : List V) (H' : Hp) : Prop := Same H H' ∧ H' D = some (.lst xs)
theorem grow0 {H : Hp} {D : Addr} (n : H D = none) : Grow H D [] (upd H D (.lst [])) := ⟨same_new n, upd_same⟩
/-- one more item in a comprehension's list -/
theorem grow1 {H H4 : Hp} {D : Addr} {acc acc' : List V} {y : V} (n : H D = none) (g : Grow H D acc H4) (l : acc.length < sizeLine) (e : acc' = acc ++ [y]) :
    ∃ acc, H4 D = some (.lst acc) ∧ acc.length < sizeLine ∧ Grow H D acc' (upd H4 D (.lst (acc ++ [y]))) := ⟨acc, g.2, l, Same.up g.1 n, by rw [upd_same, e]⟩
theorem Grow.more {H H1 H2 : Hp} {D : Addr} {xs : List V} (g : Grow H D xs H1) (s : Same H1 H2) : Grow H D xs H2 := ⟨g.1.trans s, s _ _ g.2⟩
theorem take_next {α β : Type} {f : α → β} {l : List α} {i : Nat} {x : α} (h : l[i]? = some x) : (l.map f).take (i + 1) = (l.map f).take i ++ [f x] := by
  rw [List.take_add_one, List.getElem?_map, h]
  rfl
theorem take_next1 {α : Type} {l : List α} {i : Nat} {x : α} (h : l[i]? = some x) : l.take (i + 1) = l.take i ++ [x] := by
  rw [List.take_add_one, h]
  rfl
theorem at_map {α β : Type} {f : α → β} {l : List α} {i : Nat} {y : β} (h : (l.map f)[i]? = some y) : ∃ x, l[i]? = some x ∧ y = f x := by
  rw [List.getElem?_map] at h
  cases q : l[i]? with
  | none =>
    rw [q] at h
    cases h
  | some x =>
    rw [q] at h
    exact ⟨x, rfl, (Option.some.inj h).symm⟩

/-! ### texts as data -/
theorem flat_strs (zs : List Str) : (zs.map V.str).all flatV = true := by
  rw [List.all_map]
  exact List.all_eq_true.mpr fun _ _ => rfl
theorem inV_str (z : Str) : ∀ zs : List Str, inV (.str z) (zs.map V.str) = decide (z ∈ zs)
  | [] => rfl
  | y :: r => by
    have ih := inV_str z r
    unfold inV at ih ⊢
    rw [List.map_cons, List.any_cons, ih]
    show ((y == z) || decide (z ∈ r)) = decide (z ∈ y :: r)
    by_cases e : y = z
    · subst e
      simp
    · have e1 : (y == z) = false := beq_eq_false_iff_ne.mpr e
      rw [e1]
      simp [Ne.symm e]
theorem eqvAll_strs : ∀ zs ws : List Str, PyData.eqvAll (zs.map PyData.str) (ws.map PyData.str) = decide (zs = ws)
  | [], [] => by simp [PyData.eqvAll]
  | [], _ :: _ => by simp [PyData.eqvAll]
  | _ :: _, [] => by simp [PyData.eqvAll]
  | z :: r, y :: q => by
    simp only [List.map_cons, PyData.eqvAll, PyData.eqv, eqvAll_strs r q]
    by_cases h : z = y <;> simp [h]
theorem canLay_strs : ∀ zs : List Str, (∀ z ∈ zs, PyData.strOk z = true) → PyData.canLayAll0 (zs.map PyData.str) = true
  | [], _ => by simp [PyData.canLayAll0]
  | z :: r, h => by simp [PyData.canLayAll0, PyData.canLay0, h z List.mem_cons_self, canLay_strs r fun y hy => h y (List.mem_cons_of_mem _ hy)]
theorem depth_strs : ∀ zs : List Str, PyData.depthAll (zs.map PyData.str) ≤ 1
  | [] => by simp [PyData.depthAll]
  | z :: r => by
    have := depth_strs r
    simp only [List.map_cons, PyData.depthAll, PyData.depth]
    omega
theorem shaped_strsL {zs : List Str} (h : ∀ z ∈ zs, PyData.strOk z = true) : SeqAt.shaped (.list (zs.map PyData.str)) = true := by
  have h1 := depth_strs zs
  have h2 : PyData.depth (.list (zs.map PyData.str)) ≤ 64 := by simp only [PyData.depth]; omega
  show (PyData.canLay0 _ && decide _) = true
  rw [Bool.and_eq_true]
  exact ⟨by simp only [PyData.canLay0]; exact canLay_strs zs h, decide_eq_true h2⟩
theorem shaped_strsT {zs : List Str} (h : ∀ z ∈ zs, PyData.strOk z = true) : SeqAt.shaped (.tuple (zs.map PyData.str)) = true := by
  have h1 := depth_strs zs
  have h2 : PyData.depth (.tuple (zs.map PyData.str)) ≤ 64 := by simp only [PyData.depth]; omega
  show (PyData.canLay0 _ && decide _) = true
  rw [Bool.and_eq_true]
  exact ⟨by simp only [PyData.canLay0]; exact canLay_strs zs h, decide_eq_true h2⟩
theorem dp_strs {K : PySem.W.Frag} {H : Hp} : ∀ zs : List Str, DpAll K H (zs.map V.str) (zs.map PyData.str)
  | [] => .nil
  | z :: r => .cons (.str z) (dp_strs r)
end Lk
set_option Elab.async false
set_option linter.all false
set_option maxRecDepth 100000
set_option maxHeartbeats 2000000
/-! Generators that hand out fresh tuples, walked by a comprehension. -/
namespace LkG
open PySem PySem.Spec PyProof.Rows L2 TxS LkO Lk GenW
open Sem (wp)

/-! ### trees without a call -/
def Calm {α : Type} : Sem α → Prop
  | .pure _ => True
  | .raise _ => True
  | .unsupported _ => True
  | .finish _ => True
  | .rule _ k => Calm (k ())
  | .at _ k => Calm (k ())
  | .load _ _ k => ∀ o, Calm (k o)
  | .update _ _ _ k => Calm (k ())
  | .loadIfAlive _ k => ∀ o, Calm (k o)
  | .point _ k => Calm (k ())
  | .register _ _ => True
  | .alloc _ k => ∀ a, Calm (k a)
  | .fresh k => ∀ t, Calm (k t)
  | .ask k => ∀ x, Calm (k x)
  | .choose _ _ k => ∀ n, Calm (k n)
  | .os _ _ k => ∀ r, Calm (k r)
  | .handled _ k => ∀ r, Calm (k r)
  | .genState _ k => ∀ r, Calm (k r)
  | .stack k => ∀ r, Calm (k r)
  | .thread k => ∀ r, Calm (k r)
  | .fork _ _ => True
  | .await _ _ _ _ _ => True
  | .yield _ _ _ _ => True
  | .call _ _ _ _ _ => False
  | .newGen _ _ => False
  | .resume _ _ _ _ => False
/-- such a tree has one end -/
theorem wp_both {α : Type} (M : Model) (Γ : PySem.Ctx) (t : Sem α) : ∀ (Q Q' : α → Pos → Shared → Prop) (E E' : Value → Pos → Shared → Prop) (p : Pos) (s : Shared), Calm t → wp M Γ t Q E p s → wp M Γ t Q' E' p s →
    wp M Γ t (fun a p' s' => Q a p' s' ∧ Q' a p' s') (fun e p' s' => E e p' s' ∧ E' e p' s') p s := by
  induction t with
  | pure a => intro Q Q' E E' p s _ h h'; exact ⟨h, h'⟩
  | raise e => intro Q Q' E E' p s _ h h'; exact ⟨h, h'⟩
  | unsupported _ => intro Q Q' E E' p s _ h _; exact h
  | finish _ => intro Q Q' E E' p s _ h _; exact h
  | rule _ k ih => intro Q Q' E E' p s c h h'; exact ih () Q Q' E E' p s c h h'
  | «at» p' k ih => intro Q Q' E E' p s c h h'; exact ih () Q Q' E E' p' s c h h'
  | load a _ k ih =>
    intro Q Q' E E' p s c h h'
    obtain ⟨o, ho, h⟩ := h
    obtain ⟨o', ho', h'⟩ := h'
    rw [ho] at ho'
    cases ho'
    exact ⟨o, ho, ih o Q Q' E E' p s (c o) h h'⟩
  | update a _ f k ih => intro Q Q' E E' p s c h h'; exact ⟨h.1, ih () Q Q' E E' p _ c h.2 h'.2⟩
  | loadIfAlive a k ih => intro Q Q' E E' p s c h h'; exact ih _ Q Q' E E' p s (c _) h h'
  | point _ k ih => intro Q Q' E E' p s c h h'; exact ih () Q Q' E E' p s c h h'
  | register _ _ => intro Q Q' E E' p s _ h _; exact h
  | alloc o k ih => intro Q Q' E E' p s c h h'; exact ih _ Q Q' E E' p _ (c _) h h'
  | fresh k ih => intro Q Q' E E' p s c h h'; exact ih _ Q Q' E E' p _ (c _) h h'
  | ask k ih => intro Q Q' E E' p s c h h'; exact ih _ Q Q' E E' p s (c _) h h'
  | choose src m k ih => intro Q Q' E E' p s c h h'; exact ⟨h.1, ih _ Q Q' E E' p _ (c _) h.2 h'.2⟩
  | os q _ k ih => intro Q Q' E E' p s c h h'; exact ih _ Q Q' E E' p _ (c _) h h'
  | call _ _ _ _ _ _ => intro Q Q' E E' p s c _ _; exact c.elim
  | handled own k ih => intro Q Q' E E' p s c h h'; exact ih _ Q Q' E E' p s (c _) h h'
  | genState g k ih =>
    intro Q Q' E E' p s c h h'
    obtain ⟨o, ho, h⟩ := h
    obtain ⟨o', ho', h'⟩ := h'
    rw [ho] at ho'
    cases ho'
    exact ⟨o, ho, ih _ Q Q' E E' p s (c _) h h'⟩
  | newGen _ _ _ => intro Q Q' E E' p s c _ _; exact c.elim
  | resume _ _ _ _ _ => intro Q Q' E E' p s c _ _; exact c.elim
  | yield _ _ _ _ => intro Q Q' E E' p s _ h _; exact h
  | stack k ih => intro Q Q' E E' p s c h h'; exact ih _ Q Q' E E' p s (c _) h h'
  | fork _ _ => intro Q Q' E E' p s _ h _; exact h
  | thread k ih => intro Q Q' E E' p s c h h'; exact ih _ Q Q' E E' p s (c _) h h'
  | await _ _ _ _ _ => intro Q Q' E E' p s _ h _; exact h
theorem wpAny_both {α : Type} {M : Model} {A : Around} {t : Sem α} {Q Q' : α → Shared → Prop} {E E' : Value → Shared → Prop} {s : Shared} (c : Calm t) (h : wpAny M A t Q E s) (h' : wpAny M A t Q' E' s) :
    wpAny M A t (fun a s' => Q a s' ∧ Q' a s') (fun e s' => E e s' ∧ E' e s') s := fun Γ p hΓ => wp_both M Γ t _ _ _ _ p s c (h Γ p hΓ) (h' Γ p hΓ)
theorem calm_nsSet (a : Addr) (name : Str) (v : Value) : Calm (nsSet a name v) := by
  unfold nsSet
  intro x t o
  show Calm (match o.data with | .dict es _ => _ | _ => _)
  split
  · show Calm (if _ then _ else _)
    split
    · trivial
    · trivial
  · trivial
end LkG
set_option Elab.async false
set_option linter.all false
set_option maxRecDepth 100000
set_option maxHeartbeats 2000000
namespace LkG
open PySem PySem.Spec PyProof.Rows L2 TxS LkO Lk GenW
open Sem (wp)
/-- nothing but tokens moved -/
structure Qt (s s' : Shared) : Prop where
  gens : s'.gens = s.gens
  heap : s'.heap = s.heap
theorem Qt.refl (s : Shared) : Qt s s := ⟨rfl, rfl⟩
theorem Qt.trans {s s1 s2 : Shared} (a : Qt s s1) (b : Qt s1 s2) : Qt s s2 := ⟨b.gens.trans a.gens, b.heap.trans a.heap⟩
theorem thq {α : Type} {M : Model} {A : Around} {E : Value → Shared → Prop} {t : Sem α} {Q Q' : α → Shared → Prop} {s : Shared} (h : wpAny M A t Q (fun _ _ => False) s) (k : ∀ a s', Q a s' → Q' a s') : wpAny M A t Q' E s :=
  wpAny_mono h k fun _ _ z => z.elim
/-- an expression that only reads -/
structure QE (X : Cx) (e : Expr) (t : TE) : Prop where
  run : ∀ (pins : List (Addr × Obj)) (s : Shared) (σ : L2.St) (H : Hp) (Q : VK), Inv X pins σ H s → t σ H Q → wpAny (model X.prog X.w) X.A (eval e X.env) (fun u s' => EP X pins σ Q u s' ∧ Qt s s') (fun _ _ => False) s
/-- a test that only reads -/
structure QT (X : Cx) (e : Expr) (t : TT) : Prop where
  run : ∀ (pins : List (Addr × Obj)) (s : Shared) (σ : L2.St) (H : Hp) (Q : Bool → Hp → Prop), Inv X pins σ H s → t σ H Q → wpAny (model X.prog X.w) X.A (isTrue e X.env (eval e X.env)) (fun b s' => TP X pins σ Q b s' ∧ Qt s s') (fun _ _ => False) s
section
variable {X : Cx} {pos : Pos}
theorem qe_var {i : Nat} {x : Str} (hN : X.N[i]? = some x) (vis : Vis X.env.scope x) (nd : (x == ("__debug__" : Str)) = false := by decide) (nc : (x == ("__classdict__" : Str)) = false := by decide) : QE X (.Name x pos) (tVar i) := by
  refine ⟨fun pins s σ H Q I ⟨v, e, q⟩ => ?_⟩
  obtain ⟨m, ns, look⟩ := I.loc
  obtain ⟨u, ru, l⟩ := look i x v hN e vis
  have done : EP X pins σ Q u s ∧ Qt s s := ⟨⟨v, H, I, ru, q⟩, Qt.refl s⟩
  rcases l with ⟨kd, at_⟩ | ⟨kd | kd, c, hc, cell⟩
  · exact wpAny_Name (wpAny_loadName_local I.ok.kind kd ns at_ done) nd
  · exact wpAny_Name (wpAny_loadName_cell I.ok.kind kd hc cell done) nd
  · exact wpAny_Name (wpAny_loadName_free I.ok.kind kd hc cell done nc) nd
theorem qe_fld {e : Expr} {f : Str} {ta : TE} (he : QE X e ta) (hb : attributeBase e f X.env (eval e X.env) = eval e X.env) : QE X (.Attribute e f pos) (tFld X.K ta f) := by
  refine ⟨fun pins s σ H Q I h => attr_of hb (thq (he.run pins s σ H _ I h) fun u s1 z => ?_)⟩
  obtain ⟨⟨x, H1, I1, rx, a, C, dx, fs, v, rfl, ea, c, n, l, q⟩, k1⟩ := z
  obtain rfl : u = Value.ref a := rx
  obtain ⟨mA, ob, rel, _⟩ := ins_get I1.hok ea
  obtain ⟨y, hy, ry⟩ := RelO.some_of (v := v) (o := mA f) (by rw [← l]; exact rel f)
  exact get_map I1.kIn ob (c.get f) c.hd n hy (handed_of ry) ⟨⟨v, H1, I1.tok _, ry, q⟩, k1.trans ⟨rfl, rfl⟩⟩
/-- x in a list of texts -/
def rInL (K : PySem.W.Frag) (neg : Bool) : R2 := fun x y H Q => ∃ p xs, y = .ref p ∧ SqL K H p xs ∧ flatV x = true ∧ xs.all flatV = true ∧ Q (.bl (if neg then !inV x xs else inV x xs)) H
theorem qt_in {a b : Expr} {ta tb : TE} (ha : QE X a ta) (hb : QE X b tb) (hm : behindInMarks .In b = false) : QT X (.Compare a [.In] [b] pos) (tTest (tOp (rInL X.K false) ta tb)) := by
  refine ⟨fun pins s σ H Q I h => wpAny_isTrue_Compare1 (thq (ha.run pins s σ H _ I h) fun v s1 ⟨⟨x, H1, I1, rx, q1⟩, k1⟩ => thq (hb.run pins s1 σ H1 _ I1 q1) fun u s2 ⟨⟨y, H2, I2, ry, q2⟩, k2⟩ => ?_) hm⟩
  obtain ⟨p, xs, rfl, hp, fx, fs, k, e, q⟩ := q2
  cases ry
  obtain ⟨its, r, pl, _⟩ := I2.list hp
  refine SeqAt.in_listAt (eqU x) pl.isList (fun w hw => mem_eqAt rx fx r fs w (by simpa using hw)) ?_
  have e1 : its.toArray.any (eqU x) = inV x xs := by
    rw [show its.toArray.any (eqU x) = its.any (eqU x) from by simp, any_eqU r fs]
    rfl
  rw [e1]
  injection e with e2
  rw [show inV x xs = k from e2]
  exact wpAny_truthy_bool ⟨⟨H2, I2, q⟩, k1.trans k2⟩
theorem qt_notIn {a b : Expr} {ta tb : TE} (ha : QE X a ta) (hb : QE X b tb) (hm : behindInMarks .NotIn b = false) : QT X (.Compare a [.NotIn] [b] pos) (tTest (tOp (rInL X.K true) ta tb)) := by
  refine ⟨fun pins s σ H Q I h => wpAny_isTrue_Compare1 (thq (ha.run pins s σ H _ I h) fun v s1 ⟨⟨x, H1, I1, rx, q1⟩, k1⟩ => thq (hb.run pins s1 σ H1 _ I1 q1) fun u s2 ⟨⟨y, H2, I2, ry, q2⟩, k2⟩ => ?_) hm⟩
  obtain ⟨p, xs, rfl, hp, fx, fs, k, e, q⟩ := q2
  cases ry
  obtain ⟨its, r, pl, _⟩ := I2.list hp
  refine SeqAt.notIn_listAt (eqU x) pl.isList (fun w hw => mem_eqAt rx fx r fs w (by simpa using hw)) ?_
  have e1 : its.toArray.any (eqU x) = inV x xs := by
    rw [show its.toArray.any (eqU x) = its.any (eqU x) from by simp, any_eqU r fs]
    rfl
  rw [e1]
  injection e with e2
  rw [show (!inV x xs) = k from e2]
  exact wpAny_truthy_bool ⟨⟨H2, I2, q⟩, k1.trans k2⟩
theorem qt_val {e : Expr} {t : TE} (h : QE X e t) (he : ∀ whole, isTrue e X.env whole = (do let v ← whole; standAt e.pos; holding [v] (truthy v)) := by intro _; rfl) : QT X e (tTest t) := by
  refine ⟨fun pins s σ H Q I z => isTrue_plain (thq (h.run pins s σ H _ I z) fun v s1 ⟨⟨x, H1, I1, rx, k, e, q⟩, k1⟩ => ?_) (he _)⟩
  subst e
  cases rx
  exact wpAny_truthy_bool ⟨⟨H1, I1, q⟩, k1⟩
theorem qt_and {a b : Expr} {ta tb : TT} (ha : QT X a ta) (hb : QT X b tb) : QT X (.BoolOp .And [a, b] pos) (tAnd ta tb) := by
  refine ⟨fun pins s σ H Q I h => isTrue_and (thq (ha.run pins s σ H _ I h) fun c s1 ⟨⟨H1, I1, q1⟩, k1⟩ => ?_)⟩
  cases c with
  | false => exact ⟨⟨H1, I1, q1⟩, k1⟩
  | true =>
    refine isTrue_and (thq (hb.run pins s1 σ H1 _ I1 q1) fun d s2 ⟨z, k2⟩ => ?_)
    cases d with
    | false => exact ⟨z, k1.trans k2⟩
    | true => exact isTrue_and_nil ⟨z, k1.trans k2⟩
/-- a pair of two such values: one new tuple -/
theorem run_pair {a b : Expr} {x1 : Nat} {ta tb : TE} {pins : List (Addr × Obj)} {s : Shared} {σ : L2.St} {H : Hp} {x y : V} (ha : QE X a ta) (hb : QE X b tb) (hs : starEach [a, b] X.env = [(false, eval a X.env), (false, eval b X.env)]) (I : Inv X pins σ H s)
    (h : ta σ H fun x' H1 => x' = x ∧ tb σ H1 fun y' _ => y' = y) : wpAny (model X.prog X.w) X.A (eval (.Tuple [a, b] x1 pos) X.env)
      (fun u s' => u = .ref s.heap.objs.size ∧ s'.gens = s.gens ∧ s'.os = s.os ∧ (∃ o, s'.heap = s.heap.push o) ∧ ∃ ua ub, RelV x ua ∧ RelV y ub ∧ IsTup s'.heap s.heap.objs.size #[ua, ub]) (fun _ _ => False) s := by
  refine wpAny_Tuple_spliced ?_
  rw [hs]
  show wpAny _ _ (spliced ((false, eval a X.env) :: _)) _ _ s
  refine Calls.spliced_cons (thq (ha.run pins s σ H _ I h) fun u s1 ⟨⟨x', H1, I1, rx, ex, q1⟩, k1⟩ => ?_)
  subst ex
  refine Calls.spliced_cons (thq (hb.run pins s1 σ H1 _ I1 q1) fun u2 s2 ⟨⟨y', H2, I2, ry, ey⟩, k2⟩ => ?_)
  subst ey
  have k := k1.trans k2
  refine Calls.spliced_nil ⟨by show 2 ≤ sizeLine; rw [sizeLine_eq]; decide, ?_⟩
  rw [k.heap]
  exact ⟨rfl, k.gens, I2.os.trans I.os.symm, ⟨_, rfl⟩, u, u2, rx, ry, ⟨_, Heap.get?_push_size _ rfl, rfl, _, rfl⟩⟩
/-- a name of the block is stored -/
theorem store_q {M : Model} {A : Around} {E : Value → Shared → Prop} {pins : List (Addr × Obj)} {s : Shared} {σ : L2.St} {H : Hp} {i : Nat} {x : Str} {v : V} {u : Value} {Q : Unit → Shared → Prop} (I : Inv X pins σ H s) (hN : X.N.Nodup) (hi : X.N[i]? = some x) (kd : X.env.kindOf x = some .local) (lo : X.env.scope.names.lookup x = some .local) (r : RelV v u)
    (q : ∀ s', Inv X pins (σ.set i (some v)) H s' → s'.gens = s.gens → Heap.SameBut X.env.locals s.heap s'.heap → Q () s') : wpAny M A (storeName X.env x u) Q E s := by
  obtain ⟨m, ns, _⟩ := id I.loc
  have pl : (X.env.scope.kind == .class || (X.env.scope.kind == .module && X.env.locals != X.env.globals)) = false := by rw [I.ok.kind]; rfl
  have cm : Calm (storeName X.env x u) := by
    rw [storeName_local kd pl]
    exact calm_nsSet _ _ _
  have h1 : wpAny M A (storeName X.env x u) (fun _ s' => Inv X pins (σ.set i (some v)) H s') (fun _ _ => False) s := store_ok2 I hN hi (.inl lo) r (fun s' J _ => J) (.inr lo)
  have h2 : wpAny M A (storeName X.env x u) (fun _ s' => s'.gens = s.gens ∧ Heap.SameBut X.env.locals s.heap s'.heap) (fun _ _ => False) s := wpAny_storeName_local kd ns (fun h' _ sb => ⟨rfl, sb⟩) pl
  exact wpAny_mono (wpAny_both cm h1 h2) (fun _ s' z => q s' z.1 z.2.1 z.2.2) fun _ _ z => z.1.elim
end

/-! ### a generator that hands out fresh pairs -/
/-- all that stood at s1 stands, but for the names of the frame at L -/
structure Woke (L : Addr) (s1 s2 : Shared) : Prop where
  os : s2.os = s1.os
  bare : AllBare s2.gens
  keep : ∀ b o, b ≠ L → s1.heap.get? b = some o → s2.heap.get? b = some o
  ns : ∃ o, s2.heap.get? L = some o ∧ ∀ vs, o.data ≠ .fields vs
def YT (L : Addr) (s1 : Shared) (outs : List (V × V)) : Protocol := fun n s₀ v s kap => (s.os = s₀.os ∧ s.gens = s₀.gens ∧ (∃ o, s.heap = s₀.heap.push o) ∧ v = .ref s₀.heap.objs.size) ∧
  (∃ x y ua ub, n < outs.length ∧ outs[outs.length - 1 - n]? = some (x, y) ∧ RelV x ua ∧ RelV y ub ∧ IsTup s.heap s₀.heap.objs.size #[ua, ub]) ∧ ∀ s', Woke L s1 s' → kap (.send .none) s'
def FT (n : Nat) (s₀ s : Shared) : Prop := n = 0 ∧ s.os = s₀.os ∧ s.gens = s₀.gens ∧ s.heap = s₀.heap
def RT : GenEnd := fun n s₀ r s => ((r = .ok (.ret .none) ∨ r = .ok .next) ∧ FT n s₀ s) ∨ ∃ e, r = .error e ∧ (fun _ _ => False) e s
/-- woken at s₀, nothing moved since -/
structure Fine (L : Addr) (s1 s₀ s : Shared) : Prop where
  wk : Woke L s1 s
  os : s.os = s₀.os
  gens : s.gens = s₀.gens
  heap : s.heap = s₀.heap
/-- the same frame, seen from another beginning -/
abbrev at0 (X : Cx) (s0 : Shared) : Cx := { X with s_0 := s0 }
theorem frames_at {h h' base : Heap} {L : Addr} {o : Obj} (hs : Heap.SameBut L h h') (ho : h'.get? L = some o) (hd : ∀ vs, o.data ≠ .fields vs) : ∀ {l : List Env}, h.FunFrames base l → h'.FunFrames base l
  | [], _ => trivial
  | _ :: _, ⟨hk, ⟨L', o1, hf, hb, h1, hd1⟩, hr⟩ => by
    refine ⟨hk, ?_, frames_at hs ho hd hr⟩
    by_cases q : L' = L
    · exact ⟨L', o, hf, hb, by rw [q]; exact ho, hd⟩
    · exact ⟨L', o1, hf, hb, (hs.2 L' q).trans h1, hd1⟩
theorem inv_shift {X : Cx} {σ : L2.St} {H : Hp} {s1 s3 : Shared} {L : Addr} (I : Inv X [] σ H s1) (hpn : X.pn = []) (hH : X.H_0 = H) (hL : L ∈ X.fs) (hc : ∀ x c, X.env.cells.lookup x = some c → c ≠ L) (k0 : ∀ b o, X.s_0.heap.get? b = some o → s1.heap.get? b = some o) (wk : Woke L s1 s3) :
    ∃ s0, Inv (at0 X s0) [] σ H s3 := by
  obtain ⟨bn, o0, ho0, _⟩ := I.ok.funs.mem hL
  obtain ⟨o, ho, hd⟩ := wk.ns
  have fo : o.isFreed = false := (Heap.get?_some_iff.mp ho).2
  have sb : Heap.SameBut L X.s_0.heap (X.s_0.heap.update L fun _ => o) := Heap.SameBut.update _ _ _
  have hU : (X.s_0.heap.update L fun _ => o).get? L = some o := Heap.get?_update_self _ ho0 fo
  have HL : H L = none := by rw [← hH]; exact I.ok.frf L hL
  have lt : L < X.s_0.heap.objs.size := Heap.lt_size ho0
  have nl : X.env.locals ≠ L := Nat.ne_of_gt (Nat.lt_of_lt_of_le lt I.ok.above)
  have nit : ∀ b u, H b = some u → b ≠ L := fun b u e z => by rw [z, HL] at e; cases e
  refine ⟨{ X.s_0 with heap := X.s_0.heap.update L fun _ => o }, ⟨I.ok.mod, I.ok.kind, I.ok.glob, I.ok.blt, ?_, I.ok.inj, I.ok.has, ?_, I.ok.hd, I.ok.frames, I.ok.stk, I.ok.exf, ?_, ?_, I.ok.noex, I.ok.exfs, frames_at sb hU hd I.ok.funs, I.ok.frf⟩, wk.os.trans I.os, wk.bare, ?_, ?_, ?_, I.free, I.freeC, ?_, ?_, I.len⟩
  · show (X.s_0.heap.update L fun _ => o).objs.size ≤ _
    rw [sb.1]
    exact I.ok.above
  · intro x c h1 h2
    show (X.s_0.heap.update L fun _ => o).objs.size ≤ _
    rw [sb.1]
    exact I.ok.cab x c h1 h2
  · intro b u e
    obtain ⟨h1, h2⟩ := I.ok.bs b u e
    have nb : b ≠ L := fun z => by rw [z, bn] at e; cases e
    exact ⟨(sb.2 b nb).trans h1, h2⟩
  · show _ ≤ (X.s_0.heap.update L fun _ => o).objs.size
    rw [sb.1]
    exact I.ok.bsz
  · show Un X.fs X.ex X.H_0 H (X.s_0.heap.update L fun _ => o) s3.heap
    rw [hH]
    refine Un.kept fun b u e => ?_
    by_cases q : b = L
    · subst q
      rw [hU] at e
      cases e
      exact ho
    · rw [sb.2 b q] at e
      exact wk.keep b u q (k0 b u e)
  · obtain ⟨m, ⟨oL, es, ep, hoL, r⟩, look⟩ := I.loc
    refine ⟨m, ⟨oL, es, ep, wk.keep _ _ nl hoL, r⟩, fun i x v h1 h2 h3 => ?_⟩
    obtain ⟨u, ru, l⟩ := look i x v h1 h2 h3
    refine ⟨u, ru, l.imp id fun ⟨kd, c, h4, oc, hoc, hdc⟩ => ⟨kd, c, h4, oc, wk.keep _ _ (hc x c h4) hoc, hdc⟩⟩
  · intro x c e
    obtain ⟨v, oc, hoc, hdc⟩ := I.cell x c e
    exact ⟨v, oc, wk.keep _ _ (hc x c e) hoc, hdc⟩
  · intro p hp
    rw [show (at0 X _).pn = [] from hpn] at hp
    simp at hp
  · intro b u e
    refine (I.hok b u e).stay (fun c v hc q => wk.keep c v ?_ q) (fun _ q => q) fun _ _ q => q
    rcases hc with z | z
    · rw [z]; exact nit b u e
    · exact nit c _ z
section
variable {X : Cx} {A : Around} {L : Addr} {s1 : Shared} {all : List (V × V)} {σ : L2.St} {H : Hp} {c : Code}
/-- statements of the body: outs is still to come, outs' behind them -/
def GQ (X : Cx) (A : Around) (L : Addr) (s1 : Shared) (all : List (V × V)) (c : Code) (t : Sem Flow) (outs outs' : List (V × V)) : Prop :=
  ∀ (K : Flow → Sem PySem.Fin) (J : Value → Sem PySem.Fin) (s₀ s : Shared), Fine L s1 s₀ s → (∀ s₀ s, Fine L s1 s₀ s → Seg (model X.prog X.w) A RT (YT L s1 all) outs'.length s₀ c (K .next) [] s) →
    Seg (model X.prog X.w) A RT (YT L s1 all) outs.length s₀ c (t.wrap K J id id) [] s
theorem gq_nil {outs : List (V × V)} : GQ X A L s1 all c (execs [] X.env) outs outs := fun K J s₀ s h k => seg_execs_nil (k s₀ s h)
theorem gq_cons {st : Stmt} {rest : List Stmt} {o o1 o2 : List (V × V)} (a : GQ X A L s1 all c (exec st X.env) o o1) (b : GQ X A L s1 all c (execs rest X.env) o1 o2) : GQ X A L s1 all c (execs (st :: rest) X.env) o o2 :=
  fun K J s₀ s h k => seg_execs_cons (a _ J s₀ s h fun s₀' s' h' => b K J s₀' s' h' k)
theorem gq_yield {a b : Expr} {x1 : Nat} {p yp ep : Pos} {ta tb : TE} {x y : V} {outs : List (V × V)} (ov : A.over c [] = X.A) (hI : ∀ s2, Woke L s1 s2 → ∃ s0, Inv (at0 X s0) [] σ H s2) (ha : ∀ s0, QE (at0 X s0) a ta) (hb : ∀ s0, QE (at0 X s0) b tb) (h : ta σ H fun x' H1 => x' = x ∧ tb σ H1 fun y' _ => y' = y)
    (suf : ∃ pre, all = pre ++ (x, y) :: outs) (hs : starEach [a, b] X.env = [(false, eval a X.env), (false, eval b X.env)] := by rfl) (hco : X.env.scope.isCoroutine = false := by rfl) (hi : interactive X.env = false := by rfl) :
    GQ X A L s1 all c (exec (.Expr (.Yield (some (.Tuple [a, b] x1 p)) yp) ep) X.env) ((x, y) :: outs) outs := by
  intro K J s₀ s f k
  refine seg_Expr_Yield rfl rfl rfl ?_ hco hi
  rw [ov]
  obtain ⟨s0, I0⟩ := hI s f.wk
  refine thq (run_pair (X := at0 X s0) (ha s0) (hb s0) hs I0 h) fun u s' z => ?_
  obtain ⟨rfl, hg, ho, hp, ua, ub, ra, rb, ht⟩ := z
  intro kap hk
  obtain ⟨pre, e⟩ := suf
  rw [f.heap] at hp ht
  refine ⟨⟨ho.trans f.os, hg.trans f.gens, hp, by rw [f.heap]⟩, ⟨x, y, ua, ub, ?_, ?_, ra, rb, ht⟩, fun s'' wk => hk .none s'' (k s'' s'' ⟨wk, rfl, rfl, rfl⟩)⟩
  · rw [e, List.length_append, List.length_cons]
    omega
  · rw [e, List.length_append, List.length_cons, show pre.length + (outs.length + 1) - 1 - outs.length = pre.length from by omega, List.getElem?_append_right (Nat.le_refl _), Nat.sub_self]
    rfl
theorem gq_if {test : Expr} {body orelse : List Stmt} {p : Pos} {tc : TT} {d : Bool} {outs outs' : List (V × V)} (ov : A.over c [] = X.A) (hI : ∀ s2, Woke L s1 s2 → ∃ s0, Inv (at0 X s0) [] σ H s2) (ht : ∀ s0, QT (at0 X s0) test tc) (h : tc σ H fun d' _ => d' = d)
    (hb : GQ X A L s1 all c (execs (if d = true then body else orelse) X.env) outs outs') : GQ X A L s1 all c (exec (.If test body orelse p) X.env) outs outs' := by
  intro K J s₀ s f k
  rw [exec_If]
  refine seg_bind_wrap (wpAny_standAt ?_)
  refine seg_bind_wrap ?_
  rw [ov]
  obtain ⟨s0, I0⟩ := hI s f.wk
  refine thq ((ht s0).run [] s σ H _ I0 h) fun b s' ⟨⟨H', I', e⟩, q⟩ => ?_
  subst e
  have f' : Fine L s1 s₀ s' := ⟨⟨(I'.os.trans I0.os.symm).trans f.wk.os, I'.bare, fun b o n e => by rw [q.heap]; exact f.wk.keep b o n e, by rw [q.heap]; exact f.wk.ns⟩, (I'.os.trans I0.os.symm).trans f.os, q.gens.trans f.gens, q.heap.trans f.heap⟩
  cases b with
  | true => exact hb K J s₀ s' f' k
  | false => exact hb K J s₀ s' f' k
end
end LkG
set_option Elab.async false
set_option linter.all false
set_option maxRecDepth 100000
set_option maxHeartbeats 2000000
namespace LkG
open PySem PySem.Spec PyProof.Rows L2 TxS LkO Lk GenW
open Sem (wp)
/-- a generator of these pairs that has not begun -/
def GT (P : Program) (w : World) (k : Nat) (outer : List Env) (outs : List (V × V)) (s : Shared) (u : Value) (s' : Shared) : Prop :=
  ∃ (a : Addr) (g : Nat) (c : Code), u = .ref a ∧ a < s'.heap.objs.size ∧ s'.heap.IsGen a g ∧ s'.gens[g]? = some (.fresh c) ∧ s'.os = s.os ∧ AllBare s'.gens ∧ (∀ b o, s.heap.get? b = some o → s'.heap.get? b = some o) ∧
    ∀ (A : Around) (L : Addr) (s2 : Shared), L ∈ frs outer → Room k A → A.frames = some outer → Woke L s' s2 → Seg (model P w) A RT (YT L s' outs) outs.length s2 c ((model P w).den c) [] s2
section
variable {P : Program} {w : World} {K : PySem.W.Frag} {mg : Str → Option Value} {base : Heap} {k : Nat} {f : Addr} {name qual : Str} {params : Arguments} {body : List Stmt} {scope : Scope} {dV kV doc pm cdv ct oc : Value} {an od : Option Addr}
  {osl : Array (Option Value)} {N ps : List Str}
/-- the call, by the body -/
theorem call_gt {A : Around} {outer : List Env} {s : Shared} {H : Hp} {args : Args} {us : List Value} {vs : List V} {outs : List (V × V)} (lk : K.lookup f = some ⟨oc, od, .func (PySem.W.fnOf name qual params body scope dV kV doc pm an cdv ct), osl⟩) (hcd : PySem.W.codeIn K cdv qual = true)
    (S : GScope N ps scope) (hr : Room (k + 1) A) (e0 : Env0 P w K mg base A outer s H) (hb : BindsTo s (PySem.W.fnOf name qual params body scope dV kV doc pm an cdv ct) args (ps.zip us)) (hl : vs.length = ps.length) (r : Vals vs us)
    (hq : ∀ (A2 : Around) (L : Addr) (s1 : Shared), Room k (A2.deeper (envOfC qual scope s.heap.objs.size f cdv)) → (∀ s2, Woke L s1 s2 → ∃ s0, Inv (at0 (gcxOf P w K mg base N qual scope f cdv A2 outer s H E0 []) s0) [] (start N vs) H s2) →
      GQ (gcxOf P w K mg base N qual scope f cdv A2 outer s H E0 []) A2 L s1 outs (.func body (envOfC qual scope s.heap.objs.size f cdv)) (execs body (envOfC qual scope s.heap.objs.size f cdv)) outs []) :
    codeAny (model P w) A (.call (.ref f) args) (fun r s' => match r with | .ok (.ret u) => GT P w (k + 1) outer outs s u s' | _ => False) s := by
  have KX : K.In s.heap := e0.mod.kin.keeps fun b o e => (e0.bs b o e).1
  have lim : s.heap.NoLimit := e0.mod.nolimit.keeps fun b o e => (e0.bs b o e).1
  have kinds : ∀ y ∈ ps.zip us, scope.names.lookup y.1 = some .local ∨ (scope.names.lookup y.1 = some .cell ∧ ((cellsFrom (s.heap.objs.size + 1) scope.names []).lookup y.1).isSome = true) := fun ⟨n, v⟩ hy =>
    (S.par n (List.of_mem_zip hy).1).imp id fun q => ⟨q, PySem.W.cellsFrom_some _ _ _ (.inl q)⟩
  refine codeAny_call_generator hr.depth (KX _ _ lk) rfl S.co S.gen rfl (PySem.W.codeRec_of KX hcd) (hb _ _ _ _ ?_)
  refine wpAny_newFunctionEnv_cells S.kind kinds fun env he s1 x => ?_
  subst he
  refine ⟨lim.keeps x.toInCall.keep, ?_⟩
  obtain ⟨h1, tk, es, hk⟩ := x.done
  have os1 : s1.os = s.os := by rw [es]
  have gn1 : s1.gens = s.gens := by rw [es]
  generalize ego : ({ cls := .type "generator", data := .fields #[.int s1.gens.size 0, .str name s1.toks, .str qual (s1.toks + 1)] } : Obj) = go
  have gAt : (s1.heap.push go).get? s1.heap.objs.size = some go := by
    rw [← ego]
    exact Heap.get?_push_size _ rfl
  have up : ∀ b o, s1.heap.get? b = some o → (s1.heap.push go).get? b = some o := fun b o e => Heap.get?_push_of_some _ e
  refine ⟨s1.heap.objs.size, s1.gens.size, _, rfl, ?_, ⟨go, _, _, gAt, by rw [← ego], by rw [← ego], by rw [← ego]⟩, Array.getElem?_push_size .., os1, AllBare.push (by rw [gn1]; exact e0.bare) rfl, fun b o e => up b o (x.toInCall.keep b o e), ?_⟩
  · show _ < (s1.heap.push _).objs.size
    rw [Heap.size_push]
    exact Nat.lt_succ_self _
  intro A2 L s2 hL hr2 hf2 wk
  have e2 : Env0 P w K mg base A2 outer s H := ⟨hf2, e0.mod, e0.bs, e0.bsz, e0.funs, e0.frf, e0.hok, e0.bare⟩
  have I1 : Inv (gcxOf P w K mg base N qual scope f cdv A2 outer s H E0 []) [] (start N vs) H s1 := inv_startG S hr2.hd e2 hl r x
  have lt : L < s.heap.objs.size := by
    obtain ⟨_, o0, ho0, _⟩ := e0.funs.mem hL
    exact Heap.lt_size ho0
  have hI : ∀ s3, Woke L { s1 with gens := s1.gens.push (.fresh (.func body (envOfC qual scope s.heap.objs.size f cdv))), toks := s1.toks + 1 + 1, heap := s1.heap.push go } s3 → ∃ s0, Inv (at0 (gcxOf P w K mg base N qual scope f cdv A2 outer s H E0 []) s0) [] (start N vs) H s3 := fun s3 z => by
    refine inv_shift (s1 := s1) I1 rfl rfl hL (fun n c h => ?_) (fun b o e => x.toInCall.keep b o e) ⟨z.os, z.bare, fun b o n e => z.keep b o n (up b o e), z.ns⟩
    have := x.above n c (PySem.mem_of_lookup h)
    exact Nat.ne_of_gt (Nat.lt_trans lt this)
  refine seg_func ?_
  have q := hq A2 L _ (hr2.deeper _) hI
  refine q (fun f => .pure (.done (.ret (match f with | .ret v => v | _ => .none)))) _ s2 s2 ⟨wk, rfl, rfl, rfl⟩ fun s₀ s3 f3 => ?_
  exact seg_end (.ok (.ret .none)) (.inl ⟨.inl rfl, rfl, f3.os, f3.gens, f3.heap⟩)
end

/-- an expression whose value is such a generator -/
abbrev TGT := L2.St → Hp → (List (V × V) → Hp → Prop) → Prop
structure PGT (X : Cx) (k : Nat) (e : Expr) (tg : TGT) : Prop where
  run : ∀ (pins : List (Addr × Obj)) (s : Shared) (σ : L2.St) (H : Hp) (q : List (V × V) → Hp → Prop), Inv X pins σ H s → tg σ H q → wpAny (model X.prog X.w) X.A (eval e X.env)
    (fun u s' => ∃ H1 sc outs, Inv X pins σ H1 sc ∧ GT X.prog X.w k X.stack outs sc u s' ∧ q outs H1) X.xe s
/-- the def's promise: the arguments, the heap, the pairs -/
abbrev SpT := List V → Hp → List (V × V) → Prop
structure GFt (P : Program) (w : World) (K : PySem.W.Frag) (mg : Str → Option Value) (base : Heap) (k : Nat) (f : Addr) (fd : FuncData) (ps : List Str) (sp : SpT) : Prop where
  len : ∀ vs H outs, sp vs H outs → vs.length = ps.length
  run : ∀ (A : Around) (outer : List Env) (s : Shared) (H : Hp) (args : Args) (us : List Value) (vs : List V) (outs : List (V × V)), Room k A → Env0 P w K mg base A outer s H → BindsTo s fd args (ps.zip us) → Vals vs us → sp vs H outs →
    codeAny (model P w) A (.call (.ref f) args) (fun r s' => match r with | .ok (.ret u) => GT P w k outer outs s u s' | _ => False) s
section
variable {X : Cx} {k : Nat} {f C : Addr} {fd : FuncData} {ps : List Str} {sp : SpT} {o : Expr} {ta : TE} {m : Str} {apos cpos : Pos}
def tMethT (C : Addr) (m : Str) (sp : SpT) (ta : TE) : TGT := fun σ H q => ta σ H fun x H1 => ∃ a dx fs outs, x = .ref a ∧ H1 a = some (.ins C dx fs) ∧ fs.lookup m = none ∧ sp [x] H1 outs ∧ q outs H1
theorem pgt_meth0 {pl : Sem Bool} (he : PE X o ta) (c : Cls X.K C) (hm : Meth X.K C m f) (F : GFt X.prog X.w X.K X.mg X.base k f fd ps sp) (hr : Room k X.A) (hb : Binds X.K fd ps [])
    (ht : eval (.Call (.Attribute o m apos) [] [] cpos) X.env = (do
      let ov ← eval o X.env
      standAt apos.atName
      let (f, first) ← holding [ov] (getMethod ov m pl)
      callWith cpos f first (backTo cpos (starEach [] X.env)) (backToKw cpos (keywordEach [] X.env))) := by rfl) :
    PGT X k (.Call (.Attribute o m apos) [] [] cpos) (tMethT C m sp ta) := by
  refine ⟨fun pins s σ H q I h => PySem.W.methodCall_KW (pl := pl) (thn (he.run pins s σ H _ I h) fun u s1 z => ?_) ht⟩
  obtain ⟨x, H1, I1, rx, a, dx, fs, outs, rfl, ea, l, hs, hq⟩ := z
  obtain rfl : u = Value.ref a := rx
  refine getmeth_ok I1 ea c hm l (PySem.W.callWith_K0 (first := [.ref a]) I1.kIn hm.kp ?_)
  have r2 : Vals [V.ref a] [Value.ref a] := .cons rfl .nil
  have l2 : ([Value.ref a] : List Value).length = ps.length := by rw [← r2.length]; exact F.len _ _ _ hs
  refine wpAny_call (codeAny_mono (F.run X.A X.stack s1 H1 ⟨[.ref a], []⟩ [.ref a] [.ref a] outs hr I1.env0 (by simpa using hb s1 [.ref a] I1.kIn (by simpa using l2)) r2 hs) fun r s2 z => ?_)
  cases r with
  | error e => exact z.elim
  | ok fl =>
    cases fl with
    | ret u => exact ⟨H1, s1, outs, I1, z, hq⟩
    | next => exact z.elim
    | brk => exact z.elim
    | cont => exact z.elim
end
end LkG
set_option Elab.async false
set_option linter.all false
set_option maxRecDepth 100000
set_option maxHeartbeats 4000000
namespace LkG
open PySem PySem.Spec PyProof.Rows L2 TxS LkO Lk GenW
open Sem (wp)
theorem gens_set {s s1 : Shared} {g : Nat} {x y : GenState} (e : s1.gens = (s.setGen g x).gens) (h : g < s.gens.size) : (s1.setGen g y).gens[g]? = some y :=
  setGen_at (by rw [e, show (s.setGen g x).gens.size = s.gens.size from setGen_size s g x]; exact h)
/-- for x, y in a generator of pairs: if test: return e -/
def tForG (tg : TGT) (ix iy : Nat) (tt : TT) (te : TE) : TS := fun D σ H => tg σ H fun outs H1 => ∃ W : Nat → L2.St → Hp → Prop, W 0 σ H1 ∧ (∀ σ2 H2, W outs.length σ2 H2 → D.nx σ2 H2) ∧
  ∀ i x y σ2 H2 p, outs[i]? = some (x, y) → W i σ2 H2 → H2 p = none → tt ((σ2.set ix (some x)).set iy (some y)) (upd H2 p (.tup [x, y])) fun b H3 => if b = true then
    te ((σ2.set ix (some x)).set iy (some y)) H3 D.rt else W (i + 1) ((σ2.set ix (some x)).set iy (some y)) H3
theorem ps_forG {X : Cx} {iter test e : Expr} {x y : Str} {px py tp pos ip rp : Pos} {kk ix iy k : Nat} {tg : TGT} {tt : TT} {te : TE} (hc : X.calm = true) (hN : X.N.Nodup) (hr : Room (k + 1) X.A) (hst : X.env.locals ∈ frs X.stack) (hi : PGT X k iter tg)
    (hx : X.N[ix]? = some x) (hy : X.N[iy]? = some y) (lx : X.env.scope.names.lookup x = some .local) (ly : X.env.scope.names.lookup y = some .local) (ht : QT X test tt) (he : QE X e te) (hs : ∀ x, foldedSetIterable iter X.env x = pure x := by intro _; rfl) :
    PS X (.For (.Tuple [.Name x px, .Name y py] kk tp) iter [.If test [.Return (some e) rp] [] ip] [] pos) (tForG tg ix iy tt te) := by
  refine ⟨fun pins s σ H D I h => ?_⟩
  refine wpAny_For (thn (hi.run pins s σ H _ I h) fun u s1 z => ?_) hs
  obtain ⟨H1, sc, outs, Ic, ⟨a, g, c, rfl, ha, hg, hgs, hos, hba, hkp, wake⟩, W, w0, wEnd, turn⟩ := z
  refine wpAny_pyIter_gen hg ?_
  have I1 : Inv X pins σ H1 s1 := Ic.call' (ch := []) hos (Un.kept hkp) (Ic.hok.kept hkp) hba fun b hb => by simp at hb
  have kdx : X.env.kindOf x = some .local := lx
  have kdy : X.env.kindOf y = some .local := ly
  have frm : X.A.in1.frames = some X.stack := I.ok.frames
  have nsOf : ∀ {σ' : L2.St} {H' : Hp} {s' : Shared}, Inv X pins σ' H' s' → ∃ o, s'.heap.get? X.env.locals = some o ∧ ∀ vs, o.data ≠ .fields vs := fun {σ' H' s'} I' => by
    obtain ⟨m, ⟨o, es, ep, ho, hd, _⟩, _⟩ := I'.loc
    exact ⟨o, ho, fun vs z => by rw [hd] at z; cases z⟩
  have nea : a ≠ X.env.locals := fun z => by
    obtain ⟨o, ho, hd⟩ := nsOf I1
    obtain ⟨og, _, _, hog, _, hod, _⟩ := hg
    rw [z, ho] at hog
    cases hog
    exact hd _ hod
  have genAt : ∀ {s' : Shared}, Woke X.env.locals s1 s' → s'.heap.IsGen a g := fun {s'} wk => by
    obtain ⟨og, n1, q1, hog, r⟩ := hg
    exact ⟨og, n1, q1, wk.keep a og nea hog, r⟩
  refine codeAny_forLoop_any (fun n s' => ∃ i σ' H', n + i = outs.length ∧ Inv X pins σ' H' s' ∧ Woke X.env.locals s1 s' ∧ (∃ gs, s'.gens[g]? = some gs ∧ gs.Goes (model X.prog X.w) X.A.in1 RT (YT X.env.locals s1 outs) n (.send .none) (s'.setGen g .running)) ∧ W i σ' H') ?_ outs.length ?_
  · rintro n s5 ⟨i, σ5, H5, hni, I5, wk5, ⟨gs, hgs5, go5⟩, w5⟩
    have hg5 := genAt wk5
    have hgl : g < s5.gens.size := (Array.getElem?_eq_some_iff.mp hgs5).1
    refine next_genG (F := FT) (Er := fun _ _ => False) (hr.hd) I5.nolimit hr.depth hg5 hgs5 go5 (fun v s6 gs' hbare hv => ?_) (fun s6 hf h' hk => ?_) fun e s6 z => z.elim
    · obtain ⟨⟨os6, gn6, ⟨ob, hp6⟩, rfl⟩, ⟨x0, y0, ua, ub, hlt, hat, ra, rb, htup⟩, kap⟩ := hv
      have hp6 : s6.heap = s5.heap.push ob := hp6
      have htup : IsTup s6.heap s5.heap.objs.size #[ua, ub] := htup
      obtain ⟨n, rfl⟩ : ∃ m, n = m + 1 := by
        cases n with
        | zero => exact absurd (kap { s5 with gens := #[] } ⟨wk5.os, fun _ hh => by simp at hh, wk5.keep, wk5.ns⟩) (fun z => z)
        | succ m => exact ⟨m, rfl⟩
      have ei : outs.length - 1 - (n + 1 - 1) = i := by omega
      rw [ei] at hat
      have k56 : ∀ b o, s5.heap.get? b = some o → s6.heap.get? b = some o := fun b o e => by rw [hp6]; exact Heap.get?_push_of_some _ e
      have np : H5 s5.heap.objs.size = none := I5.hok.fresh (Nat.le_refl _)
      have bare6 : AllBare (s6.setGen g gs').gens := allBare_setGen (by rw [gn6]; exact allBare_setGen wk5.bare rfl) hbare
      have I6 : Inv X pins σ5 (upd H5 s5.heap.objs.size (.tup [x0, y0])) (s6.setGen g gs') := by
        refine I5.call' (s' := s6.setGen g gs') (ch := []) os6 (Un.laid k56 (Nat.le_refl _) np) (I5.hok.laid k56 (Nat.le_refl _) ⟨?_, [ua, ub], .cons ra (.cons rb .nil), htup⟩) bare6 fun b hb => by simp at hb
        show 2 ≤ sizeLine
        rw [sizeLine_eq]
        decide
      have at6 : (s6.setGen g gs').gens[g]? = some gs' := gens_set gn6 hgl
      generalize es7 : s6.setGen g gs' = s7 at I6 at6 bare6
      have h7 : s7.heap = s6.heap := by rw [← es7]; rfl
      have wk7 : Woke X.env.locals s1 s7 := ⟨by rw [← es7]; exact os6.trans wk5.os, bare6, fun b o n e => by rw [h7]; exact k56 b o (wk5.keep b o n e), nsOf I6⟩
      obtain ⟨og, _, _, hog, hoc, hod, _⟩ := genAt wk7
      show wpAny _ _ (letOwnedTupleGo (.Tuple [.Name x px, .Name y py] kk tp) (.ref a) (.ref s5.heap.objs.size)) _ _ s7
      refine go_of hog hoc hod (by decide) ?_
      have ht7 : IsTup s7.heap s5.heap.objs.size #[ua, ub] := by rw [h7]; exact htup
      refine assign_Tuple_tuple (I6.ok.hd hc) ht7 rfl rfl fun h' hx8 => ?_
      have I8 : Inv X pins σ5 (upd H5 s5.heap.objs.size (.tup [x0, y0])) { s7 with heap := h' } := I6.kept (t' := s7.toks) fun b o e => hx8 b o (Nat.ne_of_lt (Heap.lt_size e)) e
      show wpAny _ _ (assignInOrder [assign (.Name x px) X.env, assign (.Name y py) X.env] [ua, ub]) _ _ _
      refine assignInOrder_cons (wpAny_assign_Name (store_q (X := X) I8 hN hx kdx lx ra fun s9 I9 gn9 sb9 => ?_))
      refine assignInOrder_cons (wpAny_assign_Name (store_q (X := X) I9 hN hy kdy ly rb fun s10 I10 gn10 sb10 => ?_))
      refine assignInOrder_nil ?_
      have gn : s10.gens = s7.gens := gn10.trans gn9
      have kp10 : ∀ b o, b ≠ X.env.locals → s1.heap.get? b = some o → s10.heap.get? b = some o := fun b o n e => by
        have e7 := wk7.keep b o n e
        exact (sb10.2 b n).trans ((sb9.2 b n).trans (hx8 b o (Nat.ne_of_lt (Heap.lt_size e7)) e7))
      refine wpAny_execs_cons (wpAny_If (thq (ht.run pins s10 _ _ _ I10 (turn i x0 y0 σ5 H5 s5.heap.objs.size hat w5 np)) fun b s11 ⟨⟨H11, I11, q11⟩, k11⟩ => ?_))
      cases b with
      | true =>
        refine wpAny_execs_cons (wpAny_Return_some (thq (he.run pins s11 _ _ _ I11 q11) fun zv s12 ⟨⟨z, H12, I12, rz, q12⟩, k12⟩ => ?_))
        exact ⟨z, _, H12, I12, rz, q12⟩
      | false =>
        refine wpAny_execs_nil (wpAny_execs_nil ?_)
        have os' : s11.os = s1.os := by
          have e1 : s11.os = X.s_0.os := I11.os
          have e2 : s1.os = X.s_0.os := I1.os
          rw [e1, e2]
        have gn11 : s11.gens = s7.gens := k11.gens.trans gn
        have kp11 : ∀ b o, b ≠ X.env.locals → s1.heap.get? b = some o → s11.heap.get? b = some o := fun b o n e => by rw [k11.heap]; exact kp10 b o n e
        refine ⟨n, Nat.lt_succ_self n, i + 1, _, H11, by omega, I11, ⟨os', I11.bare, kp11, nsOf I11⟩, ⟨gs', by rw [gn11]; exact at6, ?_⟩, q11⟩
        exact kap (s11.setGen g .running) ⟨os', allBare_setGen I11.bare rfl, kp11, by have z := nsOf I11; exact z⟩
    · obtain ⟨rfl, os6, gn6, hp6⟩ := hf
      have hp6 : s6.heap = s5.heap := hp6
      have ei : i = outs.length := by omega
      subst ei
      have k5 : ∀ b o, s5.heap.get? b = some o → h'.get? b = some o := fun b o e => hk b o (by rw [hp6]; exact e)
      have I6 : Inv X pins σ5 H5 { s6.setGen g .finished with heap := h' } := I5.call' (s' := { s6.setGen g .finished with heap := h' }) (ch := []) os6 (Un.kept k5) (I5.hok.kept k5) (allBare_setGen (by rw [gn6]; exact allBare_setGen wk5.bare rfl) rfl) fun b hb => by simp at hb
      exact wpAny_execs_nil ⟨σ5, H5, I6, wEnd σ5 H5 w5⟩
  · have wk1 : Woke X.env.locals s1 s1 := ⟨rfl, hba, fun _ _ _ e => e, nsOf I1⟩
    refine ⟨0, σ, H1, rfl, I1, wk1, ⟨.fresh c, hgs, rfl, ?_⟩, w0⟩
    refine wake X.A.in1 X.env.locals (s1.setGen g .running) hst hr.in1 frm ⟨rfl, allBare_setGen hba rfl, fun _ _ _ e => e, by have z := nsOf I1; exact z⟩
end LkG
set_option Elab.async false
set_option linter.all false
namespace Lk
open PySem PySem.Spec PyProof.Rows L2
def top (i : Nat) : Stmt := PySem.Challenge.pw_lockdoors_k35_by_hand.main.body.getD i (.Pass ⟨0, 0, 0, 0⟩)
abbrev s__wall : Stmt := top 0
abbrev s_is_name : Stmt := top 4
abbrev s_are_names : Stmt := top 5
abbrev s_all_in : Stmt := top 6
abbrev c_LockError : Stmt := top 8
abbrev c_BadLocks : Stmt := top 9
abbrev c_BadDoor : Stmt := top 10
abbrev c_BadPerson : Stmt := top 11
abbrev c_BadBuilding : Stmt := top 12
abbrev s_BadBuilding___init__ : Stmt := inClass c_BadBuilding 0
abbrev c_BadName : Stmt := top 13
abbrev c_BadTrail : Stmt := top 14
abbrev c_BadDoubt : Stmt := top 15
abbrev s_check_other : Stmt := top 17
abbrev c_Locks : Stmt := top 18
abbrev s_Locks___init__ : Stmt := inClass c_Locks 0
abbrev s_Locks___eq__ : Stmt := inClass c_Locks 1
abbrev s_Locks___or__ : Stmt := inClass c_Locks 2
abbrev s_Locks___and__ : Stmt := inClass c_Locks 3
abbrev s_Locks___sub__ : Stmt := inClass c_Locks 4
abbrev s_Locks___contains__ : Stmt := inClass c_Locks 5
abbrev s_Locks___len__ : Stmt := inClass c_Locks 6
abbrev s_Locks_names : Stmt := inClass c_Locks 7
abbrev s_Locks_holds : Stmt := inClass c_Locks 8
abbrev s_is_cost : Stmt := top 26
abbrev c_Door : Stmt := top 27
abbrev s_Door___init__ : Stmt := inClass c_Door 0
abbrev s_Door_start : Stmt := inClass c_Door 1
abbrev s_Door_end : Stmt := inClass c_Door 2
abbrev s_Door_key : Stmt := inClass c_Door 3
abbrev s_Door_both : Stmt := inClass c_Door 4
abbrev s_Door_cost : Stmt := inClass c_Door 5
abbrev s_Door_ways : Stmt := inClass c_Door 6
abbrev s_Door___eq__ : Stmt := inClass c_Door 7
abbrev c_Person : Stmt := top 28
abbrev s_Person___init__ : Stmt := inClass c_Person 0
abbrev s_Person_start : Stmt := inClass c_Person 1
abbrev s_Person_carried : Stmt := inClass c_Person 2
abbrev s_Person_needs : Stmt := inClass c_Person 3
abbrev s_Person_shuns : Stmt := inClass c_Person 4
abbrev s_Person___eq__ : Stmt := inClass c_Person 5
abbrev s_is_table : Stmt := top 29
abbrev s_are_rooms : Stmt := top 30
abbrev s_is_key : Stmt := top 31
abbrev s_are_keys : Stmt := top 32
abbrev s_fits_door : Stmt := top 33
abbrev s_fits_person : Stmt := top 34
abbrev s_are_doors : Stmt := top 35
abbrev s_are_people : Stmt := top 36
abbrev c_Building : Stmt := top 37
abbrev s_Building___init__ : Stmt := inClass c_Building 0
abbrev s_Building_rooms : Stmt := inClass c_Building 1
abbrev s_Building_key_rooms : Stmt := inClass c_Building 2
abbrev s_Building_doors : Stmt := inClass c_Building 3
abbrev s_Building_people : Stmt := inClass c_Building 4
abbrev s_Building_door : Stmt := inClass c_Building 5
abbrev s_Building_person : Stmt := inClass c_Building 6
abbrev s_Building_reach : Stmt := inClass c_Building 7
abbrev s_Building_price : Stmt := inClass c_Building 8
abbrev s_Building_is_right : Stmt := inClass c_Building 9
abbrev s_Building___eq__ : Stmt := inClass c_Building 10
abbrev s_check_building : Stmt := top 38
abbrev s_check_locks : Stmt := top 39
abbrev s_are_doors_of : Stmt := top 40
abbrev s_check_trail : Stmt := top 41
abbrev s_keys_held : Stmt := top 42
abbrev s_lets_through : Stmt := top 43
abbrev s_room_added : Stmt := top 44
abbrev s_rooms_beyond : Stmt := top 45
abbrev s_suits : Stmt := top 46
abbrev s_rooms_of : Stmt := top 50
abbrev s_is_trail : Stmt := top 51
abbrev s_is_complete : Stmt := top 52
abbrev s_first_step : Stmt := top 53
abbrev s_trail_of : Stmt := top 54
abbrev s_trail_into : Stmt := top 55
abbrev s_has_doubt_form : Stmt := top 56
abbrev s_check_doubt : Stmt := top 57
abbrev s_leads_to_shunned : Stmt := top 58
abbrev s_shuts_out : Stmt := top 59
abbrev s_is_doubt : Stmt := top 60
abbrev s_strikes : Stmt := top 61
abbrev s_rules_out : Stmt := top 62
abbrev s_is_struck : Stmt := top 63
abbrev s_locks_at : Stmt := top 64
abbrev s_sets_by_price : Stmt := top 65
abbrev s_doubt_about : Stmt := top 66
abbrev s_cheapest : Stmt := top 67
abbrev s_are_doubts : Stmt := top 68
abbrev c_Locking : Stmt := top 69
abbrev s_Locking___init__ : Stmt := inClass c_Locking 0
abbrev s_Locking___eq__ : Stmt := inClass c_Locking 1
abbrev s_Locking_shows : Stmt := inClass c_Locking 2
abbrev c_NoLocking : Stmt := top 70
abbrev s_NoLocking___init__ : Stmt := inClass c_NoLocking 0
abbrev s_NoLocking___eq__ : Stmt := inClass c_NoLocking 1
abbrev s_NoLocking_shows : Stmt := inClass c_NoLocking 2
abbrev s__law_house : Stmt := top 72
abbrev s__law_reaches_right : Stmt := top 73
abbrev s__law_trails_right : Stmt := top 74
abbrev s__law_doubts_right : Stmt := top 75
abbrev s__law_cheapest_right : Stmt := top 76
abbrev s__law_answers_right : Stmt := top 77
abbrev s_law : Stmt := top 78
end Lk
set_option Elab.async false
set_option linter.all false
set_option maxRecDepth 100000
set_option maxHeartbeats 2000000
namespace Lk
open PySem PySem.Spec PyProof.Rows L2 TxS LkO
/-- the names of the module that are built-ins still -/
structure Blt (mg : Str → Option Value) : Prop where
  len : mg "len" = none
  isi : mg "isinstance" = none
  str : mg "str" = none
  all : mg "all" = none
  set : mg "set" = none
  srt : mg "sorted" = none
  tup : mg "tuple" = none
  lst : mg "list" = none
  bl : mg "bool" = none
  rng : mg "range" = none
  max : mg "max" = none
  min : mg "min" = none
  any : mg "any" = none
  sum : mg "sum" = none
  int : mg "int" = none
  dct : mg "dict" = none
structure Cst (mg : Str → Option Value) : Prop where
  abc : ∃ t, mg "LETTERS" = some (.str abc t)
  top : ∃ t, mg "LONGEST" = some (.int 8 t)

section
variable {P : Program} {w : World} {K : PySem.W.Frag} {mg : Str → Option Value} {base : Heap}
/-! ### is_name -/
def spName : Sp := fun vs H Q _ => ∃ z : Str, vs = [.str z] ∧ z.length ≤ sizeLine ∧ ∀ H', Same H H' → Q (.bl (isNm z)) H'
theorem scName : FnScope ["value", "letter"] ["value"] (defScope s_is_name) := ⟨rfl, rfl, rfl, by decide +kernel, rfl, by decide +kernel, by decide +kernel⟩
theorem ok_name {f : Addr} {fd : FuncData} {k : Nat} (F : Fun K "is_name" "is_name" s_is_name f fd) (B : Blt mg) (G : Cst mg) : FnOk P w K mg base CX0 (k + 1) f fd ["value"] spName := by
  obtain ⟨ta, eA⟩ := G.abc
  obtain ⟨tl, eL⟩ := G.top
  refine F.ok scName (fun vs H Q E h => ?_) (fun cdv A outer s H vs Q E hr h => ?_)
  · obtain ⟨z, rfl, _⟩ := h
    rfl
  · obtain ⟨z, rfl, hz, q⟩ := h
    refine ⟨_, pss_one (ps_ret (pe_and (pe_callB call_isi (by rfl) B.isi PyProof.Rows.boot_isinstance (pa_cons (pv 0) (pa_cons (pe_bltn (v := .ty "str") (by rfl) B.str PyProof.Rows.boot_str rfl) pa_nil)))
      (pe_and (pe_chain op_le op_le pe_int (pe_callB call_len_str (by rfl) B.len PySem.boot_len (pa_cons (pv 0) pa_nil)) (pe_glob (v := .int 8) (by rfl) eL ⟨_, rfl⟩))
      (pe_one (pe_callB (cr_all rfl) (by rfl) B.all PyProof.Rows.boot_all (pa_cons (pe_lc (own := [("letter", 1)]) (g := gName 1) (tt := tYes) rfl scName.nd (pi_str (pv 0)) (blkOk_by (N := ["value", "letter"]) (sc := defScope s_is_name) (by decide +kernel))
        (fun _ _ _ _ _ => pg_name (i := 1) scName.nd rfl (Or.inl rfl)) (fun _ _ _ _ _ => pts_nil) (fun _ _ _ _ _ => pe_cmpR op_in_sign (pv 1) (pe_glob (v := .str abc) (by rfl) eA ⟨_, rfl⟩) rfl)) pa_nil)))))), ?_⟩
    refine ⟨.str z, rfl, .str z, .ty "str", _, _, true, rfl, .ty _, .base (.str z), kit_ty (by decide +kernel), true, rfl, iteT ?_⟩
    refine ⟨.str z, rfl, z, rfl, hz, 1, _, rfl, rfl, _, rfl, ite2 (fun e1 => ?_) (fun e1 => ?_)⟩
    · refine ⟨_, _, rfl, rfl, _, rfl, ite2 (fun e2 => ?_) (fun e2 => ?_)⟩
      · have e3 : isNm z = (z.cps.toList.map fun c => decide (c ∈ abc.cps.toList)).all id := by
          unfold isNm lettersOk
          have a1 := of_decide_eq_true e1
          have a2 := of_decide_eq_true e2
          rw [decide_eq_true (show 1 ≤ z.length by omega), decide_eq_true (show z.length ≤ 8 by omega), List.all_map]
          rfl
        have szl : z.cps.size = z.length := rfl
        refine ⟨.str z, rfl, z, rfl, fun D nD => lc_it (walk_str (z := z)) (fun i H' => Grow H D ((z.cps.toList.map fun c => V.bl (decide (c ∈ abc.cps.toList))).take i) H')
          (grow0 nD) (fun _ _ _ _ => trivial) (fun i x H2 H3 hi hP hY => ?_) (fun H2 hP => ?_)⟩
        · obtain ⟨rfl, c, hc, rfl⟩ := hY
          have hc' : z.cps.toList[i]? = some c := by rw [Array.getElem?_toList]; exact hc
          refine ⟨rfl, .str ⟨#[c]⟩, rfl, c, abc, rfl, rfl, grow1 nD hP ?_ (take_next hc')⟩
          rw [List.length_take, List.length_map, Array.length_toList]
          omega
        · obtain ⟨sm, hD⟩ := hP
          rw [List.take_of_length_le (by rw [List.length_map, Array.length_toList]; exact Nat.le_refl _)] at hD
          refine ⟨D, z.cps.toList.map fun c => decide (c ∈ abc.cps.toList), rfl, .inl (.inl (by rw [List.map_map]; exact hD)), ?_⟩
          rw [← e3]
          exact q _ sm
      · have e3 : isNm z = false := by
          unfold isNm
          rw [decide_eq_false (show ¬ z.length ≤ 8 from fun u => e2 (decide_eq_true (by omega)))]
          simp
        rw [e3] at q
        exact q _ (Same.refl H)
    · have e3 : isNm z = false := by
        unfold isNm
        rw [decide_eq_false (show ¬ 1 ≤ z.length from fun u => e1 (decide_eq_true (by omega)))]
        simp
      rw [e3] at q
      exact ⟨false, rfl, iteF (q _ (Same.refl H))⟩
/-! ### all_in -/
def spAllIn (K : PySem.W.Frag) : Sp := fun vs H Q _ => ∃ (a b : Addr) (zs ws : List Str), vs = [.ref a, .ref b] ∧ zs.length ≤ 1000 ∧ SqT K H a (zs.map V.str) ∧ Sq K H b (ws.map V.str) ∧ ∀ H', Same H H' → Q (.bl (zs.all fun z => decide (z ∈ ws))) H'
theorem scAllIn : FnScope ["names", "known", "name"] ["names", "known"] (defScope s_all_in) := ⟨rfl, rfl, rfl, by decide +kernel, rfl, by decide +kernel, by decide +kernel⟩
theorem ok_allIn {f : Addr} {fd : FuncData} {k : Nat} (F : Fun K "all_in" "all_in" s_all_in f fd) (B : Blt mg) : FnOk P w K mg base CX0 (k + 1) f fd ["names", "known"] (spAllIn K) := by
  refine F.ok scAllIn (fun vs H Q E h => ?_) (fun cdv A outer s H vs Q E hr h => ?_)
  · obtain ⟨a, b, zs, ws, rfl, _⟩ := h
    rfl
  · obtain ⟨a, b, zs, ws, rfl, len, ha, hb, q⟩ := h
    refine ⟨_, pss_one (ps_ret (pe_callB (cr_all rfl) (by rfl) B.all PyProof.Rows.boot_all (pa_cons (pe_lc (own := [("name", 2)]) (g := gName 2) (tt := tYes) rfl scAllIn.nd (pi_tup (pv 0))
      (blkOk_by (N := ["names", "known", "name"]) (sc := defScope s_all_in) (by decide +kernel)) (fun _ _ _ _ _ => pg_name (i := 2) scAllIn.nd rfl (Or.inl rfl)) (fun _ _ _ _ _ => pts_nil) (fun _ _ _ _ _ => pe_cmpR (r := rIn K false) op_in_seq (pv 2) (pv 1) rfl)) pa_nil))), ?_⟩
    refine ⟨.ref a, rfl, a, rfl, ⟨_, ha⟩, fun D nD => lc_it (walk_tup (xs := zs.map V.str)) (fun i H' => Grow H D ((zs.map fun z => V.bl (decide (z ∈ ws))).take i) H')
      (grow0 nD) (fun i H' _ hP => Same.tup hP.1 ha) (fun i x H2 H3 hi hP hY => ?_) (fun H2 hP => ?_)⟩
    · obtain ⟨rfl, hx⟩ := hY
      obtain ⟨z, hz, rfl⟩ := at_map hx
      refine ⟨rfl, .str z, rfl, .ref b, rfl, b, _, rfl, Same.sq hP.1 hb, rfl, flat_strs ws, grow1 nD hP ?_ ?_⟩
      · rw [List.length_take, List.length_map]
        exact Nat.lt_of_le_of_lt (Nat.min_le_right _ _) (small1000 len)
      · rw [take_next hz, inV_str]
        rfl
    · obtain ⟨sm, hD⟩ := hP
      rw [List.length_map, List.take_of_length_le (by rw [List.length_map]; exact Nat.le_refl _)] at hD
      refine ⟨D, zs.map fun z => decide (z ∈ ws), rfl, .inl (.inl (by rw [List.map_map]; exact hD)), ?_⟩
      rw [List.all_map]
      exact q _ sm
end
/-- the class Locks as the top has made it -/
structure LkC (K : PySem.W.Frag) (mg : Str → Option Value) (C : Addr) : Prop where
  cl : Cls K C
  mgC : mg "Locks" = some (.ref C)
  nK : NoAttr K C "kept_names"
  tyc : PySem.W.findIn K (.ref C) "__class__" = some (some (.builtin "object.__class__"))
  tyg : PySem.W.specialIn K (.builtin "object.__class__") "__get__" = some (some (.builtin "getset_descriptor.__get__"))
  tyt : PySem.W.takesIn K (.builtin "object.__class__") = some true
  tym : PySem.W.mroIn K C (.type "object") = some true
  kit : PySem.W.kitOne K (.ref C) (.ref C) = some true
  sf : PySem.W.selfFirst K C = true
  nb : PySem.W.findIn K (.ref C) "__bool__" = some none
/-- a Locks at a with these names -/
structure LkAt (C : Addr) (H : Hp) (a : Addr) (zs : List Str) : Prop where
  ob : ∃ dx t, H a = some (.ins C dx [("kept_names", .ref t)]) ∧ H t = some (.tup (zs.map V.str))
  asc : Asc zs
  nm : ∀ z ∈ zs, isNm z = true
theorem LkAt.same {C : Addr} {H H' : Hp} {a : Addr} {zs : List Str} (h : LkAt C H a zs) (s : Same H H') : LkAt C H' a zs := by
  obtain ⟨⟨dx, t, h1, h2⟩, h3, h4⟩ := h
  exact ⟨⟨dx, t, s _ _ h1, s _ _ h2⟩, h3, h4⟩
section
variable {P : Program} {w : World} {K : PySem.W.Frag} {mg : Str → Option Value} {base : Heap} {C : Addr}
/-! ### check_other -/
def spCheck (C : Addr) : Sp := fun vs H Q _ => ∃ (a dx : Addr) (fs : List (Str × V)), vs = [.ref a] ∧ H a = some (.ins C dx fs) ∧ Q .non H
theorem scCheck : FnScope ["other"] ["other"] (defScope s_check_other) := ⟨rfl, rfl, rfl, by decide +kernel, rfl, by decide +kernel, by decide +kernel⟩
theorem ok_check {f : Addr} {fd : FuncData} {k : Nat} (F : Fun K "check_other" "check_other" s_check_other f fd) (B : Blt mg) (T : LkC K mg C) : FnOk P w K mg base CX0 (k + 1) f fd ["other"] (spCheck C) := by
  refine F.ok scCheck (fun vs H Q E h => ?_) (fun cdv A outer s H vs Q E hr h => ?_)
  · obtain ⟨a, dx, fs, rfl, _⟩ := h
    rfl
  · obtain ⟨a, dx, fs, rfl, ha, q⟩ := h
    refine ⟨_, pss_one (ps_if (pt_not (pt_val (pe_callB call_isi (by rfl) B.isi PyProof.Rows.boot_isinstance (pa_cons (pv 0) (pa_cons (pe_glob (v := .ref C) (by rfl) T.mgC rfl) pa_nil))))) (pss_one ps_never) pss_nil), ?_⟩
    exact ⟨.ref a, rfl, .ref a, .ref C, _, _, true, rfl, .own C, .base (.ins ha T.cl T.tyc T.tyg T.tyt T.tym), T.kit, true, rfl, iteF q⟩
/-! ### Locks.__init__ -/
def spIn (K : PySem.W.Frag) (C : Addr) : Sp := fun vs H Q _ => ∃ (x dx p : Addr) (zs : List Str), vs = [.ref x, .ref p] ∧ H x = some (.ins C dx []) ∧ SqT K H p (zs.map V.str) ∧ (∀ z ∈ zs, isNm z = true) ∧ zs.length < 64 ∧
  ∀ H' t, (∀ b o, H b = some o → b ≠ x → H' b = some o) → H' x = some (.ins C dx [("kept_names", .ref t)]) → H' t = some (.tup ((srt zs).map V.str)) → Q .non H'
theorem scInit : FnScope ["self", "names", "name"] ((["self"] : List Str) ++ (["names"] : List Str)) (defScope s_Locks___init__) := ⟨rfl, rfl, rfl, by decide +kernel, rfl, by decide +kernel, by decide +kernel⟩
/-- Locks(..): the new instance, then its names -/
def spNew (C : Addr) : Sp := fun vs H Q _ => ∃ (x dx : Addr) (zs : List Str), vs = .ref x :: zs.map V.str ∧ H x = some (.ins C dx []) ∧ (∀ z ∈ zs, isNm z = true) ∧ zs.length < 64 ∧
  ∀ H' t, (∀ b o, H b = some o → b ≠ x → H' b = some o) → H' x = some (.ins C dx [("kept_names", .ref t)]) → H' t = some (.tup ((srt zs).map V.str)) → Q .non H'
theorem ok_init {f fN : Addr} {fd fdN : FuncData} (F : Fun K "__init__" "Locks.__init__" s_Locks___init__ f fd) (B : Blt mg) (T : LkC K mg C) (GN : FnOk P w K mg base CX0 1 fN fdN ["value"] spName) (bN : Binds K fdN ["value"] []) (mN : mg "is_name" = some (.ref fN)) (kN : PySem.W.keepIn K (.ref fN) = true) :
    FnR P w K mg base CX0 2 f (spNew C) := by
  obtain ⟨oc, od, kV, doc, pm, an, cdv, ct, osl, rfl, lk, hcd⟩ := F.ex
  have R := StX.fn_star (P := P) (w := w) (mg := mg) (base := base) (k := 1) (ps := ["self"]) (pv := "names") (sp := spIn K C) lk hcd scInit StX.cxUp_none (StX.bind_star1 (B := fun us => bindArgs (PySem.W.fnOf "__init__" "Locks.__init__" (defArgs s_Locks___init__) (defBody s_Locks___init__) (defScope s_Locks___init__) .none kV doc pm an cdv ct) ⟨us, []⟩) (fun a => rfl) (fun a r rs => rfl)) (fun A outer s H vs Q E hr h => ?_)
  · intro A outer s H us vs Q E hr e0 r h
    refine R A outer s H us vs Q E hr e0 r ?_
    obtain ⟨x, dx, zs, rfl, hx, nm, few, q⟩ := h
    refine ⟨[.ref x], zs.map V.str, rfl, rfl, by rw [List.length_map, sizeLine_eq]; omega, fun p np => ?_⟩
    have nxp : x ≠ p := ne_of_none hx np
    refine ⟨x, dx, p, zs, rfl, by rw [upd_ne nxp]; exact hx, .inl (.inl upd_same), nm, few, fun H' t kp h1 h2 => q H' t (fun b o e hb => kp b o ?_ hb) h1 h2⟩
    rw [upd_ne (ne_of_none e np)]
    exact e
  · obtain ⟨x, dx, p, zs, rfl, hx, hp, nm, few, q⟩ := h
    refine ⟨_, (pss_cons (ps_if (pt_not (pt_val (pe_callB (cr_all rfl) (by rfl) B.all PyProof.Rows.boot_all (pa_cons (pe_lc (own := [("name", 2)]) (g := gName 2) (tt := tYes) rfl scInit.nd (pi_tup (pv 1))
      (blkOk_by (N := ["self", "names", "name"]) (sc := defScope s_Locks___init__) (by decide +kernel)) (fun _ _ _ _ _ => pg_name (i := 2) scInit.nd rfl (Or.inl rfl)) (fun _ _ _ _ _ => pts_nil)
      (fun _ _ _ _ _ => pe_call GN hr (by rfl) mN kN bN .nil pass0 (pa_cons (pv 2) pa_nil))) pa_nil)))) (pss_one ps_never) pss_nil)
      (pss_one (ps_fld (pv 0) (pe_callTy call_tuple_of (by rfl) B.tup PyProof.Rows.boot_tuple (pa_cons (pe_callB (cr_sortX rfl) (by rfl) B.srt PyProof.Rows.boot_sorted (pa_cons (pe_callTy (cr_setX rfl) (by rfl) B.set PyProof.Rows.boot_set (pa_cons (pv 1) pa_nil)) pa_nil)) pa_nil)) rfl))), ?_⟩
    refine ⟨.ref p, rfl, p, rfl, ⟨_, hp⟩, fun D nD => lc_it (walk_tup (xs := zs.map V.str)) (fun i H' => Grow H D ((zs.map fun z => V.bl true).take i) H')
      (grow0 nD) (fun i H' _ hP => Same.tup hP.1 hp) (fun i y H2 H3 hi hP hY => ?_) (fun H2 hP => ?_)⟩
    · obtain ⟨rfl, hy⟩ := hY
      obtain ⟨z, hz, rfl⟩ := at_map hy
      have hn := nm z (List.mem_of_getElem? hz)
      refine ⟨rfl, .str z, rfl, z, rfl, nm_line hn, fun H4 s4 => grow1 nD (hP.more s4) ?_ ?_⟩
      · rw [List.length_take, List.length_map]
        exact Nat.lt_of_le_of_lt (Nat.min_le_right _ _) (small1000 (by omega))
      · rw [hn, take_next hz]
    · obtain ⟨sm, hD⟩ := hP
      rw [List.length_map, List.take_of_length_le (by rw [List.length_map]; exact Nat.le_refl _)] at hD
      refine ⟨D, zs.map fun z => true, rfl, .inl (.inl (by rw [List.map_map]; exact hD)), true, ?_, iteF ?_⟩
      · congr 1
        rw [List.all_map]
        exact List.all_eq_true.mpr fun _ _ => rfl
      · -- self.kept_names = tuple(sorted(set(names)))
        refine ⟨.ref p, rfl, p, zs, rfl, .inl (Same.tup sm hp), by (have : scanBound = 4096 := rfl); omega, fun l c hc nl => ?_⟩
        refine ⟨l, _, c, rfl, upd_same, by omega, fun ys u hA hm hy nu => ?_⟩
        have ey : ys = srt zs := srt_of hA fun z => by rw [hm z, decide_eq_true_eq]
        subst ey
        refine ⟨u, _, rfl, .inl ⟨.inl (.inl upd_same), fun t nt => ?_⟩⟩
        have st := sm.trans ((same_new nl).trans ((same_new nu).trans (same_new nt (o := .tup ((srt zs).map V.str)))))
        have nxt : x ≠ t := ne_of_none ((sm.trans ((same_new nl).trans (same_new nu))) _ _ hx) nt
        refine ⟨.ref x, rfl, x, C, dx, [], rfl, st _ _ hx, T.cl, T.nK, by show 0 < 1000; decide, q _ t (fun b o e hb => ?_) upd_same ?_⟩
        · rw [upd_ne hb]
          exact st _ _ e
        · rw [upd_ne nxt.symm, upd_same]
end
theorem look_kept (t : Addr) : List.lookup ("kept_names" : Str) ([(("kept_names" : Str), V.ref t)] : List (Str × V)) = some (V.ref t) := by
  rw [List.lookup_cons, beq_self_eq_true]
theorem LkAt.few {C : Addr} {H : Hp} {a : Addr} {zs : List Str} (h : LkAt C H a zs) : True := trivial
section
variable {P : Program} {w : World} {K : PySem.W.Frag} {mg : Str → Option Value} {base : Heap} {C : Addr}
/-- the made Locks, whatever else is new -/
theorem made_at {H H' : Hp} {x dx t : Addr} {zs : List Str} (nx : H x = none) (nd : H dx = none) (ne : dx ≠ x) (nm : ∀ z ∈ zs, isNm z = true)
    (kp : ∀ b o, (upd (upd H dx (.own x)) x (.ins C dx [])) b = some o → b ≠ x → H' b = some o) (h1 : H' x = some (.ins C dx [("kept_names", .ref t)])) (h2 : H' t = some (.tup ((srt zs).map V.str))) : Same H H' ∧ LkAt C H' x (srt zs) :=
  ⟨Same.made nx nd kp, ⟨⟨dx, t, h1, h2⟩, asc_srt zs, fun z hz => nm z ((mem_srt zs z).1 hz)⟩⟩
/-- two Locks in, a Locks out -/
def spBin (C : Addr) (g : List Str → List Str → List Str) : Sp := fun vs H Q _ => ∃ (a b : Addr) (zs ws : List Str), vs = [.ref a, .ref b] ∧ LkAt C H a zs ∧ LkAt C H b ws ∧ zs.length + ws.length < 64 ∧ ∀ H' c, Same H H' → LkAt C H' c (g zs ws) → Q (.ref c) H'
def gOr (zs ws : List Str) : List Str := srt (zs ++ ws)
def gAnd (zs ws : List Str) : List Str := zs.filter fun z => decide (z ∈ ws)
def gSub (zs ws : List Str) : List Str := zs.filter fun z => !decide (z ∈ ws)
theorem asc_filter {zs : List Str} (p : Str → Bool) (h : Asc zs) : Asc (zs.filter p) := h.sublist List.filter_sublist

/-! ### __eq__ -/
def spEqL (C : Addr) : Sp := fun vs H Q _ => ∃ (a b : Addr) (zs ws : List Str), vs = [.ref a, .ref b] ∧ LkAt C H a zs ∧ LkAt C H b ws ∧ Q (.bl (decide (zs = ws))) H
theorem scEq : FnScope ["self", "other"] ["self", "other"] (defScope s_Locks___eq__) := ⟨rfl, rfl, rfl, by decide +kernel, rfl, by decide +kernel, by decide +kernel⟩
theorem ok_eq {f : Addr} {fd : FuncData} {k : Nat} (F : Fun K "__eq__" "Locks.__eq__" s_Locks___eq__ f fd) (B : Blt mg) (T : LkC K mg C) : FnOk P w K mg base CX0 (k + 1) f fd ["self", "other"] (spEqL C) := by
  refine F.ok scEq (fun vs H Q E h => ?_) (fun cdv A outer s H vs Q E hr h => ?_)
  · obtain ⟨a, b, zs, ws, rfl, _⟩ := h
    rfl
  · obtain ⟨a, b, zs, ws, rfl, ha, hb, q⟩ := h
    refine ⟨_, pss_one (ps_ret (pe_and (pe_callB call_isi (by rfl) B.isi PyProof.Rows.boot_isinstance (pa_cons (pv 1) (pa_cons (pe_glob (v := .ref C) (by rfl) T.mgC rfl) pa_nil)))
      (pe_one (pe_cmpR (op_eqD hr.units) (pe_fld (pv 0) rfl) (pe_fld (pv 1) rfl) (nomark _))))), ?_⟩
    obtain ⟨⟨dx, t, h1, h2⟩, a1, n1⟩ := ha
    obtain ⟨⟨dy, u, g1, g2⟩, a2, n2⟩ := hb
    refine ⟨.ref b, rfl, .ref b, .ref C, _, _, true, rfl, .own C, .base (.ins g1 T.cl T.tyc T.tyg T.tyt T.tym), T.kit, true, rfl, iteT ?_⟩
    refine ⟨.ref a, rfl, a, C, dx, _, _, rfl, h1, T.cl, T.nK, look_kept t, .ref b, rfl, b, C, dy, _, _, rfl, g1, T.cl, T.nK, look_kept u, _, _, .tup (.inl (.inl h2)) (dp_strs zs), .tup (.inl (.inl g2)) (dp_strs ws),
      shaped_strsT fun z hz => nm_ok (n1 z hz), shaped_strsT fun z hz => nm_ok (n2 z hz), ?_⟩
    rw [PyData.eqv, eqvAll_strs]
    exact q
/-! ### __contains__, __len__, names -/
def spHas (C : Addr) : Sp := fun vs H Q _ => ∃ (a : Addr) (zs : List Str) (z : Str), vs = [.ref a, .str z] ∧ LkAt C H a zs ∧ Q (.bl (decide (z ∈ zs))) H
theorem scHas : FnScope ["self", "name"] ["self", "name"] (defScope s_Locks___contains__) := ⟨rfl, rfl, rfl, by decide +kernel, rfl, by decide +kernel, by decide +kernel⟩
theorem ok_has {f : Addr} {fd : FuncData} {k : Nat} (F : Fun K "__contains__" "Locks.__contains__" s_Locks___contains__ f fd) (T : LkC K mg C) : FnOk P w K mg base CX0 (k + 1) f fd ["self", "name"] (spHas C) := by
  refine F.ok scHas (fun vs H Q E h => ?_) (fun cdv A outer s H vs Q E hr h => ?_)
  · obtain ⟨a, zs, z, rfl, _⟩ := h
    rfl
  · obtain ⟨a, zs, z, rfl, ⟨⟨dx, t, h1, h2⟩, a1, n1⟩, q⟩ := h
    refine ⟨_, pss_one (ps_ret (pe_cmpR op_in_seq (pv 1) (pe_fld (pv 0) rfl) rfl)), ?_⟩
    refine ⟨.str z, rfl, .ref a, rfl, a, C, dx, _, _, rfl, h1, T.cl, T.nK, look_kept t, t, _, rfl, .inr (.inl (.inl h2)), rfl, flat_strs zs, ?_⟩
    rw [inV_str]
    exact q
def spLen (C : Addr) : Sp := fun vs H Q _ => ∃ (a : Addr) (zs : List Str), vs = [.ref a] ∧ LkAt C H a zs ∧ Q (.int zs.length) H
theorem scLen : FnScope ["self"] ["self"] (defScope s_Locks___len__) := ⟨rfl, rfl, rfl, by decide +kernel, rfl, by decide +kernel, by decide +kernel⟩
theorem ok_len {f : Addr} {fd : FuncData} {k : Nat} (F : Fun K "__len__" "Locks.__len__" s_Locks___len__ f fd) (B : Blt mg) (T : LkC K mg C) : FnOk P w K mg base CX0 (k + 1) f fd ["self"] (spLen C) := by
  refine F.ok scLen (fun vs H Q E h => ?_) (fun cdv A outer s H vs Q E hr h => ?_)
  · obtain ⟨a, zs, rfl, _⟩ := h
    rfl
  · obtain ⟨a, zs, rfl, ⟨⟨dx, t, h1, h2⟩, a1, n1⟩, q⟩ := h
    refine ⟨_, pss_one (ps_ret (pe_callB call_len_seq (by rfl) B.len PySem.boot_len (pa_cons (pe_fld (pv 0) rfl) pa_nil))), ?_⟩
    refine ⟨.ref a, rfl, a, C, dx, _, _, rfl, h1, T.cl, T.nK, look_kept t, t, _, rfl, .inr (.inl (.inl h2)), ?_⟩
    rw [List.length_map]
    exact q
def spNames (C : Addr) : Sp := fun vs H Q _ => ∃ (a : Addr) (zs : List Str), vs = [.ref a] ∧ LkAt C H a zs ∧ ∀ l, H l = none → Q (.ref l) (upd H l (.lst (zs.map V.str)))
theorem scNames : FnScope ["self"] ["self"] (defScope s_Locks_names) := ⟨rfl, rfl, rfl, by decide +kernel, rfl, by decide +kernel, by decide +kernel⟩
theorem ok_names {f : Addr} {fd : FuncData} {k : Nat} (F : Fun K "names" "Locks.names" s_Locks_names f fd) (B : Blt mg) (T : LkC K mg C) : FnOk P w K mg base CX0 (k + 1) f fd ["self"] (spNames C) := by
  refine F.ok scNames (fun vs H Q E h => ?_) (fun cdv A outer s H vs Q E hr h => ?_)
  · obtain ⟨a, zs, rfl, _⟩ := h
    rfl
  · obtain ⟨a, zs, rfl, ⟨⟨dx, t, h1, h2⟩, a1, n1⟩, q⟩ := h
    refine ⟨_, pss_one (ps_ret (pe_callTy call_list_of (by rfl) B.lst PyProof.Rows.boot_list (pa_cons (pe_fld (pv 0) rfl) pa_nil))), ?_⟩
    exact ⟨.ref a, rfl, a, C, dx, _, _, rfl, h1, T.cl, T.nK, look_kept t, t, _, rfl, .inr (.inl (.inl h2)), q⟩
/-! ### __or__, __and__, __sub__ -/
theorem scOr : FnScope ["self", "other", "names"] ["self", "other"] (defScope s_Locks___or__) := ⟨rfl, rfl, rfl, by decide +kernel, rfl, by decide +kernel, by decide +kernel⟩
theorem ok_or {f fC fI : Addr} {fd fdC : FuncData} (F : Fun K "__or__" "Locks.__or__" s_Locks___or__ f fd) (T : LkC K mg C)
    (GC : FnOk P w K mg base CX0 1 fC fdC ["other"] (spCheck C)) (bC : Binds K fdC ["other"] []) (mC : mg "check_other" = some (.ref fC)) (kC : PySem.W.keepIn K (.ref fC) = true)
    (M : Mk K C fI) (GI : FnR P w K mg base CX0 2 fI (spNew C)) : FnOk P w K mg base CX0 4 f fd ["self", "other"] (spBin C gOr) := by
  refine F.ok scOr (fun vs H Q E h => ?_) (fun cdv A outer s H vs Q E hr h => ?_)
  · obtain ⟨a, b, zs, ws, rfl, _⟩ := h
    rfl
  · obtain ⟨a, b, zs, ws, rfl, ⟨⟨dx, t, h1, h2⟩, a1, n1⟩, ⟨⟨dy, u, g1, g2⟩, a2, n2⟩, few, q⟩ := h
    refine ⟨_, pss_cons (ps_expr (pe_call GC (hr.mono (by decide)) (by rfl) mC kC bC .nil pass0 (pa_cons (pv 1) pa_nil)))
      (pss_cons (ps_set (i := 2) scOr.nd rfl (.inl rfl) (pe_op op_catA (pe_fld (pv 0) rfl) (pe_fld (pv 1) rfl)))
      (pss_one (ps_ret (pe_makeS (E := E0) M GI hr (by rfl) T.mgC pass0 (pv 2))))), ?_⟩
    refine ⟨.ref b, rfl, b, dy, _, rfl, g1, ?_⟩
    refine ⟨.ref a, rfl, a, C, dx, _, _, rfl, h1, T.cl, T.nK, look_kept t, .ref b, rfl, b, C, dy, _, _, rfl, g1, T.cl, T.nK, look_kept u, t, u, _, _, rfl, rfl, .inl (.inl h2), .inl (.inl g2), by rw [List.length_map, List.length_map, sizeLine_eq]; omega, ?_⟩
    have fin : ∀ (H1 : Hp) (p : Addr), Same H H1 → H1 p = some (.tup ((zs ++ ws).map V.str)) → ∃ v, ([some (V.ref a), some (V.ref b), some (V.ref p)] : L2.St)[2]? = some (some v) ∧ ∃ a' xs, v = V.ref a' ∧ (SqT K H1 a' xs ∨ SqL K H1 a' xs) ∧ ∀ x dx, H1 x = none → H1 dx = none → dx ≠ x →
        spNew C (V.ref x :: xs) (upd (upd H1 dx (.own x)) x (.ins C dx [])) (fun v H2 => v = .non ∧ Q (.ref x) H2) E0 := fun H1 p s1 hp => by
      refine ⟨_, rfl, p, _, rfl, .inl (.inl (.inl hp)), fun x ex nx ne hne => ⟨x, ex, zs ++ ws, rfl, upd_same, ?_, by rw [List.length_append]; omega, fun H2 t2 kp e1 e2 => ⟨rfl, ?_⟩⟩⟩
      · intro z hz
        rcases List.mem_append.mp hz with k | k
        · exact n1 z k
        · exact n2 z k
      · obtain ⟨s2, m2⟩ := made_at nx ne hne (fun z hz => (List.mem_append.mp hz).elim (n1 z) (n2 z)) kp e1 e2
        exact q H2 x (s1.trans s2) m2
    refine ⟨fun e => ?_, fun e e' => ?_, fun e e' p np => ?_⟩
    · have ez : zs = [] := List.map_eq_nil_iff.mp e
      subst ez
      exact fin H u (Same.refl H) g2
    · have ez : ws = [] := List.map_eq_nil_iff.mp e'
      subst ez
      exact fin H t (Same.refl H) (by rw [List.append_nil]; exact h2)
    · exact fin _ p (same_new np) (by rw [upd_same, List.map_append])
end
end Lk
set_option Elab.async false
set_option linter.all false
set_option maxRecDepth 100000
set_option maxHeartbeats 2000000
/-! Comprehensions that map and keep, dicts that stay, counts of sets. -/
namespace Lk
open PySem PySem.Spec PyProof.Rows L2 TxS LkO
/-- [f(x) for x in .. if p(x)], where a turn only makes objects -/
theorem lc_mf {J : It} {n : Nat} {G : Hp → Prop} {Y : Nat → Hp → V → Hp → Prop} (w : Walk J n G Y) {g : TG} {tt : TT} {te : TE} {vs : List Nat} {σ : L2.St} {H1 : Hp} {D : Addr} {Qd : Hp → Prop} {α : Type} (l : List α) (p : α → Bool) (f : α → V) (hn : n = l.length) (nD : H1 D = none) (few : l.length ≤ 1000)
    (hG : ∀ H', Same H1 H' → G H')
    (hs : ∀ i a x H2 H' (Kt : VK) (Kf : Hp → Prop), l[i]? = some a → Same H1 H2 → Y i H2 x H' → (p a = true → ∀ H5, Same H2 H5 → Kt (f a) H5) → (p a = false → ∀ H5, Same H2 H5 → Kf H5) →
      g x (wipe σ vs) H' fun σ2 H3 => wipe σ2 vs = wipe σ vs ∧ tt σ2 H3 fun b H4 => if b = true then te σ2 H4 Kt else Kf H4)
    (hd : ∀ H2, Same H1 H2 → H2 D = some (.lst ((l.filter p).map f)) → Qd H2) :
    ∃ W : Nat → Nat → Hp → Prop, (∃ m, W 0 m (upd H1 D (.lst []))) ∧ ∀ i m H, W i m H → (J.stop i H ∧ Qd H) ∨ (J.go i H ∧ ∃ Nx : Hp → Prop, (∀ H', Nx H' → ∃ m', m' < m ∧ W (i + 1) m' H') ∧
      ∀ x H', J.yld i H x H' → g x (wipe σ vs) H' fun σ2 H2 => wipe σ2 vs = wipe σ vs ∧ tt σ2 H2 fun b H3 => if b = true then te σ2 H3 fun y H4 => ∃ acc, H4 D = some (.lst acc) ∧ acc.length < sizeLine ∧ Nx (upd H4 D (.lst (acc ++ [y]))) else Nx H3) := by
  refine lc_it w (fun i H' => Grow H1 D (((l.take i).filter p).map f) H') (grow0 nD) (fun i H' _ hP => hG H' hP.1) (fun i x H2 H3 hi hP hY => ?_) (fun H2 hP => ?_)
  · have hl : i < l.length := hn ▸ hi
    have ha : l[i]? = some l[i] := List.getElem?_eq_getElem hl
    refine hs i l[i] x H2 H3 _ _ ha hP.1 hY (fun e H5 s5 => ?_) fun e H5 s5 => ?_
    · refine grow1 nD (hP.more s5) ?_ ?_
      · rw [List.length_map]
        refine Nat.lt_of_le_of_lt (Nat.le_trans (List.length_filter_le _ _) ?_) (small1000 few)
        rw [List.length_take]
        exact Nat.min_le_right _ _
      · rw [take_next1 ha, List.filter_append, List.map_append, List.filter_cons, if_pos e]
        rfl
    · have g5 := hP.more s5
      rw [show (l.take (i + 1)).filter p = (l.take i).filter p from by rw [take_next1 ha, List.filter_append, List.filter_cons, if_neg (by rw [e]; exact Bool.false_ne_true)]; exact List.append_nil _]
      exact g5
  · obtain ⟨sm, e⟩ := hP
    rw [hn, List.take_length] at e
    exact hd H2 sm e
/-- [f(x) for x in ..] -/
theorem lc_m {J : It} {n : Nat} {G : Hp → Prop} {Y : Nat → Hp → V → Hp → Prop} (w : Walk J n G Y) {g : TG} {te : TE} {vs : List Nat} {σ : L2.St} {H1 : Hp} {D : Addr} {Qd : Hp → Prop} {α : Type} (l : List α) (f : α → V) (hn : n = l.length) (nD : H1 D = none) (few : l.length ≤ 1000)
    (hG : ∀ H', Same H1 H' → G H')
    (hs : ∀ i a x H2 H' (Kt : VK), l[i]? = some a → Same H1 H2 → Y i H2 x H' → (∀ H5, Same H2 H5 → Kt (f a) H5) → g x (wipe σ vs) H' fun σ2 H3 => wipe σ2 vs = wipe σ vs ∧ te σ2 H3 Kt)
    (hd : ∀ H2, Same H1 H2 → H2 D = some (.lst (l.map f)) → Qd H2) :
    ∃ W : Nat → Nat → Hp → Prop, (∃ m, W 0 m (upd H1 D (.lst []))) ∧ ∀ i m H, W i m H → (J.stop i H ∧ Qd H) ∨ (J.go i H ∧ ∃ Nx : Hp → Prop, (∀ H', Nx H' → ∃ m', m' < m ∧ W (i + 1) m' H') ∧
      ∀ x H', J.yld i H x H' → g x (wipe σ vs) H' fun σ2 H2 => wipe σ2 vs = wipe σ vs ∧ tYes σ2 H2 fun b H3 => if b = true then te σ2 H3 fun y H4 => ∃ acc, H4 D = some (.lst acc) ∧ acc.length < sizeLine ∧ Nx (upd H4 D (.lst (acc ++ [y]))) else Nx H3) :=
  lc_mf w l (fun _ => true) f hn nD few hG (fun i a x H2 H' Kt Kf ha s1 hY k _ => hs i a x H2 H' Kt ha s1 hY (k rfl)) fun H2 s2 e => hd H2 s2 (by rw [e, List.filter_eq_self.mpr fun _ _ => rfl])
theorem ty_tup {K : PySem.W.Frag} {H : Hp} {a : Addr} {xs : List V} (h : SqT K H a xs) : TyX K H (.ref a) (.type "tuple") := by
  rcases h with (h | ⟨o, h⟩) | ⟨o, _, _, h, c, _⟩
  · exact .base (.tup h)
  · exact .fTuple h
  · exact .kTuple h c
theorem nodup_asc : ∀ {l : List Str}, Asc l → l.Nodup := fun {l} h => by
  unfold Asc at h
  refine List.Pairwise.imp (fun {a b} hab e => ?_) h
  rw [e] at hab
  exact sl_irr b hab
theorem len_same : ∀ {l m : List Str}, l.Nodup → m.Nodup → (∀ z, z ∈ l ↔ z ∈ m) → l.length = m.length := fun {l m} hl hm e => (List.perm_ext_iff_of_nodup hl hm |>.mpr e).length_eq
/-- len(set(..)) -/
theorem cr_lenZ {X : Cx} : CallR X (.builtin "len") (fun xs H Q => ∃ (a : Addr) (zs : List Str) (n : Nat), xs = [V.ref a] ∧ H a = some (SetXO X.w a (fun z => decide (z ∈ zs)) n) ∧ Q (.int (srt zs).length) H) := by
  intro pins s σ H vs us Q I r h
  obtain ⟨a, zs, n, rfl, ha, q⟩ := h
  refine cr_lenX pins s σ H _ us Q I r ⟨a, _, n, rfl, ha, ?_⟩
  obtain ⟨ob, es, ep, t, hob, ex, hd, T, hn⟩ := setXO_get I ha
  have e : n = (srt zs).length := by
    rw [← hn, ← Array.length_toList, ← List.length_map (f := txt)]
    exact len_same T.nd (nodup_asc (asc_srt zs)) fun z => by rw [← T.mem z, decide_eq_true_eq, mem_srt]
  rw [e]
  exact q
theorem srt_full (zs : List Str) : ((srt zs).length = zs.length) ↔ zs.Nodup := by
  constructor
  · intro e
    have k := full_len zs
    exact k e
  · intro h
    exact len_same (nodup_asc (asc_srt zs)) h fun z => mem_srt zs z
where
  full_len : ∀ zs : List Str, (srt zs).length = zs.length → zs.Nodup
    | [], _ => List.nodup_nil
    | z :: r, e => by
      have h1 : (ins z (srt r)).length ≤ (srt r).length + 1 := len_ins z _
      have h2 := len_srt r
      have h3 : (ins z (srt r)).length = r.length + 1 := e
      have h4 : (srt r).length = r.length := by omega
      refine List.nodup_cons.mpr ⟨fun hm => ?_, full_len r h4⟩
      have h5 : srt (z :: r) = srt r := srt_eq fun y => ⟨fun h => (List.mem_cons.mp h).elim (fun e => e ▸ hm) id, List.mem_cons_of_mem _⟩
      rw [h5] at e
      simp only [List.length_cons] at e
      omega
/-! ### dicts that are never changed again -/
def tFrz (t : TE) : TE := fun σ H Q => t σ H fun v H' => ∃ d u, v = .ref d ∧ H' d = some u ∧ Mut (some u) ∧ ∀ od, Q v (upd H' d (.frz od u))
theorem pe_frz {X : Cx} {e : Expr} {t : TE} (h : PE X e t) : PE X e (tFrz t) := by
  refine ⟨fun pins s σ H Q I hw => thn (h.run pins s σ H _ I hw) fun u s1 z => ?_⟩
  obtain ⟨v, H1, I1, rv, d, o, ev, hd, mu, q⟩ := z
  obtain ⟨od, I2⟩ := I1.lock hd mu
  exact ⟨v, _, I2, rv, q od⟩
/-- what stands at d is frozen ahead of the statement -/
def sFrz (t : TS) : TS := fun D σ H => ∃ d u, H d = some u ∧ Mut (some u) ∧ ∀ od, t D σ (upd H d (.frz od u))
theorem ps_frz {X : Cx} {st : Stmt} {t : TS} (h : PS X st t) : PS X st (sFrz t) := by
  refine ⟨fun pins s σ H D I hw => ?_⟩
  obtain ⟨d, u, hd, mu, q⟩ := hw
  obtain ⟨od, I2⟩ := I.lock hd mu
  exact h.run pins s σ _ D I2 (q od)
end Lk
set_option Elab.async false
set_option linter.all false
set_option maxRecDepth 100000
set_option maxHeartbeats 2000000
namespace Lk
open PySem PySem.Spec PyProof.Rows L2 TxS LkO
def areNm (zs : List Str) : Bool := zs.all isNm && decide zs.Nodup
section
variable {P : Program} {w : World} {K : PySem.W.Frag} {mg : Str → Option Value} {base : Heap} {C : Addr}
/-! ### are_names -/
def spAre (K : PySem.W.Frag) : Sp := fun vs H Q _ => ∃ (a : Addr) (zs : List Str), vs = [.ref a] ∧ zs.length ≤ 1000 ∧ (∀ z ∈ zs, z.length ≤ sizeLine) ∧ SqT K H a (zs.map V.str) ∧ ∀ H', Same H H' → Q (.bl (areNm zs)) H'
theorem scAre : FnScope ["values", "value"] ["values"] (defScope s_are_names) := ⟨rfl, rfl, rfl, by decide +kernel, rfl, by decide +kernel, by decide +kernel⟩
theorem ok_are {f fN : Addr} {fd fdN : FuncData} (F : Fun K "are_names" "are_names" s_are_names f fd) (B : Blt mg) (GN : FnOk P w K mg base CX0 1 fN fdN ["value"] spName) (bN : Binds K fdN ["value"] []) (mN : mg "is_name" = some (.ref fN)) (kN : PySem.W.keepIn K (.ref fN) = true) :
    FnOk P w K mg base CX0 2 f fd ["values"] (spAre K) := by
  refine F.ok scAre (fun vs H Q E h => ?_) (fun cdv A outer s H vs Q E hr h => ?_)
  · obtain ⟨a, zs, rfl, _⟩ := h
    rfl
  · obtain ⟨a, zs, rfl, few, lens, ha, q⟩ := h
    refine ⟨_, pss_one (ps_ret (pe_and (pe_callB call_isi (by rfl) B.isi PyProof.Rows.boot_isinstance (pa_cons (pv 0) (pa_cons (pe_bltn (v := .ty "tuple") (by rfl) B.tup PyProof.Rows.boot_tuple rfl) pa_nil)))
      (pe_and (pe_callB (cr_all rfl) (by rfl) B.all PyProof.Rows.boot_all (pa_cons (pe_lc (own := [("value", 1)]) (g := gName 1) (tt := tYes) rfl scAre.nd (pi_tup (pv 0)) (blkOk_by (N := ["values", "value"]) (sc := defScope s_are_names) (by decide +kernel))
        (fun _ _ _ _ _ => pg_name (i := 1) scAre.nd rfl (Or.inl rfl)) (fun _ _ _ _ _ => pts_nil) (fun _ _ _ _ _ => pe_call GN hr (by rfl) mN kN bN .nil pass0 (pa_cons (pv 1) pa_nil))) pa_nil))
      (pe_one (pe_cmpR op_eq (pe_callB cr_lenZ (by rfl) B.len PySem.boot_len (pa_cons (pe_callTy (cr_setX rfl) (by rfl) B.set PyProof.Rows.boot_set (pa_cons (pv 0) pa_nil)) pa_nil)) (pe_callB call_len_seq (by rfl) B.len PySem.boot_len (pa_cons (pv 0) pa_nil)) (nomark _)))))), ?_⟩
    refine ⟨.ref a, rfl, .ref a, .ty "tuple", _, _, true, rfl, .ty _, ty_tup ha, kit_ty (by decide +kernel), true, rfl, iteT ?_⟩
    refine ⟨.ref a, rfl, a, rfl, ⟨_, ha⟩, fun D nD => lc_m (walk_tup (xs := zs.map V.str)) zs (fun z => .bl (isNm z)) (by rw [List.length_map]) nD few (fun H' s => Same.tup s ha) (fun i z x H2 H3 Kt hz s2 hY k => ?_) (fun H2 s2 e => ?_)⟩
    · obtain ⟨rfl, hx⟩ := hY
      rw [List.getElem?_map, hz] at hx
      cases hx
      exact ⟨rfl, .str z, rfl, z, rfl, lens z (List.mem_of_getElem? hz), fun H4 s4 => k H4 s4⟩
    · refine ⟨D, zs.map isNm, rfl, .inl (.inl (by rw [List.map_map]; exact e)), _, rfl, ite2 (fun t => ?_) (fun t => ?_)⟩
      · have t1 : zs.all isNm = true := by
          rw [List.all_map] at t
          exact t
        refine ⟨.ref a, rfl, a, zs, rfl, .inl (Same.tup s2 ha), by (have : scanBound = 4096 := rfl); omega, fun l c hc nl => ?_⟩
        refine ⟨l, zs, c, rfl, upd_same, .ref a, rfl, a, _, rfl, .inr (Same.tup (s2.trans (same_new nl)) ha), ?_⟩
        have e2 : areNm zs = decide (V.int (srt zs).length = V.int (zs.map V.str).length) := by
          unfold areNm
          rw [t1, Bool.true_and, List.length_map]
          refine decide_eq_decide.mpr ⟨fun h => ?_, fun h => ?_⟩
          · rw [(srt_full zs).2 h]
          · exact (srt_full zs).1 (by have := V.int.inj h; omega)
        have q2 := q _ (s2.trans (same_new nl (o := SetXO w l (fun y => decide (y ∈ zs)) c)))
        rw [e2] at q2
        exact ⟨rfl, q2⟩
      · have e2 : areNm zs = false := by
          unfold areNm
          rw [List.all_map] at t
          rw [Bool.eq_false_iff.mpr (show ¬ (zs.all isNm = true) from t), Bool.false_and]
        rw [e2] at q
        exact q _ s2
/-! ### is_cost -/
def spCost : Sp := fun vs H Q _ => ∃ i : Int, vs = [.int i] ∧ Q (.bl (decide (1 ≤ i) && decide (i ≤ 9))) H
theorem scCost : FnScope ["value"] ["value"] (defScope s_is_cost) := ⟨rfl, rfl, rfl, by decide +kernel, rfl, by decide +kernel, by decide +kernel⟩
theorem ok_cost {f : Addr} {fd : FuncData} {k : Nat} (F : Fun K "is_cost" "is_cost" s_is_cost f fd) (B : Blt mg) (mH : ∃ t, mg "HIGHEST_COST" = some (.int 9 t)) : FnOk P w K mg base CX0 (k + 1) f fd ["value"] spCost := by
  obtain ⟨t9, e9⟩ := mH
  refine F.ok scCost (fun vs H Q E h => ?_) (fun cdv A outer s H vs Q E hr h => ?_)
  · obtain ⟨i, rfl, _⟩ := h
    rfl
  · obtain ⟨i, rfl, q⟩ := h
    refine ⟨_, pss_one (ps_ret (pe_and (pe_callB call_isi (by rfl) B.isi PyProof.Rows.boot_isinstance (pa_cons (pv 0) (pa_cons (pe_bltn (v := .ty "int") (by rfl) B.int PyProof.Rows.boot_int rfl) pa_nil)))
      (pe_and (pe_not (pe_callB call_isi (by rfl) B.isi PyProof.Rows.boot_isinstance (pa_cons (pv 0) (pa_cons (pe_bltn (v := .ty "bool") (by rfl) B.bl PyProof.Rows.boot_bool rfl) pa_nil))))
      (pe_one (pe_chain op_le op_le pe_int (pv 0) (pe_glob (v := .int 9) (by rfl) e9 ⟨_, rfl⟩)))))), ?_⟩
    refine ⟨.int i, rfl, .int i, .ty "int", _, _, true, rfl, .ty _, .base (.int i), kit_ty (by decide +kernel), true, rfl, iteT ?_⟩
    refine ⟨.int i, rfl, .int i, .ty "bool", _, _, false, rfl, .ty _, .base (.int i), kit_ty (by decide +kernel), false, rfl, true, rfl, iteT ?_⟩
    refine ⟨.int i, rfl, 1, i, rfl, rfl, _, rfl, ite2 (fun e => ?_) (fun e => ?_)⟩
    · refine ⟨i, 9, rfl, rfl, ?_⟩
      rw [show decide (1 ≤ i) = true from e, Bool.true_and] at q
      exact q
    · rw [show decide (1 ≤ i) = false from Bool.eq_false_iff.mpr e, Bool.false_and] at q
      exact q
/-! ### all_in: lists in lists, tuples in dicts -/
def spAllInL (K : PySem.W.Frag) : Sp := fun vs H Q _ => ∃ (a b : Addr) (zs ws : List Str), vs = [.ref a, .ref b] ∧ zs.length ≤ 1000 ∧ SqL K H a (zs.map V.str) ∧ Sq K H b (ws.map V.str) ∧ ∀ H', Same H H' → Q (.bl (zs.all fun z => decide (z ∈ ws))) H'
theorem ok_allInL {f : Addr} {fd : FuncData} {k : Nat} (F : Fun K "all_in" "all_in" s_all_in f fd) (B : Blt mg) : FnOk P w K mg base CX0 (k + 1) f fd ["names", "known"] (spAllInL K) := by
  refine F.ok scAllIn (fun vs H Q E h => ?_) (fun cdv A outer s H vs Q E hr h => ?_)
  · obtain ⟨a, b, zs, ws, rfl, _⟩ := h
    rfl
  · obtain ⟨a, b, zs, ws, rfl, len, ha, hb, q⟩ := h
    refine ⟨_, pss_one (ps_ret (pe_callB (cr_all rfl) (by rfl) B.all PyProof.Rows.boot_all (pa_cons (pe_lc (own := [("name", 2)]) (g := gName 2) (tt := tYes) rfl scAllIn.nd (pi_list (pv 0))
      (blkOk_by (N := ["names", "known", "name"]) (sc := defScope s_all_in) (by decide +kernel)) (fun _ _ _ _ _ => pg_name (i := 2) scAllIn.nd rfl (Or.inl rfl)) (fun _ _ _ _ _ => pts_nil) (fun _ _ _ _ _ => pe_cmpR (r := rIn K false) op_in_seq (pv 2) (pv 1) rfl)) pa_nil))), ?_⟩
    refine ⟨.ref a, rfl, a, rfl, ⟨_, ha⟩, fun D nD => lc_m (walk_list (xs := zs.map V.str)) zs (fun z => .bl (decide (z ∈ ws))) (by rw [List.length_map]) nD len (fun H' s => s.seq ha) (fun i z x H2 H3 Kt hz s2 hY k => ?_) (fun H2 s2 e => ?_)⟩
    · obtain ⟨rfl, hx⟩ := hY
      rw [List.getElem?_map, hz] at hx
      cases hx
      refine ⟨rfl, .str z, rfl, .ref b, rfl, b, _, rfl, Same.sq s2 hb, rfl, flat_strs ws, ?_⟩
      rw [inV_str]
      exact k _ (Same.refl _)
    · refine ⟨D, zs.map fun z => decide (z ∈ ws), rfl, .inl (.inl (by rw [List.map_map]; exact e)), ?_⟩
      rw [List.all_map]
      exact q _ s2
def spAllInD (K : PySem.W.Frag) : Sp := fun vs H Q _ => ∃ (a b : Addr) (zs : List Str) (kvs : List (Key × V)), vs = [.ref a, .ref b] ∧ zs.length ≤ 1000 ∧ SqT K H a (zs.map V.str) ∧ (∃ o, H b = some (.frz o (.dK kvs))) ∧ ∀ H', Same H H' → Q (.bl (zs.all fun z => (valV kvs (.inr z)).isSome)) H'
theorem ok_allInD {f : Addr} {fd : FuncData} {k : Nat} (F : Fun K "all_in" "all_in" s_all_in f fd) (B : Blt mg) : FnOk P w K mg base CX0 (k + 1) f fd ["names", "known"] (spAllInD K) := by
  refine F.ok scAllIn (fun vs H Q E h => ?_) (fun cdv A outer s H vs Q E hr h => ?_)
  · obtain ⟨a, b, zs, kvs, rfl, _⟩ := h
    rfl
  · obtain ⟨a, b, zs, kvs, rfl, len, ha, ⟨o, hb⟩, q⟩ := h
    refine ⟨_, pss_one (ps_ret (pe_callB (cr_all rfl) (by rfl) B.all PyProof.Rows.boot_all (pa_cons (pe_lc (own := [("name", 2)]) (g := gName 2) (tt := tYes) (te := tDIn (tVar 2) (tVar 1)) rfl scAllIn.nd (pi_tup (pv 0))
      (blkOk_by (N := ["names", "known", "name"]) (sc := defScope s_all_in) (by decide +kernel)) (fun _ _ _ _ _ => pg_name (i := 2) scAllIn.nd rfl (Or.inl rfl)) (fun _ _ _ _ _ => pts_nil) (fun _ _ _ _ _ => pe_cmp (pc_din (hu_of hr) (pv 2) (pv 1)) rfl)) pa_nil))), ?_⟩
    refine ⟨.ref a, rfl, a, rfl, ⟨_, ha⟩, fun D nD => lc_m (walk_tup (xs := zs.map V.str)) zs (fun z => .bl (valV kvs (.inr z)).isSome) (by rw [List.length_map]) nD len (fun H' s => Same.tup s ha) (fun i z x H2 H3 Kt hz s2 hY k => ?_) (fun H2 s2 e => ?_)⟩
    · obtain ⟨rfl, hx⟩ := hY
      rw [List.getElem?_map, hz] at hx
      cases hx
      exact ⟨rfl, .str z, rfl, .ref b, rfl, b, _, rfl, .inl ⟨kvs, .inr z, .inr ⟨o, s2 _ _ hb⟩, rfl, rfl⟩, k _ (Same.refl _)⟩
    · refine ⟨D, zs.map fun z => (valV kvs (.inr z)).isSome, rfl, .inl (.inl (by rw [List.map_map]; exact e)), ?_⟩
      rw [List.all_map]
      exact q _ s2
end
end Lk
set_option Elab.async false
set_option linter.all false
set_option maxRecDepth 100000
set_option maxHeartbeats 2000000
namespace Lk
open PySem PySem.Spec PyProof.Rows L2 TxS LkO LkG
/-! ### defs, methods, properties, classes, each in one piece -/
structure Fn (P : Program) (w : World) (K : PySem.W.Frag) (mg : Str → Option Value) (base : Heap) (k : Nat) (x : Str) (ps : List Str) (sp : Sp) : Prop where
  ex : ∃ f fd, mg x = some (.ref f) ∧ PySem.W.keepIn K (.ref f) = true ∧ Binds K fd ps [] ∧ FnOk P w K mg base CX0 k f fd ps sp
structure Mt (P : Program) (w : World) (K : PySem.W.Frag) (mg : Str → Option Value) (base : Heap) (k : Nat) (C : Addr) (x : Str) (ps : List Str) (sp : Sp) : Prop where
  ex : ∃ f fd, Meth K C x f ∧ Binds K fd ps [] ∧ FnOk P w K mg base CX0 k f fd ps sp
structure Pr (P : Program) (w : World) (K : PySem.W.Frag) (mg : Str → Option Value) (base : Heap) (k : Nat) (C : Addr) (x : Str) (sp : Sp) : Prop where
  ex : ∃ p f fd, PropOf K C x p f ∧ Binds K fd ["self"] [] ∧ FnOk P w K mg base CX0 k f fd ["self"] sp
structure OwnC (K : PySem.W.Frag) (mg : Str → Option Value) (C : Addr) (x : Str) (fs : List Str) : Prop where
  cl : Cls K C
  mgC : mg x = some (.ref C)
  nK : ∀ f ∈ fs, NoAttr K C f
  tyc : PySem.W.findIn K (.ref C) "__class__" = some (some (.builtin "object.__class__"))
  tyg : PySem.W.specialIn K (.builtin "object.__class__") "__get__" = some (some (.builtin "getset_descriptor.__get__"))
  tyt : PySem.W.takesIn K (.builtin "object.__class__") = some true
  tym : PySem.W.mroIn K C (.type "object") = some true
theorem OwnC.kit {K : PySem.W.Frag} {mg : Str → Option Value} {C : Addr} {x : Str} {fs : List Str} (_ : OwnC K mg C x fs) : PySem.W.kitOne K (.ref C) (.ref C) = some true := if_pos (beq_self_eq_true _)
section
variable {X : Cx} {k : Nat} {C : Addr} {x : Str} {ps : List Str} {sp : Sp} {e o : Expr} {es : List Expr} {t : TA} {ta : TE} {p pos apos : Pos}
theorem pe_fn (F : Fn X.prog X.w X.K X.mg X.base k x ps sp) (hr : Room k X.A) (hg : Gl X x) (ha : PA X (e :: es) t) (hdb : (x == ("__debug__" : Str)) = false := by decide) (he : starEach (e :: es) X.env = (false, eval e X.env) :: starEach es X.env := by rfl) (hpl : (backTo pos (starEach es X.env)).any (·.1) = false := by rfl) :
    PE X (.Call (.Name x p) (e :: es) [] pos) (tCall sp [] E0 t) := by
  obtain ⟨f, fd, m, kp, b, G⟩ := F.ex
  exact pe_call G hr hg m kp b .nil pass0 ha hdb he hpl
theorem pe_mt {pl : Sem Bool} (M : Mt X.prog X.w X.K X.mg X.base k C x ps sp) (hr : Room k X.A) (c : Cls X.K C) (ho : PE X o ta) (ha : PA X (e :: es) t)
    (hst : starEach (e :: es) X.env = (false, eval e X.env) :: starEach es X.env := by rfl) (hpl : (backTo pos (starEach es X.env)).any (·.1) = false := by rfl)
    (ht : eval (.Call (.Attribute o x apos) (e :: es) [] pos) X.env = (do
      let ov ← eval o X.env
      standAt apos.atName
      let (f, first) ← holding [ov] (getMethod ov x pl)
      callWith pos f first (backTo pos (starEach (e :: es) X.env)) (backToKw pos (keywordEach [] X.env))) := by rfl) : PE X (.Call (.Attribute o x apos) (e :: es) [] pos) (tMeth C x sp [] E0 ta t) := by
  obtain ⟨f, fd, m, b, G⟩ := M.ex
  exact pe_meth ho c m G hr b .nil pass0 ha (hst := hst) (hpl := hpl) (ht := ht)
theorem pe_pr (G : Pr X.prog X.w X.K X.mg X.base k C x sp) (hr : Room (k + 1) X.A) (c : Cls X.K C) (ho : PE X o ta) (hab : attributeBase o x X.env (eval o X.env) = eval o X.env) : PE X (.Attribute o x pos) (tProp C sp [] E0 ta) := by
  obtain ⟨q, f, fd, m, b, F⟩ := G.ex
  exact pe_prop ho c m F hr b .nil pass0 hab
end

/-! ### Door -/
structure DoorD where
  a : Str
  b : Str
  key : Option Str
  both : Bool
  cost : Int
  deriving DecidableEq
def oV : Option Str → V
  | none => .non
  | some z => .str z
structure DoorD.ok (d : DoorD) : Prop where
  a : isNm d.a = true
  b : isNm d.b = true
  ne : d.a ≠ d.b
  key : ∀ z, d.key = some z → isNm z = true
  c1 : 1 ≤ d.cost
  c9 : d.cost ≤ 9
def DoorD.fs (d : DoorD) : List (Str × V) := [("kept_start", .str d.a), ("kept_end", .str d.b), ("kept_key", oV d.key), ("kept_both", .bl d.both), ("kept_cost", .int d.cost)]
structure DoorAt (C : Addr) (H : Hp) (x : Addr) (d : DoorD) : Prop where
  ob : ∃ dx, H x = some (.ins C dx d.fs)
  ok : d.ok
theorem DoorAt.same {C x : Addr} {H H' : Hp} {d : DoorD} (h : DoorAt C H x d) (s : Same H H') : DoorAt C H' x d := ⟨h.ob.imp fun _ e => s _ _ e, h.ok⟩
abbrev doorF : List Str := ["kept_start", "kept_end", "kept_key", "kept_both", "kept_cost"]
theorem are_two {a b : Str} (ha : isNm a = true) (hb : isNm b = true) (ne : a ≠ b) : areNm [a, b] = true := by
  unfold areNm
  rw [List.all_cons, List.all_cons, List.all_nil, ha, hb]
  simp [ne]
section
variable {P : Program} {w : World} {K : PySem.W.Frag} {mg : Str → Option Value} {base : Heap} {C : Addr}
def spDoor (C : Addr) : Sp := fun vs H Q _ => ∃ (x dx : Addr) (d : DoorD), vs = [.ref x, .str d.a, .str d.b, oV d.key, .bl d.both, .int d.cost] ∧ H x = some (.ins C dx []) ∧ d.ok ∧
  ∀ H', (∀ b o, H b = some o → b ≠ x → H' b = some o) → H' x = some (.ins C dx d.fs) → Q .non H'
theorem scDoor : FnScope ["self", "start", "end", "key", "both", "cost"] ["self", "start", "end", "key", "both", "cost"] (defScope s_Door___init__) := ⟨rfl, rfl, rfl, by decide +kernel, rfl, by decide +kernel, by decide +kernel⟩
theorem ok_door {f : Addr} {fd : FuncData} (F : Fun K "__init__" "Door.__init__" s_Door___init__ f fd) (B : Blt mg) (T : OwnC K mg C "Door" doorF) (GA : Fn P w K mg base 2 "are_names" ["values"] (spAre K)) (GN : Fn P w K mg base 1 "is_name" ["value"] spName) (GC : Fn P w K mg base 1 "is_cost" ["value"] spCost) :
    FnOk P w K mg base CX0 3 f fd ["self", "start", "end", "key", "both", "cost"] (spDoor C) := by
  refine F.ok scDoor (fun vs H Q E h => ?_) (fun cdv A outer s H vs Q E hr h => ?_)
  · obtain ⟨x, dx, d, rfl, _⟩ := h
    rfl
  · obtain ⟨x, dx, d, rfl, hx, ok, q⟩ := h
    refine ⟨_, pss_cons (ps_if (pt_not (pt_val (pe_fn GA hr (by rfl) (pa_cons (pe_tup (pa_cons (pv 1) (pa_cons (pv 2) pa_nil))) pa_nil)))) (pss_one ps_never) pss_nil)
      (pss_cons (ps_if (pw_and (pt_cmp (pc_notN (pv 3))) (pw_and1 (pt_not (pt_val (pe_fn GN (hr.mono (by decide)) (by rfl) (pa_cons (pv 3) pa_nil)))))).pt (pss_one ps_never) pss_nil)
      (pss_cons (ps_if (pt_not (pt_val (pe_callB call_isi (by rfl) B.isi PyProof.Rows.boot_isinstance (pa_cons (pv 4) (pa_cons (pe_bltn (v := .ty "bool") (by rfl) B.bl PyProof.Rows.boot_bool rfl) pa_nil))))) (pss_one ps_never) pss_nil)
      (pss_cons (ps_if (pt_not (pt_val (pe_fn GC (hr.mono (by decide)) (by rfl) (pa_cons (pv 5) pa_nil)))) (pss_one ps_never) pss_nil)
      (pss_cons (ps_fld (pv 0) (pv 1) rfl) (pss_cons (ps_fld (pv 0) (pv 2) rfl) (pss_cons (ps_fld (pv 0) (pv 3) rfl) (pss_cons (ps_fld (pv 0) (pv 4) rfl) (pss_one (ps_fld (pv 0) (pv 5) rfl))))))))), ?_⟩
    refine ⟨.str d.a, rfl, .str d.b, rfl, by show 2 ≤ sizeLine; rw [sizeLine_eq]; decide, fun p np => ?_⟩
    refine ⟨p, [d.a, d.b], rfl, by show 2 ≤ 1000; decide, fun z hz => ?_, .inl (.inl upd_same), fun H1 s1 => ?_⟩
    · rcases List.mem_cons.mp hz with e | e
      · rw [e]
        exact nm_line ok.a
      · rw [List.mem_singleton.mp e]
        exact nm_line ok.b
    rw [are_two ok.a ok.b ok.ne]
    refine ⟨true, rfl, iteF ?_⟩
    have sm : Same H H1 := (same_new np).trans s1
    have cb : (decide (1 ≤ d.cost) && decide (d.cost ≤ 9)) = true := by rw [decide_eq_true ok.c1, decide_eq_true ok.c9]; rfl
    have nK : ∀ g, g ∈ doorF → NoAttr K C g := T.nK
    have fin : ∀ H2, Same H H2 → Q .non (upd (upd (upd (upd (upd H2 x (.ins C dx [("kept_start", .str d.a)])) x (.ins C dx [("kept_start", .str d.a), ("kept_end", .str d.b)])) x (.ins C dx [("kept_start", .str d.a), ("kept_end", .str d.b), ("kept_key", oV d.key)])) x
        (.ins C dx [("kept_start", .str d.a), ("kept_end", .str d.b), ("kept_key", oV d.key), ("kept_both", .bl d.both)])) x (.ins C dx d.fs)) := fun H2 s2 => q _ (fun b o e hb => by
      rw [upd_ne hb, upd_ne hb, upd_ne hb, upd_ne hb, upd_ne hb]
      exact s2 b o e) upd_same
    cases hk : d.key with
    | none =>
      rw [hk] at fin
      refine ⟨.non, rfl, false, rfl, iteF ?_⟩
      refine ⟨.bl d.both, rfl, .bl d.both, .ty "bool", _, _, true, rfl, .ty _, .base (.bl _), kit_ty (by decide +kernel), true, rfl, iteF ?_⟩
      refine ⟨.int d.cost, rfl, d.cost, rfl, true, by rw [cb], iteF ?_⟩
      refine ⟨.str d.a, rfl, .ref x, rfl, x, C, dx, [], rfl, sm _ _ hx, T.cl, nK _ (by simp), by show 0 < 1000; decide, ?_⟩
      refine ⟨.str d.b, rfl, .ref x, rfl, x, C, dx, _, rfl, upd_same, T.cl, nK _ (by simp), by show 1 < 1000; decide, ?_⟩
      refine ⟨.non, rfl, .ref x, rfl, x, C, dx, _, rfl, upd_same, T.cl, nK _ (by simp), by show 2 < 1000; decide, ?_⟩
      refine ⟨.bl d.both, rfl, .ref x, rfl, x, C, dx, _, rfl, upd_same, T.cl, nK _ (by simp), by show 3 < 1000; decide, ?_⟩
      refine ⟨.int d.cost, rfl, .ref x, rfl, x, C, dx, _, rfl, upd_same, T.cl, nK _ (by simp), by show 4 < 1000; decide, ?_⟩
      have f := fin H1 sm
      unfold DoorD.fs at f
      rw [hk] at f
      exact f
    | some z =>
      rw [hk] at fin
      have hz := ok.key z hk
      refine ⟨.str z, rfl, true, rfl, iteT ?_⟩
      refine ⟨.str z, rfl, z, rfl, nm_line hz, fun H2 s2 => ⟨true, by rw [hz], iteF ?_⟩⟩
      refine ⟨.bl d.both, rfl, .bl d.both, .ty "bool", _, _, true, rfl, .ty _, .base (.bl _), kit_ty (by decide +kernel), true, rfl, iteF ?_⟩
      refine ⟨.int d.cost, rfl, d.cost, rfl, true, by rw [cb], iteF ?_⟩
      refine ⟨.str d.a, rfl, .ref x, rfl, x, C, dx, [], rfl, (sm.trans s2) _ _ hx, T.cl, nK _ (by simp), by show 0 < 1000; decide, ?_⟩
      refine ⟨.str d.b, rfl, .ref x, rfl, x, C, dx, _, rfl, upd_same, T.cl, nK _ (by simp), by show 1 < 1000; decide, ?_⟩
      refine ⟨.str z, rfl, .ref x, rfl, x, C, dx, _, rfl, upd_same, T.cl, nK _ (by simp), by show 2 < 1000; decide, ?_⟩
      refine ⟨.bl d.both, rfl, .ref x, rfl, x, C, dx, _, rfl, upd_same, T.cl, nK _ (by simp), by show 3 < 1000; decide, ?_⟩
      refine ⟨.int d.cost, rfl, .ref x, rfl, x, C, dx, _, rfl, upd_same, T.cl, nK _ (by simp), by show 4 < 1000; decide, ?_⟩
      have f := fin H2 (sm.trans s2)
      unfold DoorD.fs at f
      rw [hk] at f
      exact f
end
end Lk
set_option Elab.async false
set_option linter.all false
set_option maxRecDepth 100000
set_option maxHeartbeats 2000000
namespace LkG
open PySem PySem.Spec PyProof.Rows L2 TxS LkO Lk GenW
def tGIf (tc : TT) (tb to : TGn) : TGn := fun D ys σ H => tc σ H fun b H1 => if b = true then tb D ys σ H1 else to D ys σ H1
theorem gs_if {X : Cx} {test : Expr} {body orelse : List Stmt} {pos : Pos} {tc : TT} {tb to : TGn} (hc : PT X test tc) (hb : GSs X body tb) (ho : GSs X orelse to) : GS X (.If test body orelse pos) (tGIf tc tb to) := by
  refine ⟨fun A S ip R n ys s₀ c fs K J gd lv s σ H D g hn k hI ht => ?_⟩
  obtain ⟨acc, cc, r, I⟩ := hI
  rw [exec_If]
  refine seg_bind_wrap (wpAny_standAt ?_)
  refine seg_bind_wrap ?_
  rw [g.over]
  refine wpAny_mono (hc.run _ s σ H _ I ht) (fun b s' hb' => ?_) fun x s' hx => k.exc n s₀ x s' hx
  obtain ⟨H1, I1, q⟩ := hb'
  cases b with
  | true => exact hb.run A S ip R n ys s₀ c fs K J gd lv s' σ H1 D g hn k ⟨acc, cc, r, I1⟩ q
  | false => exact ho.run A S ip R n ys s₀ c fs K J gd lv s' σ H1 D g hn k ⟨acc, cc, r, I1⟩ q
end LkG
namespace Lk
open PySem PySem.Spec PyProof.Rows L2 TxS LkO LkG GenW
section
variable {P : Program} {w : World} {K : PySem.W.Frag} {mg : Str → Option Value} {base : Heap} {C : Addr}
theorem kb_door {f : Addr} {fd : FuncData} (F : Fun K "__init__" "Door.__init__" s_Door___init__ f fd) : KBn K fd ["self", "start", "end", "key", "both", "cost"] 3 ["key", "both", "cost"] (fun us ws => us ++ ws) (fun vs zs => vs ++ zs) := by
  obtain ⟨oc, od, kV, doc, pm, an, cdv, ct, osl, rfl, lk, hcd⟩ := F.ex
  exact ⟨fun s us ws _ l1 l2 => match us, l1, ws, l2 with | [_, _, _], _, [_, _, _], _ => BindsTo.of_eq rfl, fun r1 r2 => r1.append r2⟩
theorem ok_getter {st : Stmt} {name qual g : Str} {f : Addr} {fd : FuncData} {k : Nat} (F : Fun K name qual st f fd) (S : FnScope ["self"] ["self"] (defScope st)) (hb : ∃ p1 p2 p3, defBody st = [.Return (some (.Attribute (.Name "self" p1) g p2)) p3]) (c : Cls K C) (n : NoAttr K C g) :
    FnOk P w K mg base CX0 (k + 1) f fd ["self"] (getSp C g) := by
  obtain ⟨oc, od, kV, doc, pm, an, cdv, ct, osl, rfl, lk, hcd⟩ := F.ex
  obtain ⟨p1, p2, p3, e⟩ := hb
  exact fn_getter lk hcd S rfl e c n
/-! ### Door.ways -/
def waysOf (d : DoorD) : List (Str × Str) := (d.a, d.b) :: if d.both = true then [(d.b, d.a)] else []
def strPairs (l : List (Str × Str)) : List (V × V) := l.map fun p => (.str p.1, .str p.2)
def spWays (C : Addr) : SpT := fun vs H outs => ∃ (x : Addr) (d : DoorD), vs = [.ref x] ∧ DoorAt C H x d ∧ outs = strPairs (waysOf d)
theorem scWays : GScope ["self"] ["self"] (defScope s_Door_ways) := ⟨rfl, rfl, rfl, by decide +kernel, rfl, by decide +kernel, by decide +kernel⟩
theorem look_door (d : DoorD) : List.lookup ("kept_start" : Str) d.fs = some (V.str d.a) ∧ List.lookup ("kept_end" : Str) d.fs = some (V.str d.b) ∧ List.lookup ("kept_key" : Str) d.fs = some (oV d.key) ∧ List.lookup ("kept_both" : Str) d.fs = some (V.bl d.both) ∧ List.lookup ("kept_cost" : Str) d.fs = some (V.int d.cost) := ⟨rfl, rfl, rfl, rfl, rfl⟩
theorem ok_ways {f : Addr} {fd : FuncData} {k : Nat} (F : Fun K "ways" "Door.ways" s_Door_ways f fd) (T : OwnC K mg C "Door" doorF) : GFt P w K mg base (k + 1) f fd ["self"] (spWays C) := by
  obtain ⟨oc, od, kV, doc, pm, an, cdv, ct, osl, rfl, lk, hcd⟩ := F.ex
  refine ⟨fun vs H outs h => ?_, fun A outer s H args us vs outs hr e0 hb r h => ?_⟩
  · obtain ⟨x, d, rfl, _⟩ := h
    rfl
  · obtain ⟨x, d, rfl, ⟨⟨dx, hx⟩, ok⟩, rfl⟩ := h
    refine call_gt lk hcd scWays hr e0 hb rfl r fun A2 L s1 hr2 hI => ?_
    have q : ∀ g v, g ∈ doorF → d.fs.lookup g = some v → ∀ (Q : VK), Q v H → tFld K (tVar 0) g (start ["self"] [.ref x]) H Q := fun g v hg l Q hq => ⟨.ref x, rfl, x, C, dx, _, v, rfl, hx, T.cl, T.nK g hg, l, hq⟩
    obtain ⟨l1, l2, _, l4, _⟩ := look_door d
    refine gq_cons (gq_yield (x := .str d.a) (y := .str d.b) (ta := tFld K (tVar 0) "kept_start") (tb := tFld K (tVar 0) "kept_end") over_func hI (fun _ => qe_fld (qe_var (i := 0) rfl (.inl rfl)) rfl) (fun _ => qe_fld (qe_var (i := 0) rfl (.inl rfl)) rfl) (q _ _ (by simp) l1 _ ⟨rfl, q _ _ (by simp) l2 _ rfl⟩) ⟨[], rfl⟩)
      (gq_cons (gq_if (d := d.both) (tc := tTest (tFld K (tVar 0) "kept_both")) over_func hI (fun _ => qt_val (qe_fld (qe_var (i := 0) rfl (.inl rfl)) rfl)) (q _ _ (by simp) l4 _ ⟨d.both, rfl, rfl⟩) ?_) gq_nil)
    cases hb : d.both with
    | true =>
      exact gq_cons (gq_yield (x := .str d.b) (y := .str d.a) (ta := tFld K (tVar 0) "kept_end") (tb := tFld K (tVar 0) "kept_start") over_func hI (fun _ => qe_fld (qe_var (i := 0) rfl (.inl rfl)) rfl) (fun _ => qe_fld (qe_var (i := 0) rfl (.inl rfl)) rfl) (q _ _ (by simp) l2 _ ⟨rfl, q _ _ (by simp) l1 _ rfl⟩) ⟨[(.str d.a, .str d.b)], by unfold strPairs waysOf; rw [hb]; rfl⟩) gq_nil
    | false => exact gq_nil
/-- all ways, for list(door.ways()) -/
def spWaysL (C : Addr) : SpG := fun vs H Q _ => ∃ (x : Addr) (d : DoorD), vs = [.ref x] ∧ DoorAt C H x d ∧ (d.both = false → ∀ p, H p = none → Q [.ref p] (upd H p (.tup [.str d.a, .str d.b]))) ∧
  (d.both = true → ∀ p p', H p = none → (upd H p (.tup [.str d.a, .str d.b])) p' = none → Q [.ref p, .ref p'] (upd (upd H p (.tup [.str d.a, .str d.b])) p' (.tup [.str d.b, .str d.a])))
theorem ok_waysL {f : Addr} {fd : FuncData} {k : Nat} (F : Fun K "ways" "Door.ways" s_Door_ways f fd) (T : OwnC K mg C "Door" doorF) : GFn P w K mg base (k + 1) f fd ["self"] (spWaysL C) := by
  obtain ⟨oc, od, kV, doc, pm, an, cdv, ct, osl, rfl, lk, hcd⟩ := F.ex
  refine gfn_of lk hcd scWays (fun vs H Q E h => ?_) fun A outer s H vs Q E pn hr h => ?_
  · obtain ⟨x, d, rfl, _⟩ := h
    rfl
  · obtain ⟨x, d, rfl, ⟨⟨dx, hx⟩, ok⟩, q0, q1⟩ := h
    refine ⟨_, gss_cons (gs_yield (pe_tup (pa_cons (pe_fld (pe_var (i := 0) rfl (.inl rfl)) rfl) (pa_cons (pe_fld (pe_var (i := 0) rfl (.inl rfl)) rfl) pa_nil))))
      (gss_cons (gs_if (pt_val (pe_fld (pe_var (i := 0) rfl (.inl rfl)) rfl)) (gss_cons (gs_yield (pe_tup (pa_cons (pe_fld (pe_var (i := 0) rfl (.inl rfl)) rfl) (pa_cons (pe_fld (pe_var (i := 0) rfl (.inl rfl)) rfl) pa_nil)))) gss_nil) gss_nil) gss_nil), ?_⟩
    obtain ⟨l1, l2, _, l4, _⟩ := look_door d
    have nK := T.nK
    have big : (2 : Nat) ≤ sizeLine := by rw [sizeLine_eq]; decide
    refine ⟨by show 0 < sizeLine; rw [sizeLine_eq]; decide, .ref x, rfl, x, C, dx, _, _, rfl, hx, T.cl, nK _ (by simp), l1, .ref x, rfl, x, C, dx, _, _, rfl, hx, T.cl, nK _ (by simp), l2, big, fun p np => ?_⟩
    have hx1 : (upd H p (.tup [.str d.a, .str d.b])) x = some (.ins C dx d.fs) := by rw [upd_ne (ne_of_none hx np)]; exact hx
    refine ⟨.ref x, rfl, x, C, dx, _, _, rfl, hx1, T.cl, nK _ (by simp), l4, _, rfl, ?_⟩
    cases hb : d.both with
    | false => exact q0 hb p np
    | true => exact ⟨by show 1 < sizeLine; rw [sizeLine_eq]; decide, .ref x, rfl, x, C, dx, _, _, rfl, hx1, T.cl, nK _ (by simp), l2, .ref x, rfl, x, C, dx, _, _, rfl, hx1, T.cl, nK _ (by simp), l1, big, fun p' np' => q1 hb p p' np np'⟩
/-! ### Door.__eq__ -/
def spEqDoor (C : Addr) : Sp := fun vs H Q _ => ∃ (x y : Addr) (d e : DoorD), vs = [.ref x, .ref y] ∧ DoorAt C H x d ∧ DoorAt C H y e ∧ Q (.bl (decide (d = e))) H
theorem scEqD : FnScope ["self", "other"] ["self", "other"] (defScope s_Door___eq__) := ⟨rfl, rfl, rfl, by decide +kernel, rfl, by decide +kernel, by decide +kernel⟩
theorem ov_scal (a b : Option Str) : scal (oV a) (oV b) = true := by cases a <;> cases b <;> rfl
theorem ov_inj (a b : Option Str) : decide (oV a = oV b) = decide (a = b) := by
  cases a <;> cases b <;> simp [oV]
theorem ok_eqDoor {f : Addr} {fd : FuncData} {k : Nat} (F : Fun K "__eq__" "Door.__eq__" s_Door___eq__ f fd) (B : Blt mg) (T : OwnC K mg C "Door" doorF) : FnOk P w K mg base CX0 (k + 1) f fd ["self", "other"] (spEqDoor C) := by
  refine F.ok scEqD (fun vs H Q E h => ?_) (fun cdv A outer s H vs Q E hr h => ?_)
  · obtain ⟨x, y, d, e, rfl, _⟩ := h
    rfl
  · obtain ⟨x, y, d, e, rfl, ⟨⟨dx, hx⟩, _⟩, ⟨⟨dy, hy⟩, _⟩, q⟩ := h
    refine ⟨_, pss_one (ps_ret (pe_and (pe_callB call_isi (by rfl) B.isi PyProof.Rows.boot_isinstance (pa_cons (pv 1) (pa_cons (pe_glob (v := .ref C) (by rfl) T.mgC rfl) pa_nil)))
      (pe_and (pe_cmpR op_eq (pe_fld (pv 0) rfl) (pe_fld (pv 1) rfl) (nomark _)) (pe_and (pe_cmpR op_eq (pe_fld (pv 0) rfl) (pe_fld (pv 1) rfl) (nomark _)) (pe_and (pe_cmpR op_eq (pe_fld (pv 0) rfl) (pe_fld (pv 1) rfl) (nomark _))
      (pe_and (pe_cmpR op_eq (pe_fld (pv 0) rfl) (pe_fld (pv 1) rfl) (nomark _)) (pe_one (pe_cmpR op_eq (pe_fld (pv 0) rfl) (pe_fld (pv 1) rfl) (nomark _))))))))), ?_⟩
    refine ⟨.ref y, rfl, .ref y, .ref C, _, _, true, rfl, .own C, .base (.ins hy T.cl T.tyc T.tyg T.tyt T.tym), T.kit, true, rfl, iteT ?_⟩
    obtain ⟨l1, l2, l3, l4, l5⟩ := look_door d
    obtain ⟨m1, m2, m3, m4, m5⟩ := look_door e
    have nK := T.nK
    obtain ⟨a, b, key, both, cost⟩ := d
    obtain ⟨a', b', key', both', cost'⟩ := e
    have no : ∀ z : DoorD, ∀ z', z ≠ z' → Q (.bl (decide (z = z'))) H → Q (.bl false) H := fun z z' n k => by rw [decide_eq_false n] at k; exact k
    refine ⟨.ref x, rfl, x, C, dx, _, _, rfl, hx, T.cl, nK _ (by simp), l1, .ref y, rfl, y, C, dy, _, _, rfl, hy, T.cl, nK _ (by simp), m1, rfl, _, rfl, ite2 (fun t1 => ?_) (fun t1 => ?_)⟩
    · refine ⟨.ref x, rfl, x, C, dx, _, _, rfl, hx, T.cl, nK _ (by simp), l2, .ref y, rfl, y, C, dy, _, _, rfl, hy, T.cl, nK _ (by simp), m2, rfl, _, rfl, ite2 (fun t2 => ?_) (fun t2 => ?_)⟩
      · refine ⟨.ref x, rfl, x, C, dx, _, _, rfl, hx, T.cl, nK _ (by simp), l3, .ref y, rfl, y, C, dy, _, _, rfl, hy, T.cl, nK _ (by simp), m3, ov_scal _ _, _, rfl, ite2 (fun t3 => ?_) (fun t3 => ?_)⟩
        · refine ⟨.ref x, rfl, x, C, dx, _, _, rfl, hx, T.cl, nK _ (by simp), l4, .ref y, rfl, y, C, dy, _, _, rfl, hy, T.cl, nK _ (by simp), m4, rfl, _, rfl, ite2 (fun t4 => ?_) (fun t4 => ?_)⟩
          · refine ⟨.ref x, rfl, x, C, dx, _, _, rfl, hx, T.cl, nK _ (by simp), l5, .ref y, rfl, y, C, dy, _, _, rfl, hy, T.cl, nK _ (by simp), m5, rfl, ?_⟩
            have e1 := V.str.inj (of_decide_eq_true t1)
            have e2 := V.str.inj (of_decide_eq_true t2)
            have e3 : key = key' := of_decide_eq_true ((ov_inj key key').symm.trans t3)
            have e4 := V.bl.inj (of_decide_eq_true t4)
            simp only at e1 e2 e4
            subst e1 e2 e3 e4
            have e5 : decide (DoorD.mk a b key both cost = DoorD.mk a b key both cost') = decide (V.int cost = V.int cost') := by
              refine decide_eq_decide.mpr ⟨fun h => ?_, fun h => ?_⟩
              · rw [(DoorD.mk.inj h).2.2.2.2]
              · rw [V.int.inj h]
            rw [e5] at q
            exact q
          · exact no _ _ (fun h => t4 (decide_eq_true (by rw [(DoorD.mk.inj h).2.2.2.1]))) q
        · exact no _ _ (fun h => t3 (decide_eq_true (by rw [(DoorD.mk.inj h).2.2.1]))) q
      · exact no _ _ (fun h => t2 (decide_eq_true (by rw [(DoorD.mk.inj h).2.1]))) q
    · exact no _ _ (fun h => t1 (decide_eq_true (by rw [(DoorD.mk.inj h).1]))) q
end
end Lk
set_option Elab.async false
set_option linter.all false
set_option maxRecDepth 100000
set_option maxHeartbeats 2000000
namespace Lk
open PySem PySem.Spec PyProof.Rows L2 TxS LkO LkG
/-! ### Person -/
structure PersonD where
  a : Str
  carried : List Str
  needs : List Str
  shuns : List Str
  deriving DecidableEq
structure PersonD.ok (p : PersonD) : Prop where
  a : isNm p.a = true
  carried : areNm p.carried = true
  needs : areNm p.needs = true
  shuns : areNm p.shuns = true
  apart : ∀ z ∈ p.needs, z ∉ p.shuns
  few1 : p.carried.length ≤ 100
  few2 : p.needs.length ≤ 100
  few3 : p.shuns.length ≤ 100
def personFs (a : Str) (t1 t2 t3 : Addr) : List (Str × V) := [("kept_start", .str a), ("kept_carried", .ref t1), ("kept_needs", .ref t2), ("kept_shuns", .ref t3)]
abbrev personF : List Str := ["kept_start", "kept_carried", "kept_needs", "kept_shuns"]
structure PersonAt (K : PySem.W.Frag) (C : Addr) (H : Hp) (x : Addr) (p : PersonD) : Prop where
  ob : ∃ dx t1 t2 t3, H x = some (.ins C dx (personFs p.a t1 t2 t3)) ∧ SqT K H t1 (p.carried.map V.str) ∧ SqT K H t2 (p.needs.map V.str) ∧ SqT K H t3 (p.shuns.map V.str)
  ok : p.ok
theorem PersonAt.same {K : PySem.W.Frag} {C x : Addr} {H H' : Hp} {p : PersonD} (h : PersonAt K C H x p) (s : Same H H') : PersonAt K C H' x p := by
  obtain ⟨⟨dx, t1, t2, t3, e, h1, h2, h3⟩, ok⟩ := h
  exact ⟨⟨dx, t1, t2, t3, s _ _ e, Same.tup s h1, Same.tup s h2, Same.tup s h3⟩, ok⟩
theorem are_nm {zs : List Str} (h : areNm zs = true) : ∀ z ∈ zs, isNm z = true := by
  unfold areNm at h
  rw [Bool.and_eq_true] at h
  exact List.all_eq_true.mp h.1
theorem are_nd {zs : List Str} (h : areNm zs = true) : zs.Nodup := by
  unfold areNm at h
  rw [Bool.and_eq_true] at h
  exact of_decide_eq_true h.2
theorem look_person (a : Str) (t1 t2 t3 : Addr) : List.lookup ("kept_start" : Str) (personFs a t1 t2 t3) = some (V.str a) ∧ List.lookup ("kept_carried" : Str) (personFs a t1 t2 t3) = some (V.ref t1) ∧ List.lookup ("kept_needs" : Str) (personFs a t1 t2 t3) = some (V.ref t2) ∧
  List.lookup ("kept_shuns" : Str) (personFs a t1 t2 t3) = some (V.ref t3) := ⟨rfl, rfl, rfl, rfl⟩
section
variable {P : Program} {w : World} {K : PySem.W.Frag} {mg : Str → Option Value} {base : Heap} {C : Addr}
def spPerson (K : PySem.W.Frag) (C : Addr) : Sp := fun vs H Q _ => ∃ (x dx t1 t2 t3 : Addr) (p : PersonD), vs = [.ref x, .str p.a, .ref t1, .ref t2, .ref t3] ∧ H x = some (.ins C dx []) ∧ p.ok ∧ SqT K H t1 (p.carried.map V.str) ∧ SqT K H t2 (p.needs.map V.str) ∧ SqT K H t3 (p.shuns.map V.str) ∧
  ∀ H', (∀ b o, H b = some o → b ≠ x → H' b = some o) → H' x = some (.ins C dx (personFs p.a t1 t2 t3)) → Q .non H'
theorem scPerson : FnScope ["self", "start", "carried", "needs", "shuns", "room"] ["self", "start", "carried", "needs", "shuns"] (defScope s_Person___init__) := ⟨rfl, rfl, rfl, by decide +kernel, rfl, by decide +kernel, by decide +kernel⟩
theorem ok_person {f : Addr} {fd : FuncData} (F : Fun K "__init__" "Person.__init__" s_Person___init__ f fd) (B : Blt mg) (T : OwnC K mg C "Person" personF) (GA : Fn P w K mg base 2 "are_names" ["values"] (spAre K)) (GN : Fn P w K mg base 1 "is_name" ["value"] spName) :
    FnOk P w K mg base CX0 3 f fd ["self", "start", "carried", "needs", "shuns"] (spPerson K C) := by
  refine F.ok scPerson (fun vs H Q E h => ?_) (fun cdv A outer s H vs Q E hr h => ?_)
  · obtain ⟨x, dx, t1, t2, t3, p, rfl, _⟩ := h
    rfl
  · obtain ⟨x, dx, t1, t2, t3, p, rfl, hx, ok, h1, h2, h3, q⟩ := h
    refine ⟨_, pss_cons (ps_if (pt_not (pt_val (pe_fn GN (hr.mono (by decide)) (by rfl) (pa_cons (pv 1) pa_nil)))) (pss_one ps_never) pss_nil)
      (pss_cons (ps_if (pt_not (pw_and (pt_val (pe_fn GA hr (by rfl) (pa_cons (pv 2) pa_nil))) (pw_and (pt_val (pe_fn GA hr (by rfl) (pa_cons (pv 3) pa_nil))) (pw_and1 (pt_val (pe_fn GA hr (by rfl) (pa_cons (pv 4) pa_nil)))))).pt) (pss_one ps_never) pss_nil)
      (pss_cons (ps_if (pt_val (pe_callB (cr_any rfl) (by rfl) B.any PyProof.Rows.boot_any (pa_cons (pe_lc (own := [("room", 5)]) (g := gName 5) (tt := tYes) rfl scPerson.nd (pi_tup (pv 3)) (blkOk_by (N := ["self", "start", "carried", "needs", "shuns", "room"]) (sc := defScope s_Person___init__) (by decide +kernel))
        (fun _ _ _ _ _ => pg_name (i := 5) scPerson.nd rfl (Or.inl rfl)) (fun _ _ _ _ _ => pts_nil) (fun _ _ _ _ _ => pe_cmpR (r := rIn K false) op_in_seq (pv 5) (pv 4) rfl)) pa_nil))) (pss_one ps_never) pss_nil)
      (pss_cons (ps_fld (pv 0) (pv 1) rfl) (pss_cons (ps_fld (pv 0) (pv 2) rfl) (pss_cons (ps_fld (pv 0) (pv 3) rfl) (pss_one (ps_fld (pv 0) (pv 4) rfl))))))), ?_⟩
    have nmA := nm_line ok.a
    refine ⟨.str p.a, rfl, p.a, rfl, nmA, fun H1 s1 => ⟨true, by rw [ok.a], iteF ?_⟩⟩
    refine ⟨.ref t1, rfl, t1, p.carried, rfl, by have := ok.few1; omega, fun z hz => nm_line (are_nm ok.carried z hz), Same.tup s1 h1, fun H2 s2 => ⟨true, by rw [ok.carried], iteT ?_⟩⟩
    have s12 := s1.trans s2
    refine ⟨.ref t2, rfl, t2, p.needs, rfl, by have := ok.few2; omega, fun z hz => nm_line (are_nm ok.needs z hz), Same.tup s12 h2, fun H3 s3 => ⟨true, by rw [ok.needs], iteT ?_⟩⟩
    have s13 := s12.trans s3
    refine ⟨.ref t3, rfl, t3, p.shuns, rfl, by have := ok.few3; omega, fun z hz => nm_line (are_nm ok.shuns z hz), Same.tup s13 h3, fun H4 s4 => ⟨true, by rw [ok.shuns], iteF ?_⟩⟩
    have s14 := s13.trans s4
    refine ⟨.ref t2, rfl, t2, rfl, ⟨_, Same.tup s14 h2⟩, fun D nD => lc_m (walk_tup (xs := p.needs.map V.str)) p.needs (fun z => .bl (decide (z ∈ p.shuns))) (by rw [List.length_map]) nD (by have := ok.few2; omega) (fun H' s => Same.tup (s14.trans s) h2) (fun i z x H2 H3 Kt hz s2 hY k => ?_) (fun H5 s5 e => ?_)⟩
    · obtain ⟨rfl, hx⟩ := hY
      rw [List.getElem?_map, hz] at hx
      cases hx
      refine ⟨rfl, .str z, rfl, .ref t3, rfl, t3, _, rfl, .inr (Same.tup (s14.trans s2) h3), rfl, flat_strs p.shuns, ?_⟩
      rw [inV_str]
      exact k _ (Same.refl _)
    · have no : (p.needs.map fun z => decide (z ∈ p.shuns)).any id = false := by
        rw [List.any_map]
        refine List.any_eq_false.mpr fun z hz => ?_
        simp [ok.apart z hz]
      have s15 := s14.trans s5
      refine ⟨D, p.needs.map fun z => decide (z ∈ p.shuns), rfl, .inl (.inl (by rw [List.map_map]; exact e)), false, by rw [no], iteF ?_⟩
      have nK := T.nK
      refine ⟨.str p.a, rfl, .ref x, rfl, x, C, dx, [], rfl, s15 _ _ hx, T.cl, nK _ (by simp), by show 0 < 1000; decide, ?_⟩
      refine ⟨.ref t1, rfl, .ref x, rfl, x, C, dx, _, rfl, upd_same, T.cl, nK _ (by simp), by show 1 < 1000; decide, ?_⟩
      refine ⟨.ref t2, rfl, .ref x, rfl, x, C, dx, _, rfl, upd_same, T.cl, nK _ (by simp), by show 2 < 1000; decide, ?_⟩
      refine ⟨.ref t3, rfl, .ref x, rfl, x, C, dx, _, rfl, upd_same, T.cl, nK _ (by simp), by show 3 < 1000; decide, ?_⟩
      refine q _ (fun b o e hb => ?_) upd_same
      rw [upd_ne hb, upd_ne hb, upd_ne hb, upd_ne hb]
      exact s15 b o e
theorem kb_person {f : Addr} {fd : FuncData} (F : Fun K "__init__" "Person.__init__" s_Person___init__ f fd) : KBn K fd ["self", "start", "carried", "needs", "shuns"] 2 ["carried", "needs", "shuns"] (fun us ws => us ++ ws) (fun vs zs => vs ++ zs) := by
  obtain ⟨oc, od, kV, doc, pm, an, cdv, ct, osl, rfl, lk, hcd⟩ := F.ex
  exact ⟨fun s us ws _ l1 l2 => match us, l1, ws, l2 with | [_, _], _, [_, _, _], _ => BindsTo.of_eq rfl, fun r1 r2 => r1.append r2⟩
/-! ### Person.__eq__ -/
def spEqPerson (K : PySem.W.Frag) (C : Addr) : Sp := fun vs H Q _ => ∃ (x y : Addr) (d e : PersonD), vs = [.ref x, .ref y] ∧ PersonAt K C H x d ∧ PersonAt K C H y e ∧ Q (.bl (decide (d = e))) H
theorem scEqP : FnScope ["self", "other"] ["self", "other"] (defScope s_Person___eq__) := ⟨rfl, rfl, rfl, by decide +kernel, rfl, by decide +kernel, by decide +kernel⟩
theorem eqv_tups (zs ws : List Str) : PyData.eqv (.tuple (zs.map PyData.str)) (.tuple (ws.map PyData.str)) = decide (zs = ws) := by
  rw [PyData.eqv, eqvAll_strs]
theorem ok_eqPerson {f : Addr} {fd : FuncData} {k : Nat} (F : Fun K "__eq__" "Person.__eq__" s_Person___eq__ f fd) (B : Blt mg) (T : OwnC K mg C "Person" personF) : FnOk P w K mg base CX0 (k + 1) f fd ["self", "other"] (spEqPerson K C) := by
  refine F.ok scEqP (fun vs H Q E h => ?_) (fun cdv A outer s H vs Q E hr h => ?_)
  · obtain ⟨x, y, d, e, rfl, _⟩ := h
    rfl
  · obtain ⟨x, y, d, e, rfl, ⟨⟨dx, t1, t2, t3, hx, h1, h2, h3⟩, okd⟩, ⟨⟨dy, u1, u2, u3, hy, g1, g2, g3⟩, oke⟩, q⟩ := h
    refine ⟨_, pss_one (ps_ret (pe_and (pe_callB call_isi (by rfl) B.isi PyProof.Rows.boot_isinstance (pa_cons (pv 1) (pa_cons (pe_glob (v := .ref C) (by rfl) T.mgC rfl) pa_nil)))
      (pe_and (pe_cmpR op_eq (pe_fld (pv 0) rfl) (pe_fld (pv 1) rfl) (nomark _)) (pe_and (pe_cmpR (op_eqD hr.units) (pe_fld (pv 0) rfl) (pe_fld (pv 1) rfl) (nomark _)) (pe_and (pe_cmpR (op_eqD hr.units) (pe_fld (pv 0) rfl) (pe_fld (pv 1) rfl) (nomark _))
      (pe_one (pe_cmpR (op_eqD hr.units) (pe_fld (pv 0) rfl) (pe_fld (pv 1) rfl) (nomark _)))))))), ?_⟩
    refine ⟨.ref y, rfl, .ref y, .ref C, _, _, true, rfl, .own C, .base (.ins hy T.cl T.tyc T.tyg T.tyt T.tym), T.kit, true, rfl, iteT ?_⟩
    have nK := T.nK
    obtain ⟨l1, l2, l3, l4⟩ := look_person d.a t1 t2 t3
    obtain ⟨m1, m2, m3, m4⟩ := look_person e.a u1 u2 u3
    have sh : ∀ {zs : List Str}, areNm zs = true → SeqAt.shaped (.tuple (zs.map PyData.str)) = true := fun {zs} h => shaped_strsT fun z hz => nm_ok (are_nm h z hz)
    have o1 := okd.carried
    have o2 := okd.needs
    have o3 := okd.shuns
    have p1 := oke.carried
    have p2 := oke.needs
    have p3 := oke.shuns
    obtain ⟨a, ca, ne, su⟩ := d
    obtain ⟨a', ca', ne', su'⟩ := e
    have no : ∀ z : PersonD, ∀ z', z ≠ z' → Q (.bl (decide (z = z'))) H → Q (.bl false) H := fun z z' n k => by rw [decide_eq_false n] at k; exact k
    refine ⟨.ref x, rfl, x, C, dx, _, _, rfl, hx, T.cl, nK _ (by simp), l1, .ref y, rfl, y, C, dy, _, _, rfl, hy, T.cl, nK _ (by simp), m1, rfl, _, rfl, ite2 (fun c1 => ?_) (fun c1 => ?_)⟩
    · refine ⟨.ref x, rfl, x, C, dx, _, _, rfl, hx, T.cl, nK _ (by simp), l2, .ref y, rfl, y, C, dy, _, _, rfl, hy, T.cl, nK _ (by simp), m2, _, _, .tup h1 (dp_strs ca), .tup g1 (dp_strs ca'), sh o1, sh p1, _, rfl, ?_⟩
      rw [eqv_tups]
      refine ite2 (fun c2 => ?_) (fun c2 => ?_)
      · refine ⟨.ref x, rfl, x, C, dx, _, _, rfl, hx, T.cl, nK _ (by simp), l3, .ref y, rfl, y, C, dy, _, _, rfl, hy, T.cl, nK _ (by simp), m3, _, _, .tup h2 (dp_strs ne), .tup g2 (dp_strs ne'), sh o2, sh p2, _, rfl, ?_⟩
        rw [eqv_tups]
        refine ite2 (fun c3 => ?_) (fun c3 => ?_)
        · refine ⟨.ref x, rfl, x, C, dx, _, _, rfl, hx, T.cl, nK _ (by simp), l4, .ref y, rfl, y, C, dy, _, _, rfl, hy, T.cl, nK _ (by simp), m4, _, _, .tup h3 (dp_strs su), .tup g3 (dp_strs su'), sh o3, sh p3, ?_⟩
          rw [eqv_tups]
          have e1 := V.str.inj (of_decide_eq_true c1)
          have e2 := of_decide_eq_true c2
          have e3 := of_decide_eq_true c3
          simp only at e1
          subst e1 e2 e3
          have e5 : decide (PersonD.mk a ca ne su = PersonD.mk a ca ne su') = decide (su = su') := decide_eq_decide.mpr ⟨fun h => (PersonD.mk.inj h).2.2.2, fun h => by rw [h]⟩
          rw [e5] at q
          exact q
        · exact no _ _ (fun h => c3 (decide_eq_true (PersonD.mk.inj h).2.2.1)) q
      · exact no _ _ (fun h => c2 (decide_eq_true (PersonD.mk.inj h).2.1)) q
    · exact no _ _ (fun h => c1 (decide_eq_true (by rw [(PersonD.mk.inj h).1]))) q
end
end Lk
set_option Elab.async false
set_option linter.all false
set_option maxRecDepth 100000
set_option maxHeartbeats 2000000
/-! Dicts: tuple(d), len(d) of a frozen one, d == d by the items' own ==, tables of names. -/
namespace Lk
open PySem PySem.Spec PyProof.Rows L2 TxS LkO
section
variable {prog : Program} {w : World} {A : Around} {E : Value → Shared → Prop} {s : Shared} {T : String} {r d : Addr} {n : Nat} {P : Nat → Value → Prop} {OK : Heap → Prop}
theorem new_tup {Q : Value → Shared → Prop} (K : PySem.W.KdlSrc prog w T r d n P OK) (hh : A.handled = none) (hok : OK s.heap) (hn : n ≤ sizeLine) (hT : T = "dict")
    (q : ∀ (h' : Heap) (tk : Nat) (acc : Array Value), (∀ b o, s.heap.get? b = some o → h'.get? b = some o) → ItemsOf P acc n → Q (.ref h'.objs.size) { s with heap := h'.push { cls := .type "tuple", data := .seq acc }, toks := tk }) :
    codeAny (model prog w) A (.call (.builtin "tuple.__new__") ⟨[.type "tuple", .ref r], []⟩) (wants Q E) s := by
  refine codeAny_of_tree ?_
  show wpAny _ A.in1 (do
    checkBuiltinCall "tuple.__new__" ⟨[.type "tuple", .ref r], []⟩
    again (.builtin "tuple.__new__" ⟨[.type "tuple", .ref r], []⟩)) _ _ s
  refine wpAny_bind (wpAny_of_eq (F.newCall_tuple_1 _) (wpAny_pure ⟨plainId_quiet F.plain_tuple_new _, codeAny_builtin F.entry_tuple_new ?_⟩))
  rw [Around.under_plainId F.plain_tuple_new _]
  have z1 := sub_tuple_self
  have z2 := init_tuple_lookup
  have z3 := madeHere_tuple
  have ty : s.TypeIs (.ref r) "dict" := by rw [← hT]; exact K.type s hok
  have hh1 : A.in1.handled = none := hh
  wp_walk using wpAny_typeOf ty, PySem.W.kdu_collect (A := A.in1) K hh1 hok hn
  intro h' tk acc kp hacc
  show wpAny _ _ (Builtin.Tuple.tupleExact acc.toList.toArray >>= fun v => ret v) _ _ _
  unfold Builtin.Tuple.tupleExact
  refine wpAny_bind (wpAny_newObj_type (wpAny_pure ?_) ?_)
  · rw [show acc.toList.toArray = acc from by simp]
    exact q h' tk acc kp hacc
  · show acc.toList.toArray.size ≤ sizeLine
    rw [show acc.toList.toArray = acc from by simp, hacc.1]
    exact hn
theorem call_tupK {Q : Value → Shared → Prop} (K : PySem.W.KdlSrc prog w T r d n P OK) (hh : A.handled = none) (hok : OK s.heap) (hn : n ≤ sizeLine) (hT : T = "dict")
    (q : ∀ (h' : Heap) (tk : Nat) (acc : Array Value), (∀ b o, s.heap.get? b = some o → h'.get? b = some o) → ItemsOf P acc n → Q (.ref h'.objs.size) { s with heap := h'.push { cls := .type "tuple", data := .seq acc }, toks := tk }) :
    wpAny (model prog w) A (call (.type "tuple") [.ref r]) Q E s := by
  refine callType_codes (Q₁ := fun obj s1 => s1.TypeIs obj "tuple" ∧ Q obj s1) F.called_tuple (F.typeCall_tuple_1 _) F.entry_object_init
    (new_tup (A := A.in1) K hh hok hn hT fun h' tk acc kp hacc => ⟨⟨_, Heap.get?_push_size _ rfl, rfl⟩, q h' tk acc kp hacc⟩) fun obj s1 z => ?_
  exact ⟨z.1, F.args_object_init_2 obj _, object_init_meets F.called_tuple.init.lookup F.called_tuple.made (by decide) prog w A.in1 _ s1 ⟨z.1, rfl, z.2⟩⟩
end
section
variable {X : Cx}
/-- tuple(d): its keys -/
theorem cr_tupleD (calm : X.calm = true) : CallR X (.type "tuple") (fun xs H Q => ∃ (a : Addr) (kvs : List (Key × V)), xs = [.ref a] ∧ Rd H a (.dK kvs) ∧ ∀ p, H p = none → Q (.ref p) (upd H p (.tup (kvs.map fun kv => kV kv.1)))) := by
  intro pins s σ H xs us Q I r q
  obtain ⟨a, kvs, rfl, hd, q⟩ := q
  rw [Vals.ref1 r]
  obtain ⟨z, lo, vs, rel, dd⟩ := dk_rd I.hok hd
  obtain ⟨ep, at_⟩ := dd.dictAt
  have ek : (kvs.map fun kv => kV kv.1) = vs.map fun p => kV p.1 := by
    have e := congrArg (List.map kV) rel.keys
    rw [List.map_map, List.map_map] at e
    exact e
  refine call_tupK (PySem.W.kdl_dict (knd := mixKind X.prog X.w) (kvs := vs) (ep := ep) lo) (I.ok.hd calm) at_ (by rw [← rel.length]; exact z) rfl fun h' tk acc kp hacc => ?_
  have hv : Vals (vs.map fun p => kV p.1) acc.toList := keys_at (by rw [Array.length_toList]; exact hacc.1) fun j v e => hacc.2 j v (by rw [← Array.getElem?_toList]; exact e)
  have I1 : Inv X pins σ H { s with heap := h', toks := tk } := I.kept kp
  have I2 : Inv X pins σ (upd H h'.objs.size (.tup (kvs.map fun kv => kV kv.1))) { s with heap := h'.push { cls := .type "tuple", data := .seq acc }, toks := tk } :=
    I1.laid (t' := tk) (fun b o e => Heap.get?_push_of_some _ e) (Nat.le_refl _) ⟨by rw [List.length_map]; exact z, acc.toList, by rw [ek]; exact hv, ⟨_, Heap.get?_push_size _ rfl, rfl, 0, by simp⟩⟩
  exact ⟨.ref h'.objs.size, _, I2, rfl, q _ (I1.hok.fresh (Nat.le_refl _))⟩
theorem cr_lenR : CallR X (.builtin "len") (fun xs H Q => ∃ a kvs, xs = [V.ref a] ∧ Rd H a (.dK kvs) ∧ Q (.int kvs.length) H) := by
  intro pins s σ H xs us Q I r h
  obtain ⟨a, kvs, rfl, ha, q⟩ := h
  rw [Vals.ref1 r]
  exact d_len I ha fun t s' J => ⟨.int kvs.length, H, J, ⟨t, rfl⟩, q⟩
end
/-! ### d == d, item by item -/
section
variable {prog : Program} {w : World} {κ : Type} [DecidableEq κ] {knd : KeyKind prog w κ} {A : Around} {E : Value → Shared → Prop} {s : Shared}
theorem same_pairs {nm : String} {a b : Addr} {oa ob : Obj} {es es' : Array DictEntry} {ep ep' : Nat} {Q : Bool → Shared → Prop} (na : (a == sysModules) = false) (nb : (b == sysModules) = false) (L : Shared → Prop) (la : ∀ s', L s' → s'.heap.get? a = some oa) (lb : ∀ s', L s' → s'.heap.get? b = some ob)
    (da : oa.data = .dict es ep) (db : ob.data = .dict es' ep') (kb : KeysOf knd es') (sz : es.size = es'.size)
    (turn : ∀ (i : Nat) (hi : i < es.size), ∃ k j, ∃ hj : j < es'.size, knd.is k es[i].key = true ∧ es[i].hash = knd.hash k ∧ es'.findIdx? (fun e => knd.is k e.key) = some j ∧ ∀ s', L s' → wpAny (model prog w) A (eqBool es[i].val es'[j].val) (fun r s2 => r = true ∧ L s2) E s')
    (l0 : L s) (q : ∀ s', L s' → Q true s') : wpAny (model prog w) A (Builtin.Dict.samePairs nm a b) Q E s := by
  unfold Builtin.Dict.samePairs Builtin.Dict.showsAll
  rw [na, nb]
  simp only [Bool.false_eq_true, if_false]
  refine wpAny_bind (wpAny_pure (wpAny_bind (wpAny_pure ?_)))
  refine wpAny_bind (wpAny_dictEntries (la s l0) da ?_)
  refine wpAny_bind (wpAny_dictEntries (lb s l0) db ?_)
  rw [if_neg (show ¬ ((es.size != es'.size) = true) from by rw [sz]; simp)]
  refine wpAny_bind (wpAny_dictEpoch (la s l0) da ?_)
  refine wpAny_bind ?_
  rw [Std.Legacy.Range.forIn_eq_forIn_range']
  simp only [Std.Legacy.Range.size, Nat.sub_zero, Nat.add_sub_cancel, Nat.div_one]
  refine wpAny_forIn_list _ (fun rest p s' => L s' ∧ p = (none, ()) ∧ ∃ i, rest = List.range' i (es.size - i) ∧ i ≤ es.size) _ ?_ ?_ _ _ ⟨l0, rfl, 0, by simp, Nat.zero_le _⟩
  · rintro x rest p s' ⟨ls, rfl, i, hr, hi⟩
    have lt : i < es.size := by
      rcases Nat.lt_or_ge i es.size with z | z
      · exact z
      · rw [Nat.sub_eq_zero_of_le z] at hr
        cases hr
    rw [show es.size - i = (es.size - (i + 1)) + 1 from by omega, List.range'_succ] at hr
    injection hr with e1 e2
    subst e1
    obtain ⟨k, j, hj, hk, hh, hf, tn⟩ := turn x lt
    refine wpAny_bind (wpAny_dictEntries (la s' ls) da ?_)
    rw [Array.getElem?_eq_getElem lt]
    show wpAny _ _ (holding [es[x].key, es[x].val] _ >>= _) _ _ _
    rw [hh]
    refine wpAny_bind (wpAny_holding (wpAny_bind (wpAny_dictFind_of hk (lb s' ls) db kb ?_)))
    rw [hf]
    refine wpAny_bind (wpAny_dictEntries (lb s' ls) db ?_)
    rw [Array.getElem?_eq_getElem hj]
    refine wpAny_holding (wpAny_mono (tn s' ls) (fun r s2 z => ?_) fun _ _ z => z)
    obtain ⟨rfl, l2⟩ := z
    show wpAny _ _ (if (!true) = true then _ else _) _ _ _
    rw [if_neg (by decide)]
    refine wpAny_bind (wpAny_dictEpoch (la s2 l2) da ?_)
    rw [if_neg (by simp)]
    exact wpAny_pure ⟨l2, rfl, x + 1, e2, lt⟩
  · rintro p s' ⟨ls, rfl, _⟩
    exact wpAny_pure (q s' ls)
theorem rc_same {a b : Addr} {oa ob : Obj} {es es' : Array DictEntry} {ep ep' : Nat} {Q : Value → Shared → Prop} (na : (a == sysModules) = false) (nb : (b == sysModules) = false) (L : Shared → Prop) (la : ∀ s', L s' → s'.heap.get? a = some oa) (lb : ∀ s', L s' → s'.heap.get? b = some ob)
    (xa : oa.ExactDict) (xb : ob.ExactDict) (da : oa.data = .dict es ep) (db : ob.data = .dict es' ep') (kb : KeysOf knd es') (sz : es.size = es'.size) (hu : A.units < cLine)
    (turn : ∀ (i : Nat) (hi : i < es.size), ∃ k j, ∃ hj : j < es'.size, knd.is k es[i].key = true ∧ es[i].hash = knd.hash k ∧ es'.findIdx? (fun e => knd.is k e.key) = some j ∧ ∀ s', L s' → wpAny (model prog w) A.in1 (eqBool es[i].val es'[j].val) (fun r s2 => r = true ∧ L s2) E s')
    (l0 : L s) (q : ∀ s', L s' → Q (.bool true) s') : wpAny (model prog w) A (richCompare .Eq (.ref a) (.ref b)) Q E s := by
  have ta : s.TypeIs (.ref a) "dict" := ⟨oa, la s l0, xa.1⟩
  have tb : s.TypeIs (.ref b) "dict" := ⟨ob, lb s l0, xb.1⟩
  refine wpAny_richCompare_same_room (op := .Eq) ta tb PySem.F.slot_dict_eq (wpAny_call_entry PySem.F.slot_dict_eq ta PySem.F.entry_dict_eq ?_ (PySem.F.args_dict_eq_2 _ _)) hu
  show wpAny _ _ (Builtin.Dict.dictSlotArgs "__eq__" ⟨[.ref a, .ref b], []⟩ >>= _) _ _ s
  refine wpAny_bind ?_
  unfold Builtin.Dict.dictSlotArgs
  refine wpAny_bind (wpAny_notOrdered_dict ta (wpAny_pure ?_))
  refine wpAny_bind (wpAny_isInstance (T := "dict") tb PySem.F.sub_dict_dict ?_)
  simp only [Bool.not_true, Bool.false_eq_true, if_false]
  refine wpAny_bind (wpAny_pure (wpAny_bind (wpAny_pure ?_)))
  refine wpAny_bind (same_pairs (knd := knd) na nb L la lb da db kb sz turn l0 fun s' ls => ?_)
  exact wpAny_pure ⟨_, rfl, (fun x => nomatch x), q s' ls⟩
end
/-- two frozen dicts whose items D sees to be equal -/
def DDict (D : Eqv) : Eqv := fun x y H => ∃ a b oa ob ks ls, x = .ref a ∧ y = .ref b ∧ H a = some (.frz oa (.dK ks)) ∧ H b = some (.frz ob (.dK ls)) ∧ ks.length = ls.length ∧ ∀ p ∈ ks, ∃ v, valV ls p.1 = some v ∧ D p.2 v H
theorem rcG_dict {X : Cx} {n : Nat} {D : Eqv} (mon : Mon D) (h : EqG X n D) : RcG X (n + 1) (DDict D) := by
  intro A pins s σ H x y u v sb I rx ry d
  obtain ⟨a, b, oa, ob, ks, ls, rfl, rfl, ha, hb, len, each⟩ := d
  cases rx
  cases ry
  obtain ⟨ga, _, na, va, ra, oa', es, ep, ga', xa, da, ka, pa, _⟩ := (show ObjOk X.prog X.w H s.heap a (.frz oa (.dK ks)) from I.hok a _ ha)
  obtain ⟨gb, _, nb, vb, rb, ob', es', ep', gb', xb, db, kb, pb, _⟩ := (show ObjOk X.prog X.w H s.heap b (.frz ob (.dK ls)) from I.hok b _ hb)
  rw [ga] at ga'
  rw [gb] at gb'
  cases ga'
  cases gb'
  have la : es.size = ks.length := by rw [ra.length, ← pa.length, Array.length_toList]
  have lb : es'.size = ls.length := by rw [rb.length, ← pb.length, Array.length_toList]
  refine rc_same (knd := mixKind X.prog X.w) na nb (fun s' => LoopI X pins σ H s') (fun s' q => ?_) (fun s' q => ?_) xa xb da db kb (by rw [la, lb, len]) sb.room.units0 (fun i hi => ?_) ⟨H, I, Ext.rfl'⟩ (fun s' q => ⟨rfl, q⟩)
  · obtain ⟨H1, I1, e1⟩ := q
    exact (show ObjOk X.prog X.w H1 s'.heap a (.frz oa (.dK ks)) from I1.hok a _ (e1 _ _ ha)).1
  · obtain ⟨H1, I1, e1⟩ := q
    exact (show ObjOk X.prog X.w H1 s'.heap b (.frz ob (.dK ls)) from I1.hok b _ (e1 _ _ hb)).1
  · have hik : i < ks.length := la ▸ hi
    have hiv : i < va.length := ra.length ▸ hik
    obtain ⟨hkey, hval⟩ := pa.get? (i := i) (e := es[i]) (k := va[i].1) (v := va[i].2) (by rw [Array.getElem?_toList]; exact Array.getElem?_eq_getElem hi) (by rw [List.getElem?_eq_getElem hiv])
    have rk : ks[i].1 = va[i].1 ∧ RelV ks[i].2 va[i].2 := by
      have g : ∀ {l : List (Key × V)} {m : List (Key × Value)}, KV l m → ∀ (i : Nat) (h1 : i < l.length) (h2 : i < m.length), l[i].1 = m[i].1 ∧ RelV l[i].2 m[i].2 := fun {l m} r => by
        unfold KV at r
        induction r with
        | nil => intro i h1; cases h1
        | cons z _ ih =>
          intro i h1 h2
          cases i with
          | zero => exact z
          | succ i => exact ih i (Nat.lt_of_succ_lt_succ h1) (Nat.lt_of_succ_lt_succ h2)
      exact g ra i hik hiv
    obtain ⟨k', hk', hh⟩ := ka es[i] (Array.getElem_mem hi)
    have ek : k' = va[i].1 := (mixKind X.prog X.w).inj _ _ _ hk' hkey
    rw [ek] at hh
    obtain ⟨v, hv, dv⟩ := each ks[i] (List.getElem_mem hik)
    rw [rk.1] at hv
    have rel := rb.val va[i].1
    rw [hv] at rel
    obtain ⟨y, hy, ry⟩ := RelO.some_of rel
    have fb : findBy (mixKind X.prog X.w).is es' va[i].1 = some y := by
      rw [← hy, ← pb.find va[i].1]
      unfold findBy
      rw [← Array.find?_toList]
    rw [findBy_of_findIdx?] at fb
    cases hj : es'.findIdx? fun e => (mixKind X.prog X.w).is va[i].1 e.key with
    | none =>
      rw [hj] at fb
      cases fb
    | some j =>
      rw [hj] at fb
      obtain ⟨hjl, _, _⟩ := Array.findIdx?_eq_some_iff_getElem.mp hj
      have ey : es'[j].val = y := by
        have fb : (es'[j]?).map (·.val) = some y := fb
        rw [Array.getElem?_eq_getElem hjl] at fb
        exact Option.some.inj fb
      refine ⟨va[i].1, j, hjl, hkey, hh, hj, fun s' q => ?_⟩
      obtain ⟨H1, I1, e1⟩ := q
      rw [hval, ey]
      refine wpAny_mono (h A.in1 pins s' σ H1 ks[i].2 v va[i].2 y sb.in1 I1 rk.2 ry (mon _ _ _ _ e1 dv)) (fun r s2 z => ?_) fun _ _ z => z
      obtain ⟨er, H2, I2, e2⟩ := z
      exact ⟨er, H2, I2, e1.trans e2⟩
/-! ### tables by names -/
def Tab {α : Type} (R : V → α → Prop) (kvs : List (Key × V)) (l : List (Str × α)) : Prop := Paired (fun (kv : Key × V) (p : Str × α) => kv.1 = .inr p.1 ∧ R kv.2 p.2) kvs l
theorem Tab.mono {α : Type} {R R' : V → α → Prop} {kvs : List (Key × V)} {l : List (Str × α)} (t : Tab R kvs l) (h : ∀ v a, R v a → R' v a) : Tab R' kvs l := Paired.mono (fun _ _ z => ⟨z.1, h _ _ z.2⟩) t
theorem Tab.len {α : Type} {R : V → α → Prop} {kvs : List (Key × V)} {l : List (Str × α)} (t : Tab R kvs l) : kvs.length = l.length := Paired.length t
theorem Tab.keys {α : Type} {R : V → α → Prop} : ∀ {kvs : List (Key × V)} {l : List (Str × α)}, Tab R kvs l → kvs.map (·.1) = (l.map (·.1)).map Sum.inr
  | _, _, .nil => rfl
  | _, _, .cons z t => by rw [List.map_cons, List.map_cons, List.map_cons, z.1, Tab.keys t]
theorem Tab.kV {α : Type} {R : V → α → Prop} {kvs : List (Key × V)} {l : List (Str × α)} (t : Tab R kvs l) : (kvs.map fun kv => L2.kV kv.1) = (l.map (·.1)).map V.str := by
  have e := congrArg (List.map L2.kV) t.keys
  rw [List.map_map, List.map_map] at e
  exact e
theorem Tab.val {α : Type} {R : V → α → Prop} {z : Str} : ∀ {kvs : List (Key × V)} {l : List (Str × α)}, Tab R kvs l → ∀ {a : α}, l.lookup z = some a → ∃ v, valV kvs (.inr z) = some v ∧ R v a
  | _, _, .nil, a, h => by cases h
  | (k, v) :: _, (y, b) :: _, .cons e t, a, h => by
    obtain ⟨rfl, hr⟩ := (show k = Sum.inr y ∧ R v b from e)
    by_cases hy : z = y
    · subst hy
      rw [List.lookup_cons, beq_self_eq_true] at h
      cases h
      exact ⟨v, valV_pos rfl, hr⟩
    · rw [List.lookup_cons, beq_eq_false_iff_ne.mpr hy] at h
      obtain ⟨u, e1, e2⟩ := Tab.val t h
      refine ⟨u, ?_, e2⟩
      rw [← e1]
      unfold valV
      rw [List.find?_cons, decide_eq_false (fun q => hy (Sum.inr.inj q).symm)]
theorem Tab.none {α : Type} {R : V → α → Prop} {z : Str} : ∀ {kvs : List (Key × V)} {l : List (Str × α)}, Tab R kvs l → l.lookup z = Option.none → valV kvs (.inr z) = Option.none
  | _, _, .nil, _ => rfl
  | (k, v) :: _, (y, b) :: _, .cons e t, h => by
    obtain ⟨rfl, hr⟩ := (show k = Sum.inr y ∧ R v b from e)
    by_cases hy : z = y
    · subst hy
      rw [List.lookup_cons, beq_self_eq_true] at h
      cases h
    · rw [List.lookup_cons, beq_eq_false_iff_ne.mpr hy] at h
      have e1 := Tab.none t h
      rw [← e1]
      unfold valV
      rw [List.find?_cons, decide_eq_false (fun q => hy (Sum.inr.inj q).symm)]
theorem Tab.get {α : Type} {R : V → α → Prop} : ∀ {kvs : List (Key × V)} {l : List (Str × α)} {i : Nat} {p : Str × α}, Tab R kvs l → l[i]? = some p → ∃ v, kvs[i]? = some (.inr p.1, v) ∧ R v p.2
  | _, _, _, _, .nil, h => by simp at h
  | (k, v) :: _, (y, b) :: _, 0, p, .cons e _, h => by
    obtain ⟨rfl, hr⟩ := (show k = Sum.inr y ∧ R v b from e)
    cases h
    exact ⟨v, rfl, hr⟩
  | _ :: _, _ :: _, i + 1, p, .cons _ t, h => by
    obtain ⟨u, e1, e2⟩ := Tab.get (i := i) t h
    exact ⟨u, e1, e2⟩
/-- names that differ: what stands at a place is what is found -/
theorem look_at {α : Type} : ∀ {l : List (Str × α)} {p : Str × α}, (l.map (·.1)).Nodup → p ∈ l → l.lookup p.1 = some p.2
  | [], _, _, h => by cases h
  | (y, b) :: r, p, nd, h => by
    rw [List.map_cons, List.nodup_cons] at nd
    rcases List.mem_cons.mp h with e | e
    · subst e
      rw [List.lookup_cons, beq_self_eq_true]
    · have ny : p.1 ≠ y := fun z => nd.1 (by rw [← z]; exact List.mem_map_of_mem (f := (·.1)) e)
      rw [List.lookup_cons, beq_eq_false_iff_ne.mpr ny]
      exact look_at nd.2 e
theorem look_mem {α : Type} {z : Str} {a : α} : ∀ {l : List (Str × α)}, l.lookup z = some a → (z, a) ∈ l
  | [], h => by cases h
  | (y, b) :: r, h => by
    by_cases hy : z = y
    · subst hy
      rw [List.lookup_cons, beq_self_eq_true] at h
      cases h
      exact List.mem_cons_self
    · rw [List.lookup_cons, beq_eq_false_iff_ne.mpr hy] at h
      exact List.mem_cons_of_mem _ (look_mem h)
theorem look_name {α : Type} {z : Str} : ∀ {l : List (Str × α)}, z ∈ l.map (·.1) → ∃ a, l.lookup z = some a
  | [], h => by cases h
  | (y, b) :: r, h => by
    by_cases hy : z = y
    · subst hy
      exact ⟨b, by rw [List.lookup_cons, beq_self_eq_true]⟩
    · rw [List.lookup_cons, beq_eq_false_iff_ne.mpr hy]
      exact look_name ((List.mem_cons.mp h).resolve_left hy)
theorem look_no {α : Type} {z : Str} {l : List (Str × α)} (h : z ∉ l.map (·.1)) : l.lookup z = Option.none := by
  cases e : l.lookup z with
  | none => rfl
  | some a => exact absurd (List.mem_map_of_mem (f := (·.1)) (look_mem e)) h
end Lk
set_option Elab.async false
set_option linter.all false
set_option maxRecDepth 100000
set_option maxHeartbeats 2000000
namespace Lk
open PySem PySem.Spec PyProof.Rows L2 TxS LkO
theorem putK_new {kvs : List (Key × V)} {k : Key} {v : V} (h : k ∉ kvs.map (·.1)) : putK kvs k v = kvs ++ [(k, v)] := by
  unfold putK
  rw [if_neg]
  intro e
  obtain ⟨p, hp, q⟩ := List.any_eq_true.mp e
  exact h (List.mem_map.mpr ⟨p, hp, of_decide_eq_true q⟩)
/-- {k(x): f(x) for x in ..}, the keys differ, a turn only makes objects -/
theorem dc_m {J : It} {n : Nat} {G : Hp → Prop} {Y : Nat → Hp → V → Hp → Prop} (w : Walk J n G Y) {g : TG} {tk tv : TE} {vs : List Nat} {σ : L2.St} {H1 : Hp} {D : Addr} {Qd : Hp → Prop} {α : Type} (l : List α) (kf : α → Key) (f : α → V) (hn : n = l.length) (nd : (l.map kf).Nodup) (nD : H1 D = none) (few : l.length ≤ 1000)
    (hG : ∀ H', Same H1 H' → G H')
    (hs : ∀ i a x H2 H' (Kt : V → V → Hp → Prop), l[i]? = some a → Same H1 H2 → Y i H2 x H' → (∀ H5, Same H2 H5 → Kt (kV (kf a)) (f a) H5) → g x (wipe σ vs) H' fun σ2 H3 => wipe σ2 vs = wipe σ vs ∧ tk σ2 H3 fun y H4 => tv σ2 H4 fun z H5 => Kt y z H5)
    (hd : ∀ H2, Same H1 H2 → H2 D = some (.dK (l.map fun a => (kf a, f a))) → Qd H2) :
    ∃ W : Nat → Nat → Hp → Prop, (∃ m, W 0 m (upd H1 D (.dK []))) ∧ ∀ i m H, W i m H → (J.stop i H ∧ Qd H) ∨ (J.go i H ∧ ∃ Nx : Hp → Prop, (∀ H', Nx H' → ∃ m', m' < m ∧ W (i + 1) m' H') ∧
      ∀ x H', J.yld i H x H' → g x (wipe σ vs) H' fun σ2 H2 => wipe σ2 vs = wipe σ vs ∧ tYes σ2 H2 fun b H3 => if b = true then tk σ2 H3 fun y H4 => tv σ2 H4 fun z H5 => ∃ kvs k, y = kV k ∧ H5 D = some (.dK kvs) ∧ kvs.length < sizeLine ∧ Nx (upd H5 D (.dK (putK kvs k z))) else Nx H3) := by
  refine ⟨fun i m H => m = n - i ∧ i ≤ n ∧ Same H1 H ∧ H D = some (.dK ((l.take i).map fun a => (kf a, f a))), ⟨n, by simp, Nat.zero_le _, same_new nD, upd_same⟩, ?_⟩
  rintro i m H ⟨rfl, hi, sm, eD⟩
  by_cases lt : i < n
  · have hl : i < l.length := hn ▸ lt
    have ha : l[i]? = some l[i] := List.getElem?_eq_getElem hl
    refine .inr ⟨w.goes i H lt (hG H sm), fun H' => Same H1 H' ∧ H' D = some (.dK ((l.take (i + 1)).map fun a => (kf a, f a))), fun H' z => ⟨n - (i + 1), by omega, rfl, lt, z⟩, fun x H' y => ?_⟩
    refine hs i l[i] x H H' _ ha sm (w.yields i H x H' lt (hG H sm) y) fun H5 s5 => ?_
    refine ⟨_, kf l[i], rfl, s5 _ _ eD, ?_, Same.up (sm.trans s5) nD, ?_⟩
    · rw [List.length_map, List.length_take]
      exact Nat.lt_of_le_of_lt (Nat.min_le_right _ _) (small1000 few)
    · rw [upd_same, putK_new, take_next1 ha, List.map_append]
      · rfl
      · rw [List.map_map]
        intro hm
        have nd2 : ((l.take (i + 1)).map kf).Nodup := by
          rw [List.map_take]
          exact nd.sublist (List.take_sublist _ _)
        rw [take_next1 ha, List.map_append, List.nodup_append] at nd2
        exact nd2.2.2 _ hm _ (by simp) rfl
  · have e : i = n := Nat.le_antisymm hi (Nat.le_of_not_lt lt)
    subst e
    refine .inl ⟨w.stops H (hG H sm), hd H sm ?_⟩
    rw [eD, hn, List.take_length]
end Lk
set_option Elab.async false
set_option linter.all false
set_option maxRecDepth 100000
set_option maxHeartbeats 2000000
namespace Lk
open PySem PySem.Spec PyProof.Rows L2 TxS LkO LkG
structure BldD where
  rooms : List Str
  keys : List (Str × Str)
  doors : List (Str × DoorD)
  people : List (Str × PersonD)
structure BldD.ok (b : BldD) : Prop where
  rooms : areNm b.rooms = true
  r2 : 2 ≤ b.rooms.length
  r6 : b.rooms.length ≤ 6
  k3 : b.keys.length ≤ 3
  knd : (b.keys.map (·.1)).Nodup
  keys : ∀ p ∈ b.keys, isNm p.1 = true ∧ p.1 ∉ b.rooms ∧ p.2 ∈ b.rooms
  d1 : 1 ≤ b.doors.length
  d8 : b.doors.length ≤ 8
  dnd : (b.doors.map (·.1)).Nodup
  doors : ∀ p ∈ b.doors, isNm p.1 = true ∧ p.2.ok ∧ p.2.a ∈ b.rooms ∧ p.2.b ∈ b.rooms ∧ ∀ z, p.2.key = some z → z ∈ b.keys.map (·.1)
  p1 : 1 ≤ b.people.length
  p4 : b.people.length ≤ 4
  pnd : (b.people.map (·.1)).Nodup
  people : ∀ p ∈ b.people, isNm p.1 = true ∧ p.2.ok ∧ p.2.a ∈ b.rooms ∧ (∀ z ∈ p.2.carried, z ∈ b.keys.map (·.1)) ∧ (∀ z ∈ p.2.needs, z ∈ b.rooms) ∧ ∀ z ∈ p.2.shuns, z ∈ b.rooms
def keyR : V → Str → Prop := fun v z => v = .str z
def doorR (C : Addr) (H : Hp) : V → DoorD → Prop := fun v d => ∃ x, v = .ref x ∧ DoorAt C H x d
def persR (K : PySem.W.Frag) (C : Addr) (H : Hp) : V → PersonD → Prop := fun v d => ∃ x, v = .ref x ∧ PersonAt K C H x d
theorem doorR.same {C : Addr} {H H' : Hp} (s : Same H H') (v : V) (d : DoorD) (h : doorR C H v d) : doorR C H' v d := let ⟨x, e, a⟩ := h; ⟨x, e, a.same s⟩
theorem persR.same {K : PySem.W.Frag} {C : Addr} {H H' : Hp} (s : Same H H') (v : V) (d : PersonD) (h : persR K C H v d) : persR K C H' v d := let ⟨x, e, a⟩ := h; ⟨x, e, a.same s⟩
/-- the program's limits -/
structure Lim (mg : Str → Option Value) : Prop where
  fr : ∃ t, mg "FEWEST_ROOMS" = some (.int 2 t)
  mr : ∃ t, mg "MOST_ROOMS" = some (.int 6 t)
  mks : ∃ t, mg "MOST_KEYS" = some (.int 3 t)
  md : ∃ t, mg "MOST_DOORS" = some (.int 8 t)
  mp : ∃ t, mg "MOST_PEOPLE" = some (.int 4 t)
theorem bl_yes {p : Prop} [Decidable p] (h : p) : V.bl (decide p) = V.bl true := by rw [decide_eq_true h]
theorem all_yes {α : Type} {l : List α} {f : α → Bool} (h : ∀ z ∈ l, f z = true) : (l.map f).all id = true := by
  rw [List.all_map]
  exact List.all_eq_true.mpr fun z hz => h z hz
section
variable {P : Program} {w : World} {K : PySem.W.Frag} {mg : Str → Option Value} {base : Heap} {C : Addr}
/-- Door, with what is read of it -/
structure DoorT (P : Program) (w : World) (K : PySem.W.Frag) (mg : Str → Option Value) (base : Heap) (C : Addr) : Prop where
  c : OwnC K mg C "Door" doorF
  start : Pr P w K mg base 1 C "start" (getSp C "kept_start")
  end_ : Pr P w K mg base 1 C "end" (getSp C "kept_end")
  key : Pr P w K mg base 1 C "key" (getSp C "kept_key")
structure PersT (P : Program) (w : World) (K : PySem.W.Frag) (mg : Str → Option Value) (base : Heap) (C : Addr) : Prop where
  c : OwnC K mg C "Person" personF
  start : Pr P w K mg base 1 C "start" (getSp C "kept_start")
  carried : Pr P w K mg base 1 C "carried" (getSp C "kept_carried")
  needs : Pr P w K mg base 1 C "needs" (getSp C "kept_needs")
  shuns : Pr P w K mg base 1 C "shuns" (getSp C "kept_shuns")
/-! ### is_table -/
def spTable : Sp := fun vs H Q _ => ∃ (d : Addr) (o : Obj) (kvs : List (Key × V)) (names : List Str) (lo hi : Int), vs = [.ref d, .int lo, .int hi] ∧ H d = some (.frz o (.dK kvs)) ∧ kvs.map (·.1) = names.map Sum.inr ∧ names.length ≤ 1000 ∧ (∀ z ∈ names, isNm z = true) ∧ lo ≤ names.length ∧ names.length ≤ hi ∧
  ∀ H', Same H H' → Q (.bl true) H'
theorem scTable : FnScope ["value", "fewest", "most", "name"] ["value", "fewest", "most"] (defScope s_is_table) := ⟨rfl, rfl, rfl, by decide +kernel, rfl, by decide +kernel, by decide +kernel⟩
theorem key_at {kvs : List (Key × V)} {names : List Str} (e : kvs.map (·.1) = names.map Sum.inr) {i : Nat} {z : Str} {k : Key} {v : V} (hz : names[i]? = some z) (hk : kvs[i]? = some (k, v)) : kV k = .str z := by
  have h1 : (kvs.map (·.1))[i]? = some k := by rw [List.getElem?_map, hk]; rfl
  rw [e, List.getElem?_map, hz] at h1
  cases h1
  rfl
theorem ok_table {f : Addr} {fd : FuncData} (F : Fun K "is_table" "is_table" s_is_table f fd) (B : Blt mg) (GN : Fn P w K mg base 1 "is_name" ["value"] spName) : FnOk P w K mg base CX0 2 f fd ["value", "fewest", "most"] spTable := by
  refine F.ok scTable (fun vs H Q E h => ?_) (fun cdv A outer s H vs Q E hr h => ?_)
  · obtain ⟨d, o, kvs, names, lo, hi, rfl, _⟩ := h
    rfl
  · obtain ⟨d, o, kvs, names, lo, hi, rfl, hd, hk, few, nm, l1, l2, q⟩ := h
    have len : kvs.length = names.length := by
      have := congrArg List.length hk
      rw [List.length_map, List.length_map] at this
      exact this
    refine ⟨_, pss_one (ps_ret (pe_and (pe_callB call_isi (by rfl) B.isi PyProof.Rows.boot_isinstance (pa_cons (pv 0) (pa_cons (pe_bltn (v := .ty "dict") (by rfl) B.dct PyProof.Rows.boot_dict rfl) pa_nil)))
      (pe_and (pe_chain op_le op_le (pv 1) (pe_callB cr_lenR (by rfl) B.len PySem.boot_len (pa_cons (pv 0) pa_nil)) (pv 2))
      (pe_one (pe_callB (cr_all rfl) (by rfl) B.all PyProof.Rows.boot_all (pa_cons (pe_lc (own := [("name", 3)]) (g := gName 3) (tt := tYes) rfl scTable.nd (pi_keys (pv 0)) (blkOk_by (N := ["value", "fewest", "most", "name"]) (sc := defScope s_is_table) (by decide +kernel))
        (fun _ _ _ _ _ => pg_name (i := 3) scTable.nd rfl (Or.inl rfl)) (fun _ _ _ _ _ => pts_nil) (fun _ _ _ _ _ => pe_fn GN hr (by rfl) (pa_cons (pv 3) pa_nil))) pa_nil)))))), ?_⟩
    refine ⟨.ref d, rfl, .ref d, .ty "dict", _, _, true, rfl, .ty _, .fDict hd, kit_ty (by decide +kernel), true, rfl, iteT ?_⟩
    refine ⟨.int lo, rfl, .ref d, rfl, d, kvs, rfl, .inr ⟨o, hd⟩, lo, _, rfl, rfl, true, bl_yes (by omega), iteT ⟨.int hi, rfl, _, hi, rfl, rfl, ?_⟩⟩
    refine ⟨true, bl_yes (by omega), iteT ?_⟩
    refine ⟨.ref d, rfl, d, o, rfl, .inl ⟨kvs, hd, fun D nD => lc_m (walk_keys (kvs := kvs)) names (fun z => .bl (isNm z)) len nD few (fun H' s => s _ _ hd) (fun i z x H2 H3 Kt hz s2 hY k => ?_) (fun H2 s2 e => ?_)⟩⟩
    · obtain ⟨rfl, k0, v0, hx, rfl⟩ := hY
      rw [key_at hk hz hx]
      exact ⟨rfl, .str z, rfl, z, rfl, nm_line (nm z (List.mem_of_getElem? hz)), fun H4 s4 => k H4 s4⟩
    · refine ⟨D, names.map isNm, rfl, .inl (.inl (by rw [List.map_map]; exact e)), ?_⟩
      rw [all_yes nm]
      exact q _ s2
/-! ### are_rooms -/
def spRooms (K : PySem.W.Frag) : Sp := fun vs H Q _ => ∃ (r : Addr) (zs : List Str), vs = [.ref r] ∧ SqT K H r (zs.map V.str) ∧ areNm zs = true ∧ 2 ≤ zs.length ∧ zs.length ≤ 6 ∧ ∀ H', Same H H' → Q (.bl true) H'
theorem scRooms : FnScope ["rooms"] ["rooms"] (defScope s_are_rooms) := ⟨rfl, rfl, rfl, by decide +kernel, rfl, by decide +kernel, by decide +kernel⟩
theorem ok_rooms {f : Addr} {fd : FuncData} (F : Fun K "are_rooms" "are_rooms" s_are_rooms f fd) (B : Blt mg) (L : Lim mg) (GA : Fn P w K mg base 2 "are_names" ["values"] (spAre K)) : FnOk P w K mg base CX0 3 f fd ["rooms"] (spRooms K) := by
  obtain ⟨t2, e2⟩ := L.fr
  obtain ⟨t6, e6⟩ := L.mr
  refine F.ok scRooms (fun vs H Q E h => ?_) (fun cdv A outer s H vs Q E hr h => ?_)
  · obtain ⟨r, zs, rfl, _⟩ := h
    rfl
  · obtain ⟨r, zs, rfl, hz, nm, l2, l6, q⟩ := h
    refine ⟨_, pss_one (ps_ret (pe_and (pe_fn GA hr (by rfl) (pa_cons (pv 0) pa_nil)) (pe_one (pe_chain op_le op_le (pe_glob (v := .int 2) (by rfl) e2 ⟨_, rfl⟩) (pe_callB call_len_seq (by rfl) B.len PySem.boot_len (pa_cons (pv 0) pa_nil)) (pe_glob (v := .int 6) (by rfl) e6 ⟨_, rfl⟩))))), ?_⟩
    refine ⟨.ref r, rfl, r, zs, rfl, by omega, fun z h => nm_line (are_nm nm z h), hz, fun H1 s1 => ⟨true, by rw [nm], iteT ?_⟩⟩
    refine ⟨.ref r, rfl, r, _, rfl, .inr (Same.tup s1 hz), 2, _, rfl, rfl, true, bl_yes (by rw [List.length_map]; omega), iteT ⟨_, 6, rfl, rfl, ?_⟩⟩
    show Q (V.bl (decide _)) _
    rw [List.length_map, bl_yes (by omega)]
    exact q _ s1
/-! ### is_key, are_keys -/
def spIsKey (K : PySem.W.Frag) : Sp := fun vs H Q _ => ∃ (n z : Str) (r : Addr) (zs : List Str), vs = [.str n, .str z, .ref r] ∧ SqT K H r (zs.map V.str) ∧ n ∉ zs ∧ z ∈ zs ∧ isNm z = true ∧ ∀ H', Same H H' → Q (.bl true) H'
theorem scIsKey : FnScope ["name", "room", "rooms"] ["name", "room", "rooms"] (defScope s_is_key) := ⟨rfl, rfl, rfl, by decide +kernel, rfl, by decide +kernel, by decide +kernel⟩
theorem ok_isKey {f : Addr} {fd : FuncData} (F : Fun K "is_key" "is_key" s_is_key f fd) (GN : Fn P w K mg base 1 "is_name" ["value"] spName) : FnOk P w K mg base CX0 2 f fd ["name", "room", "rooms"] (spIsKey K) := by
  refine F.ok scIsKey (fun vs H Q E h => ?_) (fun cdv A outer s H vs Q E hr h => ?_)
  · obtain ⟨n, z, r, zs, rfl, _⟩ := h
    rfl
  · obtain ⟨n, z, r, zs, rfl, hr', hn, hz, nm, q⟩ := h
    refine ⟨_, pss_one (ps_ret (pe_and (pe_cmpR (r := rIn K true) op_notIn_seq (pv 0) (pv 2) rfl) (pe_and (pe_fn GN hr (by rfl) (pa_cons (pv 1) pa_nil)) (pe_one (pe_cmpR (r := rIn K false) op_in_seq (pv 1) (pv 2) rfl))))), ?_⟩
    refine ⟨.str n, rfl, .ref r, rfl, r, _, rfl, .inr hr', rfl, flat_strs zs, true, by rw [inV_str]; simp [hn], iteT ?_⟩
    refine ⟨.str z, rfl, z, rfl, nm_line nm, fun H1 s1 => ⟨true, by rw [nm], iteT ?_⟩⟩
    refine ⟨.str z, rfl, .ref r, rfl, r, _, rfl, .inr (Same.tup s1 hr'), rfl, flat_strs zs, ?_⟩
    rw [inV_str, if_neg Bool.false_ne_true, decide_eq_true hz]
    exact q _ s1
def spKeys (K : PySem.W.Frag) : Sp := fun vs H Q _ => ∃ (d r : Addr) (o : Obj) (kvs : List (Key × V)) (keys : List (Str × Str)) (zs : List Str), vs = [.ref d, .ref r] ∧ H d = some (.frz o (.dK kvs)) ∧ Tab keyR kvs keys ∧ SqT K H r (zs.map V.str) ∧ (keys.map (·.1)).Nodup ∧ keys.length ≤ 3 ∧ (∀ z ∈ zs, isNm z = true) ∧
  (∀ p ∈ keys, isNm p.1 = true ∧ p.1 ∉ zs ∧ p.2 ∈ zs) ∧ ∀ H', Same H H' → Q (.bl true) H'
theorem scKeys : FnScope ["keys", "rooms", "name"] ["keys", "rooms"] (defScope s_are_keys) := ⟨rfl, rfl, rfl, by decide +kernel, rfl, by decide +kernel, by decide +kernel⟩
theorem ok_keys {f : Addr} {fd : FuncData} (F : Fun K "are_keys" "are_keys" s_are_keys f fd) (B : Blt mg) (L : Lim mg) (GT : Fn P w K mg base 2 "is_table" ["value", "fewest", "most"] spTable) (GK : Fn P w K mg base 2 "is_key" ["name", "room", "rooms"] (spIsKey K)) : FnOk P w K mg base CX0 3 f fd ["keys", "rooms"] (spKeys K) := by
  obtain ⟨t3, e3⟩ := L.mks
  refine F.ok scKeys (fun vs H Q E h => ?_) (fun cdv A outer s H vs Q E hr h => ?_)
  · obtain ⟨d, r, o, kvs, keys, zs, rfl, _⟩ := h
    rfl
  · obtain ⟨d, r, o, kvs, keys, zs, rfl, hd, tab, hr', nd, k3, nmz, each, q⟩ := h
    refine ⟨_, pss_one (ps_ret (pe_and (pe_fn GT hr (by rfl) (pa_cons (pv 0) (pa_cons pe_int (pa_cons (pe_glob (v := .int 3) (by rfl) e3 ⟨_, rfl⟩) pa_nil))))
      (pe_one (pe_callB (cr_all rfl) (by rfl) B.all PyProof.Rows.boot_all (pa_cons (pe_lc (own := [("name", 2)]) (g := gName 2) (tt := tYes) (te := tCall (spIsKey K) [] E0 (tCons (tVar 2) (tCons (tDGet (tVar 0) (tVar 2)) (tCons (tVar 1) tNil)))) rfl scKeys.nd (pi_keys (pv 0)) (blkOk_by (N := ["keys", "rooms", "name"]) (sc := defScope s_are_keys) (by decide +kernel))
        (fun _ _ _ _ _ => pg_name (i := 2) scKeys.nd rfl (Or.inl rfl)) (fun _ _ _ _ _ => pts_nil) (fun _ _ _ _ _ => pe_fn GK hr (by rfl) (pa_cons (pv 2) (pa_cons (pe_dget (hu_of hr) (pv 0) (pv 2) (fun _ _ => rfl)) (pa_cons (pv 1) pa_nil))))) pa_nil))))), ?_⟩
    refine ⟨.ref d, rfl, d, o, kvs, keys.map (·.1), 0, 3, rfl, hd, tab.keys, by rw [List.length_map]; omega, fun z hz => ?_, by omega, by rw [List.length_map]; omega, fun H1 s1 => ⟨true, rfl, iteT ?_⟩⟩
    · obtain ⟨p, hp, rfl⟩ := List.mem_map.mp hz
      exact (each p hp).1
    refine ⟨.ref d, rfl, d, o, rfl, .inl ⟨kvs, s1 _ _ hd, fun D nD => lc_m (walk_keys (kvs := kvs)) keys (fun _ => .bl true) tab.len nD (by omega) (fun H' s => s _ _ (s1 _ _ hd)) (fun i p x H2 H3 Kt hz s2 hY k => ?_) (fun H2 s2 e => ?_)⟩⟩
    · obtain ⟨rfl, k0, v0, hx, rfl⟩ := hY
      obtain ⟨v, hv, hr2⟩ := tab.get hz
      rw [hv] at hx
      cases hx
      have hp := List.mem_of_getElem? hz
      obtain ⟨u, hu, hr3⟩ := tab.val (look_at nd hp)
      have eu : u = .str p.2 := hr3
      subst eu
      obtain ⟨a1, a2, a3⟩ := each p hp
      have sH := s1.trans s2
      exact ⟨rfl, .str p.1, rfl, .ref d, rfl, .str p.1, rfl, d, .str p.2, rfl, .inl ⟨kvs, .inr p.1, .inr ⟨o, sH _ _ hd⟩, rfl, hu.symm⟩, .ref r, rfl, p.1, p.2, r, zs, rfl, Same.tup sH hr', a2, a3, nmz _ a3, fun H4 s4 => k H4 s4⟩
    · refine ⟨D, keys.map fun _ => true, rfl, .inl (.inl (by rw [List.map_map]; exact e)), ?_⟩
      rw [all_yes fun _ _ => rfl]
      exact q _ (s1.trans s2)
end
end Lk
set_option Elab.async false
set_option linter.all false
set_option maxRecDepth 100000
set_option maxHeartbeats 2000000
namespace Lk
open PySem PySem.Spec PyProof.Rows L2 TxS LkO LkG
theorem all_in_yes {zs ws : List Str} (h : ∀ z ∈ zs, z ∈ ws) : (zs.all fun z => decide (z ∈ ws)) = true := List.all_eq_true.mpr fun z hz => decide_eq_true (h z hz)
theorem all_key_yes {α : Type} {R : V → α → Prop} {kvs : List (Key × V)} {l : List (Str × α)} (t : Tab R kvs l) {zs : List Str} (h : ∀ z ∈ zs, z ∈ l.map (·.1)) : (zs.all fun z => (valV kvs (.inr z)).isSome) = true := List.all_eq_true.mpr fun z hz => by
  obtain ⟨a, e⟩ := look_name (h z hz)
  obtain ⟨v, e2, _⟩ := t.val e
  rw [e2]
  rfl
section
variable {P : Program} {w : World} {K : PySem.W.Frag} {mg : Str → Option Value} {base : Heap} {C : Addr}
/-! ### fits_door, are_doors -/
def spFitsD (K : PySem.W.Frag) (C : Addr) : Sp := fun vs H Q _ => ∃ (x r k : Addr) (d : DoorD) (o : Obj) (kvs : List (Key × V)) (keys : List (Str × Str)) (zs : List Str), vs = [.ref x, .ref r, .ref k] ∧ DoorAt C H x d ∧ SqT K H r (zs.map V.str) ∧ H k = some (.frz o (.dK kvs)) ∧ Tab keyR kvs keys ∧
  d.a ∈ zs ∧ d.b ∈ zs ∧ (∀ z, d.key = some z → z ∈ keys.map (·.1)) ∧ ∀ H', Same H H' → Q (.bl true) H'
theorem scFitsD : FnScope ["door", "rooms", "keys"] ["door", "rooms", "keys"] (defScope s_fits_door) := ⟨rfl, rfl, rfl, by decide +kernel, rfl, by decide +kernel, by decide +kernel⟩
theorem ok_fitsD {f : Addr} {fd : FuncData} (F : Fun K "fits_door" "fits_door" s_fits_door f fd) (B : Blt mg) (T : DoorT P w K mg base C) (GI : Fn P w K mg base 1 "all_in" ["names", "known"] (spAllIn K)) : FnOk P w K mg base CX0 3 f fd ["door", "rooms", "keys"] (spFitsD K C) := by
  refine F.ok scFitsD (fun vs H Q E h => ?_) (fun cdv A outer s H vs Q E hr h => ?_)
  · obtain ⟨x, r, k, d, o, kvs, keys, zs, rfl, _⟩ := h
    rfl
  · obtain ⟨x, r, k, d, o, kvs, keys, zs, rfl, ⟨⟨dx, hx⟩, ok⟩, hr', hk, tab, m1, m2, m3, q⟩ := h
    refine ⟨_, pss_one (ps_ret (pe_and (pe_callB call_isi (by rfl) B.isi PyProof.Rows.boot_isinstance (pa_cons (pv 0) (pa_cons (pe_glob (v := .ref C) (by rfl) T.c.mgC rfl) pa_nil)))
      (pe_and (pe_fn GI (hr.mono (by decide)) (by rfl) (pa_cons (pe_tup (pa_cons (pe_pr T.start hr T.c.cl (pv 0) rfl) (pa_cons (pe_pr T.end_ hr T.c.cl (pv 0) rfl) pa_nil))) (pa_cons (pv 1) pa_nil)))
      (pe_one (pe_or (pe_cmp (pc_isN (pe_pr T.key hr T.c.cl (pv 0) rfl))) (pe_one (pe_cmp (pc_din (hu_of hr) (pe_pr T.key hr T.c.cl (pv 0) rfl) (pv 2)) rfl))))))), ?_⟩
    obtain ⟨l1, l2, l3, _, _⟩ := look_door d
    refine ⟨.ref x, rfl, .ref x, .ref C, _, _, true, rfl, .own C, .base (.ins hx T.c.cl T.c.tyc T.c.tyg T.c.tyt T.c.tym), T.c.kit, true, rfl, iteT ?_⟩
    refine ⟨.ref x, rfl, x, dx, _, rfl, hx, x, dx, _, _, rfl, hx, l1, .ref x, rfl, x, dx, _, rfl, hx, x, dx, _, _, rfl, hx, l2, by show 2 ≤ sizeLine; rw [sizeLine_eq]; decide, fun p np => ?_⟩
    refine ⟨.ref r, rfl, p, r, [d.a, d.b], zs, rfl, by show 2 ≤ 1000; decide, .inl (.inl upd_same), .inr (Same.tup (same_new np) hr'), fun H1 s1 => ⟨true, ?_, iteT ?_⟩⟩
    · rw [all_in_yes fun z hz => ?_]
      rcases List.mem_cons.mp hz with e | e
      · rw [e]
        exact m1
      · rw [List.mem_singleton.mp e]
        exact m2
    have sm := (same_new np).trans s1
    have hx1 := sm _ _ hx
    refine ⟨.ref x, rfl, x, dx, _, rfl, hx1, x, dx, _, _, rfl, hx1, l3, ?_⟩
    cases hkey : d.key with
    | none => exact ⟨true, rfl, iteT (q _ sm)⟩
    | some z =>
      refine ⟨false, rfl, iteF ?_⟩
      obtain ⟨a, ha⟩ := look_name (m3 z hkey)
      obtain ⟨v, hv, _⟩ := tab.val ha
      have l3' : List.lookup ("kept_key" : Str) d.fs = some (V.str z) := by rw [l3, hkey]; rfl
      exact ⟨.ref x, rfl, x, dx, _, rfl, hx1, x, dx, _, _, rfl, hx1, l3', .ref k, rfl, k, _, rfl, .inl ⟨kvs, .inr z, .inr ⟨o, sm _ _ hk⟩, rfl, hv.symm⟩, q _ sm⟩
def spDoors (K : PySem.W.Frag) (C : Addr) : Sp := fun vs H Q _ => ∃ (a r k : Addr) (oa o : Obj) (ds kvs : List (Key × V)) (doors : List (Str × DoorD)) (keys : List (Str × Str)) (zs : List Str), vs = [.ref a, .ref r, .ref k] ∧ H a = some (.frz oa (.dK ds)) ∧ Tab (doorR C H) ds doors ∧ SqT K H r (zs.map V.str) ∧
  H k = some (.frz o (.dK kvs)) ∧ Tab keyR kvs keys ∧ (doors.map (·.1)).Nodup ∧ 1 ≤ doors.length ∧ doors.length ≤ 8 ∧ (∀ p ∈ doors, isNm p.1 = true ∧ p.2.a ∈ zs ∧ p.2.b ∈ zs ∧ ∀ z, p.2.key = some z → z ∈ keys.map (·.1)) ∧ ∀ H', Same H H' → Q (.bl true) H'
theorem scDoors : FnScope ["doors", "rooms", "keys", "name"] ["doors", "rooms", "keys"] (defScope s_are_doors) := ⟨rfl, rfl, rfl, by decide +kernel, rfl, by decide +kernel, by decide +kernel⟩
theorem ok_doors {f : Addr} {fd : FuncData} (F : Fun K "are_doors" "are_doors" s_are_doors f fd) (B : Blt mg) (L : Lim mg) (GT : Fn P w K mg base 2 "is_table" ["value", "fewest", "most"] spTable) (GF : Fn P w K mg base 3 "fits_door" ["door", "rooms", "keys"] (spFitsD K C)) :
    FnOk P w K mg base CX0 4 f fd ["doors", "rooms", "keys"] (spDoors K C) := by
  obtain ⟨t8, e8⟩ := L.md
  refine F.ok scDoors (fun vs H Q E h => ?_) (fun cdv A outer s H vs Q E hr h => ?_)
  · obtain ⟨a, r, k, oa, o, ds, kvs, doors, keys, zs, rfl, _⟩ := h
    rfl
  · obtain ⟨a, r, k, oa, o, ds, kvs, doors, keys, zs, rfl, ha, td, hr', hk, tk, nd, d1, d8, each, q⟩ := h
    refine ⟨_, pss_one (ps_ret (pe_and (pe_fn GT (hr.mono (by decide)) (by rfl) (pa_cons (pv 0) (pa_cons pe_int (pa_cons (pe_glob (v := .int 8) (by rfl) e8 ⟨_, rfl⟩) pa_nil))))
      (pe_one (pe_callB (cr_all rfl) (by rfl) B.all PyProof.Rows.boot_all (pa_cons (pe_lc (own := [("name", 3)]) (g := gName 3) (tt := tYes) (te := tCall (spFitsD K C) [] E0 (tCons (tDGet (tVar 0) (tVar 3)) (tCons (tVar 1) (tCons (tVar 2) tNil)))) rfl scDoors.nd (pi_keys (pv 0)) (blkOk_by (N := ["doors", "rooms", "keys", "name"]) (sc := defScope s_are_doors) (by decide +kernel))
        (fun _ _ _ _ _ => pg_name (i := 3) scDoors.nd rfl (Or.inl rfl)) (fun _ _ _ _ _ => pts_nil) (fun _ _ _ _ _ => pe_fn GF hr (by rfl) (pa_cons (pe_dget (hu_of hr) (pv 0) (pv 3) (fun _ _ => rfl)) (pa_cons (pv 1) (pa_cons (pv 2) pa_nil))))) pa_nil))))), ?_⟩
    refine ⟨.ref a, rfl, a, oa, ds, doors.map (·.1), 1, 8, rfl, ha, td.keys, by rw [List.length_map]; omega, fun z hz => ?_, by rw [List.length_map]; omega, by rw [List.length_map]; omega, fun H1 s1 => ⟨true, rfl, iteT ?_⟩⟩
    · obtain ⟨p, hp, rfl⟩ := List.mem_map.mp hz
      exact (each p hp).1
    refine ⟨.ref a, rfl, a, oa, rfl, .inl ⟨ds, s1 _ _ ha, fun D nD => lc_m (walk_keys (kvs := ds)) doors (fun _ => .bl true) td.len nD (by omega) (fun H' s => s _ _ (s1 _ _ ha)) (fun i p x H2 H3 Kt hz s2 hY kk => ?_) (fun H2 s2 e => ?_)⟩⟩
    · obtain ⟨rfl, k0, v0, hx, rfl⟩ := hY
      obtain ⟨v, hv, _⟩ := td.get hz
      rw [hv] at hx
      cases hx
      have hp := List.mem_of_getElem? hz
      obtain ⟨u, hu, ⟨y, rfl, hy⟩⟩ := td.val (look_at nd hp)
      obtain ⟨a1, a2, a3, a4⟩ := each p hp
      have sH := s1.trans s2
      exact ⟨rfl, .ref a, rfl, .str p.1, rfl, a, .ref y, rfl, .inl ⟨ds, .inr p.1, .inr ⟨oa, sH _ _ ha⟩, rfl, hu.symm⟩, .ref r, rfl, .ref k, rfl, y, r, k, p.2, o, kvs, keys, zs, rfl, hy.same sH, Same.tup sH hr', sH _ _ hk, tk, a2, a3, a4, fun H4 s4 => kk H4 s4⟩
    · refine ⟨D, doors.map fun _ => true, rfl, .inl (.inl (by rw [List.map_map]; exact e)), ?_⟩
      rw [all_yes fun _ _ => rfl]
      exact q _ (s1.trans s2)
/-! ### fits_person, are_people -/
def spFitsP (K : PySem.W.Frag) (C : Addr) : Sp := fun vs H Q _ => ∃ (x r k : Addr) (d : PersonD) (o : Obj) (kvs : List (Key × V)) (keys : List (Str × Str)) (zs : List Str), vs = [.ref x, .ref r, .ref k] ∧ PersonAt K C H x d ∧ SqT K H r (zs.map V.str) ∧ H k = some (.frz o (.dK kvs)) ∧ Tab keyR kvs keys ∧
  d.a ∈ zs ∧ (∀ z ∈ d.carried, z ∈ keys.map (·.1)) ∧ (∀ z ∈ d.needs, z ∈ zs) ∧ (∀ z ∈ d.shuns, z ∈ zs) ∧ ∀ H', Same H H' → Q (.bl true) H'
theorem scFitsP : FnScope ["person", "rooms", "keys"] ["person", "rooms", "keys"] (defScope s_fits_person) := ⟨rfl, rfl, rfl, by decide +kernel, rfl, by decide +kernel, by decide +kernel⟩
theorem ok_fitsP {f : Addr} {fd : FuncData} (F : Fun K "fits_person" "fits_person" s_fits_person f fd) (B : Blt mg) (T : PersT P w K mg base C) (GI : Fn P w K mg base 1 "all_in" ["names", "known"] (spAllIn K)) (GD : Fn P w K mg base 1 "all_in" ["names", "known"] (spAllInD K)) :
    FnOk P w K mg base CX0 3 f fd ["person", "rooms", "keys"] (spFitsP K C) := by
  refine F.ok scFitsP (fun vs H Q E h => ?_) (fun cdv A outer s H vs Q E hr h => ?_)
  · obtain ⟨x, r, k, d, o, kvs, keys, zs, rfl, _⟩ := h
    rfl
  · obtain ⟨x, r, k, d, o, kvs, keys, zs, rfl, ⟨⟨dx, t1, t2, t3, hx, h1, h2, h3⟩, ok⟩, hr', hk, tab, m1, m2, m3, m4, q⟩ := h
    have hr1 := hr.mono (show 1 ≤ 2 by decide)
    refine ⟨_, pss_one (ps_ret (pe_and (pe_callB call_isi (by rfl) B.isi PyProof.Rows.boot_isinstance (pa_cons (pv 0) (pa_cons (pe_glob (v := .ref C) (by rfl) T.c.mgC rfl) pa_nil)))
      (pe_and (pe_cmpR (r := rIn K false) op_in_seq (pe_pr T.start hr T.c.cl (pv 0) rfl) (pv 1) rfl) (pe_and (pe_fn GD hr1 (by rfl) (pa_cons (pe_pr T.carried hr T.c.cl (pv 0) rfl) (pa_cons (pv 2) pa_nil)))
      (pe_and (pe_fn GI hr1 (by rfl) (pa_cons (pe_pr T.needs hr T.c.cl (pv 0) rfl) (pa_cons (pv 1) pa_nil))) (pe_one (pe_fn GI hr1 (by rfl) (pa_cons (pe_pr T.shuns hr T.c.cl (pv 0) rfl) (pa_cons (pv 1) pa_nil))))))))), ?_⟩
    obtain ⟨l1, l2, l3, l4⟩ := look_person d.a t1 t2 t3
    refine ⟨.ref x, rfl, .ref x, .ref C, _, _, true, rfl, .own C, .base (.ins hx T.c.cl T.c.tyc T.c.tyg T.c.tyt T.c.tym), T.c.kit, true, rfl, iteT ?_⟩
    refine ⟨.ref x, rfl, x, dx, _, rfl, hx, x, dx, _, _, rfl, hx, l1, .ref r, rfl, r, _, rfl, .inr hr', rfl, flat_strs zs, true, by rw [inV_str, decide_eq_true m1]; rfl, iteT ?_⟩
    refine ⟨.ref x, rfl, x, dx, _, rfl, hx, x, dx, _, _, rfl, hx, l2, .ref k, rfl, t1, k, d.carried, kvs, rfl, by have := ok.few1; omega, h1, ⟨o, hk⟩, fun H1 s1 => ⟨true, by rw [all_key_yes tab m2], iteT ?_⟩⟩
    have hx1 := s1 _ _ hx
    refine ⟨.ref x, rfl, x, dx, _, rfl, hx1, x, dx, _, _, rfl, hx1, l3, .ref r, rfl, t2, r, d.needs, zs, rfl, by have := ok.few2; omega, Same.tup s1 h2, .inr (Same.tup s1 hr'), fun H2 s2 => ⟨true, by rw [all_in_yes m3], iteT ?_⟩⟩
    have s12 := s1.trans s2
    have hx2 := s12 _ _ hx
    refine ⟨.ref x, rfl, x, dx, _, rfl, hx2, x, dx, _, _, rfl, hx2, l4, .ref r, rfl, t3, r, d.shuns, zs, rfl, by have := ok.few3; omega, Same.tup s12 h3, .inr (Same.tup s12 hr'), fun H3 s3 => ?_⟩
    rw [all_in_yes m4]
    exact q _ (s12.trans s3)
def spPeople (K : PySem.W.Frag) (C : Addr) : Sp := fun vs H Q _ => ∃ (a r k : Addr) (oa o : Obj) (ds kvs : List (Key × V)) (people : List (Str × PersonD)) (keys : List (Str × Str)) (zs : List Str), vs = [.ref a, .ref r, .ref k] ∧ H a = some (.frz oa (.dK ds)) ∧ Tab (persR K C H) ds people ∧ SqT K H r (zs.map V.str) ∧
  H k = some (.frz o (.dK kvs)) ∧ Tab keyR kvs keys ∧ (people.map (·.1)).Nodup ∧ 1 ≤ people.length ∧ people.length ≤ 4 ∧ (∀ p ∈ people, isNm p.1 = true ∧ p.2.a ∈ zs ∧ (∀ z ∈ p.2.carried, z ∈ keys.map (·.1)) ∧ (∀ z ∈ p.2.needs, z ∈ zs) ∧ ∀ z ∈ p.2.shuns, z ∈ zs) ∧ ∀ H', Same H H' → Q (.bl true) H'
theorem scPeople : FnScope ["people", "rooms", "keys", "name"] ["people", "rooms", "keys"] (defScope s_are_people) := ⟨rfl, rfl, rfl, by decide +kernel, rfl, by decide +kernel, by decide +kernel⟩
theorem ok_people {f : Addr} {fd : FuncData} (F : Fun K "are_people" "are_people" s_are_people f fd) (B : Blt mg) (L : Lim mg) (GT : Fn P w K mg base 2 "is_table" ["value", "fewest", "most"] spTable) (GF : Fn P w K mg base 3 "fits_person" ["person", "rooms", "keys"] (spFitsP K C)) :
    FnOk P w K mg base CX0 4 f fd ["people", "rooms", "keys"] (spPeople K C) := by
  obtain ⟨t4, e4⟩ := L.mp
  refine F.ok scPeople (fun vs H Q E h => ?_) (fun cdv A outer s H vs Q E hr h => ?_)
  · obtain ⟨a, r, k, oa, o, ds, kvs, people, keys, zs, rfl, _⟩ := h
    rfl
  · obtain ⟨a, r, k, oa, o, ds, kvs, people, keys, zs, rfl, ha, td, hr', hk, tk, nd, d1, d8, each, q⟩ := h
    refine ⟨_, pss_one (ps_ret (pe_and (pe_fn GT (hr.mono (by decide)) (by rfl) (pa_cons (pv 0) (pa_cons pe_int (pa_cons (pe_glob (v := .int 4) (by rfl) e4 ⟨_, rfl⟩) pa_nil))))
      (pe_one (pe_callB (cr_all rfl) (by rfl) B.all PyProof.Rows.boot_all (pa_cons (pe_lc (own := [("name", 3)]) (g := gName 3) (tt := tYes) (te := tCall (spFitsP K C) [] E0 (tCons (tDGet (tVar 0) (tVar 3)) (tCons (tVar 1) (tCons (tVar 2) tNil)))) rfl scPeople.nd (pi_keys (pv 0)) (blkOk_by (N := ["people", "rooms", "keys", "name"]) (sc := defScope s_are_people) (by decide +kernel))
        (fun _ _ _ _ _ => pg_name (i := 3) scPeople.nd rfl (Or.inl rfl)) (fun _ _ _ _ _ => pts_nil) (fun _ _ _ _ _ => pe_fn GF hr (by rfl) (pa_cons (pe_dget (hu_of hr) (pv 0) (pv 3) (fun _ _ => rfl)) (pa_cons (pv 1) (pa_cons (pv 2) pa_nil))))) pa_nil))))), ?_⟩
    refine ⟨.ref a, rfl, a, oa, ds, people.map (·.1), 1, 4, rfl, ha, td.keys, by rw [List.length_map]; omega, fun z hz => ?_, by rw [List.length_map]; omega, by rw [List.length_map]; omega, fun H1 s1 => ⟨true, rfl, iteT ?_⟩⟩
    · obtain ⟨p, hp, rfl⟩ := List.mem_map.mp hz
      exact (each p hp).1
    refine ⟨.ref a, rfl, a, oa, rfl, .inl ⟨ds, s1 _ _ ha, fun D nD => lc_m (walk_keys (kvs := ds)) people (fun _ => .bl true) td.len nD (by omega) (fun H' s => s _ _ (s1 _ _ ha)) (fun i p x H2 H3 Kt hz s2 hY kk => ?_) (fun H2 s2 e => ?_)⟩⟩
    · obtain ⟨rfl, k0, v0, hx, rfl⟩ := hY
      obtain ⟨v, hv, _⟩ := td.get hz
      rw [hv] at hx
      cases hx
      have hp := List.mem_of_getElem? hz
      obtain ⟨u, hu, ⟨y, rfl, hy⟩⟩ := td.val (look_at nd hp)
      obtain ⟨a1, a2, a3, a4, a5⟩ := each p hp
      have sH := s1.trans s2
      exact ⟨rfl, .ref a, rfl, .str p.1, rfl, a, .ref y, rfl, .inl ⟨ds, .inr p.1, .inr ⟨oa, sH _ _ ha⟩, rfl, hu.symm⟩, .ref r, rfl, .ref k, rfl, y, r, k, p.2, o, kvs, keys, zs, rfl, hy.same sH, Same.tup sH hr', sH _ _ hk, tk, a2, a3, a4, a5, fun H4 s4 => kk H4 s4⟩
    · refine ⟨D, people.map fun _ => true, rfl, .inl (.inl (by rw [List.map_map]; exact e)), ?_⟩
      rw [all_yes fun _ _ => rfl]
      exact q _ (s1.trans s2)
end
end Lk
set_option Elab.async false
set_option linter.all false
set_option maxRecDepth 100000
set_option maxHeartbeats 2000000
namespace Lk
open PySem PySem.Spec PyProof.Rows L2 TxS LkO LkG
/-- the keys by name -/
def sortKeys (keys : List (Str × Str)) : List (Str × Str) := (srt (keys.map (·.1))).map fun n => (n, (keys.lookup n).getD ⟨#[]⟩)
theorem sortKeys_names (keys : List (Str × Str)) : (sortKeys keys).map (·.1) = srt (keys.map (·.1)) := by
  unfold sortKeys
  rw [List.map_map]
  exact List.map_id _
theorem sortKeys_look (keys : List (Str × Str)) (z : Str) : (sortKeys keys).lookup z = keys.lookup z := by
  have go : ∀ l : List Str, (∀ y ∈ l, ∃ a, keys.lookup y = some a) → (l.map fun n => (n, (keys.lookup n).getD ⟨#[]⟩)).lookup z = if z ∈ l then keys.lookup z else none := by
    intro l
    induction l with
    | nil => intro _; rfl
    | cons y r ih =>
      intro h
      rw [List.map_cons, List.lookup_cons]
      by_cases e : z = y
      · subst e
        obtain ⟨a, ha⟩ := h z List.mem_cons_self
        rw [beq_self_eq_true, ha]
        simp
      · rw [beq_eq_false_iff_ne.mpr e]
        show List.lookup z (r.map fun n => (n, (keys.lookup n).getD ⟨#[]⟩)) = _
        rw [ih fun u hu => h u (List.mem_cons_of_mem _ hu)]
        simp [e]
  unfold sortKeys
  rw [go _ fun y hy => look_name ((mem_srt _ _).1 hy)]
  by_cases e : z ∈ srt (keys.map (·.1))
  · rw [if_pos e]
  · rw [if_neg e, look_no fun h => e ((mem_srt _ _).2 h)]
theorem sortKeys_len {keys : List (Str × Str)} (nd : (keys.map (·.1)).Nodup) : (sortKeys keys).length = keys.length := by
  have := congrArg List.length (sortKeys_names keys)
  rw [List.length_map, (srt_full _).2 nd, List.length_map] at this
  exact this
def bldFs (r k dn dd pn pd : Addr) : List (Str × V) := [("kept_rooms", .ref r), ("kept_keys", .ref k), ("door_names", .ref dn), ("kept_doors", .ref dd), ("person_names", .ref pn), ("kept_people", .ref pd)]
abbrev bldF : List Str := ["kept_rooms", "kept_keys", "door_names", "kept_doors", "person_names", "kept_people"]
theorem look_bld (r k dn dd pn pd : Addr) : List.lookup ("kept_rooms" : Str) (bldFs r k dn dd pn pd) = some (V.ref r) ∧ List.lookup ("kept_keys" : Str) (bldFs r k dn dd pn pd) = some (V.ref k) ∧ List.lookup ("door_names" : Str) (bldFs r k dn dd pn pd) = some (V.ref dn) ∧
  List.lookup ("kept_doors" : Str) (bldFs r k dn dd pn pd) = some (V.ref dd) ∧ List.lookup ("person_names" : Str) (bldFs r k dn dd pn pd) = some (V.ref pn) ∧ List.lookup ("kept_people" : Str) (bldFs r k dn dd pn pd) = some (V.ref pd) := ⟨rfl, rfl, rfl, rfl, rfl, rfl⟩
structure BldIn (K : PySem.W.Frag) (CD CP CB : Addr) (H : Hp) (x : Addr) (b : BldD) (dx r k dn dd pn pd : Addr) (ok od op : Obj) (kvs ds ps : List (Key × V)) : Prop where
  ob : H x = some (.ins CB dx (bldFs r k dn dd pn pd))
  rooms : SqT K H r (b.rooms.map V.str)
  keys : H k = some (.frz ok (.dK kvs))
  keysT : Tab keyR kvs (sortKeys b.keys)
  dn : SqT K H dn ((b.doors.map (·.1)).map V.str)
  doors : H dd = some (.frz od (.dK ds))
  doorsT : Tab (doorR CD H) ds b.doors
  pn : SqT K H pn ((b.people.map (·.1)).map V.str)
  people : H pd = some (.frz op (.dK ps))
  peopleT : Tab (persR K CP H) ps b.people
structure BldAt (K : PySem.W.Frag) (CD CP CB : Addr) (H : Hp) (x : Addr) (b : BldD) : Prop where
  ob : ∃ dx r k dn dd pn pd ok od op kvs ds ps, BldIn K CD CP CB H x b dx r k dn dd pn pd ok od op kvs ds ps
  ok : b.ok
theorem BldIn.same {K : PySem.W.Frag} {CD CP CB : Addr} {H H' : Hp} {x : Addr} {b : BldD} {dx r k dn dd pn pd : Addr} {ok od op : Obj} {kvs ds ps : List (Key × V)} (h : BldIn K CD CP CB H x b dx r k dn dd pn pd ok od op kvs ds ps) (s : Same H H') : BldIn K CD CP CB H' x b dx r k dn dd pn pd ok od op kvs ds ps :=
  ⟨s _ _ h.ob, Same.tup s h.rooms, s _ _ h.keys, h.keysT, Same.tup s h.dn, s _ _ h.doors, h.doorsT.mono (doorR.same s), Same.tup s h.pn, s _ _ h.people, h.peopleT.mono (persR.same s)⟩
theorem BldAt.same {K : PySem.W.Frag} {CD CP CB : Addr} {H H' : Hp} {x : Addr} {b : BldD} (h : BldAt K CD CP CB H x b) (s : Same H H') : BldAt K CD CP CB H' x b := by
  obtain ⟨⟨dx, r, k, dn, dd, pn, pd, ok, od, op, kvs, ds, ps, i⟩, hok⟩ := h
  exact ⟨⟨dx, r, k, dn, dd, pn, pd, ok, od, op, kvs, ds, ps, i.same s⟩, hok⟩
/-- all but x stands -/
def But (x : Addr) (H H' : Hp) : Prop := ∀ b o, H b = some o → b ≠ x → H' b = some o
theorem But.of {x : Addr} {H H' : Hp} (s : Same H H') : But x H H' := fun b o e _ => s b o e
theorem But.trans {x : Addr} {H H1 H2 : Hp} (a : But x H H1) (b : But x H1 H2) : But x H H2 := fun c o e n => b c o (a c o e n) n
theorem But.put {x : Addr} {H : Hp} {o : HO} : But x H (upd H x o) := fun c u e n => by rw [upd_ne n]; exact e
theorem But.new {x p : Addr} {H : Hp} {o : HO} (h : H p = none) : But x H (upd H p o) := But.of (same_new h)
/-- an empty instance is none of these -/
theorem But.tup {K : PySem.W.Frag} {x a C dx : Addr} {fs : List (Str × V)} {H H' : Hp} {xs : List V} (s : But x H H') (hx : H x = some (.ins C dx fs)) (h : SqT K H a xs) : SqT K H' a xs := by
  rcases h with (h | ⟨o, h⟩) | h
  · exact .inl (.inl (s _ _ h (ne_of h hx (by intro z; cases z))))
  · exact .inl (.inr ⟨o, s _ _ h (ne_of h hx (by intro z; cases z))⟩)
  · exact .inr h
theorem But.frz {x a C dx : Addr} {fs : List (Str × V)} {H H' : Hp} {o : Obj} {u : HO} (s : But x H H') (hx : H x = some (.ins C dx fs)) (h : H a = some (.frz o u)) : H' a = some (.frz o u) := s _ _ h (ne_of h hx (by intro z; cases z))
theorem But.door {x C CB dx y : Addr} {H H' : Hp} {d : DoorD} (s : But x H H') (hx : H x = some (.ins CB dx [])) (h : DoorAt C H y d) : DoorAt C H' y d := by
  obtain ⟨⟨dy, e⟩, ok⟩ := h
  exact ⟨⟨dy, s _ _ e (ne_of e hx (by intro z; cases z))⟩, ok⟩
theorem But.pers {K : PySem.W.Frag} {x C CB dx y : Addr} {H H' : Hp} {d : PersonD} (s : But x H H') (hx : H x = some (.ins CB dx [])) (h : PersonAt K C H y d) : PersonAt K C H' y d := by
  obtain ⟨⟨dy, t1, t2, t3, e, h1, h2, h3⟩, ok⟩ := h
  exact ⟨⟨dy, t1, t2, t3, s _ _ e (ne_of e hx (by intro z; cases z)), s.tup hx h1, s.tup hx h2, s.tup hx h3⟩, ok⟩
section
variable {P : Program} {w : World} {K : PySem.W.Frag} {mg : Str → Option Value} {base : Heap} {CD CP CB : Addr}
def spBld (K : PySem.W.Frag) (CD CP CB : Addr) : Sp := fun vs H Q _ => ∃ (x dx r k a p : Addr) (b : BldD) (ok oa op : Obj) (kvs ds ps : List (Key × V)), vs = [.ref x, .ref r, .ref k, .ref a, .ref p] ∧ H x = some (.ins CB dx []) ∧ b.ok ∧ SqT K H r (b.rooms.map V.str) ∧ H k = some (.frz ok (.dK kvs)) ∧ Tab keyR kvs b.keys ∧
  H a = some (.frz oa (.dK ds)) ∧ Tab (doorR CD H) ds b.doors ∧ H p = some (.frz op (.dK ps)) ∧ Tab (persR K CP H) ps b.people ∧ ∀ H', But x H H' → BldAt K CD CP CB H' x b → Q .non H'
theorem scBld : FnScope ["self", "rooms", "keys", "doors", "people", "name"] ["self", "rooms", "keys", "doors", "people"] (defScope s_Building___init__) := ⟨rfl, rfl, rfl, by decide +kernel, rfl, by decide +kernel, by decide +kernel⟩
theorem ok_bld {f : Addr} {fd : FuncData} (F : Fun K "__init__" "Building.__init__" s_Building___init__ f fd) (B : Blt mg) (T : OwnC K mg CB "Building" bldF) (GR : Fn P w K mg base 3 "are_rooms" ["rooms"] (spRooms K)) (GK : Fn P w K mg base 3 "are_keys" ["keys", "rooms"] (spKeys K))
    (GD : Fn P w K mg base 4 "are_doors" ["doors", "rooms", "keys"] (spDoors K CD)) (GP : Fn P w K mg base 4 "are_people" ["people", "rooms", "keys"] (spPeople K CP)) : FnOk P w K mg base CX0 5 f fd ["self", "rooms", "keys", "doors", "people"] (spBld K CD CP CB) := by
  refine F.ok scBld (fun vs H Q E h => ?_) (fun cdv A outer s H vs Q E hr h => ?_)
  · obtain ⟨x, dx, r, k, a, p, b, ok, oa, op, kvs, ds, ps, rfl, _⟩ := h
    rfl
  · obtain ⟨x, dx, r, k, a, p, b, ok, oa, op, kvs, ds, ps, rfl, hx, bok, hr', hk, tk, ha, td, hp, tp, q⟩ := h
    have hr3 := hr.mono (show 3 ≤ 4 by decide)
    refine ⟨_, pss_cons (ps_if (pt_not (pt_val (pe_fn GR hr3 (by rfl) (pa_cons (pv 1) pa_nil)))) (pss_one ps_never) pss_nil)
      (pss_cons (ps_if (pt_not (pt_val (pe_fn GK hr3 (by rfl) (pa_cons (pv 2) (pa_cons (pv 1) pa_nil))))) (pss_one ps_never) pss_nil)
      (pss_cons (ps_if (pt_not (pt_val (pe_fn GD hr (by rfl) (pa_cons (pv 3) (pa_cons (pv 1) (pa_cons (pv 2) pa_nil)))))) (pss_one ps_never) pss_nil)
      (pss_cons (ps_if (pt_not (pt_val (pe_fn GP hr (by rfl) (pa_cons (pv 4) (pa_cons (pv 1) (pa_cons (pv 2) pa_nil)))))) (pss_one ps_never) pss_nil)
      (pss_cons (ps_fld (pv 0) (pv 1) rfl)
      (pss_cons (ps_fld (pv 0) (pe_frz (pe_dc (own := [("name", 5)]) (g := gName 5) (tt := tYes) (tk := tVar 5) (tv := tDGet (tVar 2) (tVar 5)) rfl scBld.nd (pi_list (pe_callB (call_sortedD rfl) (by rfl) B.srt PyProof.Rows.boot_sorted (pa_cons (pv 2) pa_nil))) (blkOk_by (N := ["self", "rooms", "keys", "doors", "people", "name"]) (sc := defScope s_Building___init__) (by decide +kernel))
        (fun _ _ _ _ _ => pg_name (i := 5) scBld.nd rfl (Or.inl rfl)) (fun _ _ _ _ _ => pts_nil) (fun _ _ _ _ _ => pv 5) (fun _ _ _ _ _ => pe_dget (hu_of hr) (pv 2) (pv 5) (fun _ _ => rfl)))) rfl)
      (pss_cons (ps_fld (pv 0) (pe_callTy (cr_tupleD rfl) (by rfl) B.tup PyProof.Rows.boot_tuple (pa_cons (pv 3) pa_nil)) rfl)
      (pss_cons (ps_fld (pv 0) (pe_frz (pe_callTy call_dictD (by rfl) B.dct PyProof.Rows.boot_dict (pa_cons (pv 3) pa_nil))) rfl)
      (pss_cons (ps_fld (pv 0) (pe_callTy (cr_tupleD rfl) (by rfl) B.tup PyProof.Rows.boot_tuple (pa_cons (pv 4) pa_nil)) rfl)
      (pss_one (ps_fld (pv 0) (pe_frz (pe_callTy call_dictD (by rfl) B.dct PyProof.Rows.boot_dict (pa_cons (pv 4) pa_nil))) rfl)))))))))), ?_⟩
    have nmz : ∀ z ∈ b.rooms, isNm z = true := are_nm bok.rooms
    refine ⟨.ref r, rfl, r, b.rooms, rfl, hr', bok.rooms, bok.r2, bok.r6, fun H1 s1 => ⟨true, rfl, iteF ?_⟩⟩
    refine ⟨.ref k, rfl, .ref r, rfl, k, r, ok, kvs, b.keys, b.rooms, rfl, s1 _ _ hk, tk, Same.tup s1 hr', bok.knd, bok.k3, nmz, bok.keys, fun H2 s2 => ⟨true, rfl, iteF ?_⟩⟩
    have s12 := s1.trans s2
    refine ⟨.ref a, rfl, .ref r, rfl, .ref k, rfl, a, r, k, oa, ok, ds, kvs, b.doors, b.keys, b.rooms, rfl, s12 _ _ ha, td.mono (doorR.same s12), Same.tup s12 hr', s12 _ _ hk, tk, bok.dnd, bok.d1, bok.d8, fun u hu => ?_, fun H3 s3 => ⟨true, rfl, iteF ?_⟩⟩
    · obtain ⟨z1, z2, z3, z4, z5⟩ := bok.doors u hu
      exact ⟨z1, z3, z4, z5⟩
    have s13 := s12.trans s3
    refine ⟨.ref p, rfl, .ref r, rfl, .ref k, rfl, p, r, k, op, ok, ps, kvs, b.people, b.keys, b.rooms, rfl, s13 _ _ hp, tp.mono (persR.same s13), Same.tup s13 hr', s13 _ _ hk, tk, bok.pnd, bok.p1, bok.p4, fun u hu => ?_, fun H4 s4 => ⟨true, rfl, iteF ?_⟩⟩
    · obtain ⟨z1, z2, z3, z4, z5, z6⟩ := bok.people u hu
      exact ⟨z1, z3, z4, z5, z6⟩
    have s14 := s13.trans s4
    have nK := T.nK
    have b0 : But x H H4 := But.of s14
    refine ⟨.ref r, rfl, .ref x, rfl, x, CB, dx, [], rfl, s14 _ _ hx, T.cl, nK _ (by simp), by show 0 < 1000; decide, ?_⟩
    generalize e5 : upd H4 x (.ins CB dx (putF "kept_rooms" (.ref r) [])) = H5
    have hx5 : H5 x = some (.ins CB dx [("kept_rooms", .ref r)]) := by rw [← e5]; exact upd_same
    have b5 : But x H H5 := by rw [← e5]; exact b0.trans But.put
    -- the keys
    refine ⟨.ref k, rfl, k, kvs, b.keys.map (·.1), rfl, .inr ⟨ok, b5.frz hx hk⟩, tk.keys, by rw [List.length_map]; have := bok.k3; omega, fun ys l pm so nl => ?_⟩
    have ey : ys = srt (b.keys.map (·.1)) := srt_of (asc_of so (pm.nodup_iff.mpr bok.knd)) fun z => pm.mem_iff
    subst ey
    generalize e6 : upd H5 l (.lst ((srt (b.keys.map (·.1))).map V.str)) = H6
    have s56 : Same H5 H6 := by rw [← e6]; exact same_new nl
    have hl6 : H6 l = some (.lst ((srt (b.keys.map (·.1))).map V.str)) := by rw [← e6]; exact upd_same
    have b6 : But x H H6 := b5.trans (But.of s56)
    have hk6 : H6 k = some (.frz ok (.dK kvs)) := b6.frz hx hk
    refine ⟨l, rfl, ⟨_, .inl (.inl hl6)⟩, fun D nD => dc_m (walk_list (xs := (srt (b.keys.map (·.1))).map V.str)) (sortKeys b.keys) (fun q => .inr q.1) (fun q => .str q.2) (by unfold sortKeys; rw [List.length_map, List.length_map]) ?_ nD ?_ (fun H' s => .inl (.inl (s _ _ hl6))) (fun i u v H7 H8 Kt hz s7 hY kk => ?_) (fun H7 s7 eD => ?_)⟩
    · have e : (sortKeys b.keys).map (fun q => (Sum.inr q.1 : Key)) = ((sortKeys b.keys).map (·.1)).map Sum.inr := by rw [List.map_map]; rfl
      rw [e, sortKeys_names]
      exact List.Pairwise.map Sum.inr (fun _ _ h e => h (Sum.inr.inj e)) (nodup_asc (asc_srt (b.keys.map (·.1))))
    · rw [sortKeys_len bok.knd]
      have := bok.k3
      omega
    · obtain ⟨rfl, hx⟩ := hY
      have en : ((sortKeys b.keys).map (·.1))[i]? = some u.1 := by rw [List.getElem?_map, hz]; rfl
      rw [sortKeys_names] at en
      rw [List.getElem?_map, en] at hx
      cases hx
      have hm : u.1 ∈ srt (b.keys.map (·.1)) := List.mem_of_getElem? en
      obtain ⟨w0, hw⟩ := look_name ((mem_srt _ _).1 hm)
      have e2 : u.2 = w0 := by
        have l2 := look_at (l := sortKeys b.keys) (p := u) (by rw [sortKeys_names]; exact nodup_asc (asc_srt _)) (List.mem_of_getElem? hz)
        rw [sortKeys_look, hw] at l2
        exact (Option.some.inj l2).symm
      obtain ⟨v, hv, hr3⟩ := tk.val hw
      have ev : v = .str w0 := hr3
      subst ev
      refine ⟨rfl, .str u.1, rfl, .ref k, rfl, .str u.1, rfl, k, .str w0, rfl, .inl ⟨kvs, .inr u.1, .inr ⟨ok, s7 _ _ hk6⟩, rfl, hv.symm⟩, ?_⟩
      rw [← e2]
      exact kk _ (Same.refl _)
    · refine ⟨D, _, rfl, eD, trivial, fun ok2 => ?_⟩
      have nHD : H D = none := by
        cases z : H D with
        | none => rfl
        | some o =>
          by_cases ex : D = x
          · subst ex
            rw [s56 _ _ hx5] at nD
            cases nD
          · have := b6 D o z ex
            rw [nD] at this
            cases this
      generalize e8 : upd H7 D (.frz ok2 (.dK ((sortKeys b.keys).map fun q => (Sum.inr q.1, V.str q.2)))) = H8
      have b7 : But x H H7 := b6.trans (But.of s7)
      have b8 : But x H H8 := by
        rw [← e8]
        intro c o hc nc
        rw [upd_ne (ne_of_none hc nHD)]
        exact b7 c o hc nc
      have nxD : x ≠ D := fun z => by
        rw [← z, s56 _ _ hx5] at nD
        cases nD
      have hx8 : H8 x = some (.ins CB dx [("kept_rooms", .ref r)]) := by
        rw [← e8, upd_ne nxD]
        exact s7 _ _ (s56 _ _ hx5)
      have hD8 : H8 D = some (.frz ok2 (.dK ((sortKeys b.keys).map fun q => (Sum.inr q.1, V.str q.2)))) := by rw [← e8]; exact upd_same
      refine ⟨.ref x, rfl, x, CB, dx, _, rfl, hx8, T.cl, nK _ (by simp), by show 1 < 1000; decide, ?_⟩
      generalize e9 : upd H8 x (.ins CB dx (putF "kept_keys" (.ref D) [("kept_rooms", .ref r)])) = H9
      have hx9 : H9 x = some (.ins CB dx [("kept_rooms", .ref r), ("kept_keys", .ref D)]) := by rw [← e9]; exact upd_same
      have hD9 : H9 D = some (.frz ok2 (.dK ((sortKeys b.keys).map fun q => (Sum.inr q.1, V.str q.2)))) := by rw [← e9, upd_ne nxD.symm]; exact hD8
      have b9 : But x H H9 := by rw [← e9]; exact b8.trans But.put
      -- the doors
      refine ⟨.ref a, rfl, a, ds, rfl, .inr ⟨oa, b9.frz hx ha⟩, fun dn ndn => ?_⟩
      rw [td.kV]
      have n1 : x ≠ dn := ne_of_none hx9 ndn
      refine ⟨.ref x, rfl, x, CB, dx, _, rfl, (by rw [upd_ne n1]; exact hx9), T.cl, nK _ (by simp), by show 2 < 1000; decide, ?_⟩
      generalize e10 : upd (upd H9 dn (.tup ((b.doors.map (·.1)).map V.str))) x (.ins CB dx (putF "door_names" (.ref dn) [("kept_rooms", .ref r), ("kept_keys", .ref D)])) = H10
      have hx10 : H10 x = some (.ins CB dx [("kept_rooms", .ref r), ("kept_keys", .ref D), ("door_names", .ref dn)]) := by rw [← e10]; exact upd_same
      have c10 : But x H9 H10 := by rw [← e10]; exact (But.new ndn).trans But.put
      have hdn10 : H10 dn = some (.tup ((b.doors.map (·.1)).map V.str)) := by rw [← e10, upd_ne n1.symm]; exact upd_same
      have b10 := b9.trans c10
      refine ⟨.ref a, rfl, a, ds, rfl, .inr ⟨oa, b10.frz hx ha⟩, fun dd ndd => ⟨dd, _, rfl, upd_same, trivial, fun od2 => ?_⟩⟩
      rw [upd_upd]
      have n2 : x ≠ dd := ne_of_none hx10 ndd
      refine ⟨.ref x, rfl, x, CB, dx, _, rfl, (by rw [upd_ne n2]; exact hx10), T.cl, nK _ (by simp), by show 3 < 1000; decide, ?_⟩
      generalize e11 : upd (upd H10 dd (.frz od2 (.dK ds))) x (.ins CB dx (putF "kept_doors" (.ref dd) [("kept_rooms", .ref r), ("kept_keys", .ref D), ("door_names", .ref dn)])) = H11
      have hx11 : H11 x = some (.ins CB dx [("kept_rooms", .ref r), ("kept_keys", .ref D), ("door_names", .ref dn), ("kept_doors", .ref dd)]) := by rw [← e11]; exact upd_same
      have c11 : But x H10 H11 := by rw [← e11]; exact (But.new ndd).trans But.put
      have hdd11 : H11 dd = some (.frz od2 (.dK ds)) := by rw [← e11, upd_ne n2.symm]; exact upd_same
      have b11 := b10.trans c11
      -- the people
      refine ⟨.ref p, rfl, p, ps, rfl, .inr ⟨op, b11.frz hx hp⟩, fun pn npn => ?_⟩
      rw [tp.kV]
      have n3 : x ≠ pn := ne_of_none hx11 npn
      refine ⟨.ref x, rfl, x, CB, dx, _, rfl, (by rw [upd_ne n3]; exact hx11), T.cl, nK _ (by simp), by show 4 < 1000; decide, ?_⟩
      generalize e12 : upd (upd H11 pn (.tup ((b.people.map (·.1)).map V.str))) x (.ins CB dx (putF "person_names" (.ref pn) [("kept_rooms", .ref r), ("kept_keys", .ref D), ("door_names", .ref dn), ("kept_doors", .ref dd)])) = H12
      have hx12 : H12 x = some (.ins CB dx [("kept_rooms", .ref r), ("kept_keys", .ref D), ("door_names", .ref dn), ("kept_doors", .ref dd), ("person_names", .ref pn)]) := by rw [← e12]; exact upd_same
      have c12 : But x H11 H12 := by rw [← e12]; exact (But.new npn).trans But.put
      have hpn12 : H12 pn = some (.tup ((b.people.map (·.1)).map V.str)) := by rw [← e12, upd_ne n3.symm]; exact upd_same
      have b12 := b11.trans c12
      refine ⟨.ref p, rfl, p, ps, rfl, .inr ⟨op, b12.frz hx hp⟩, fun pd npd => ⟨pd, _, rfl, upd_same, trivial, fun op2 => ?_⟩⟩
      rw [upd_upd]
      have n4 : x ≠ pd := ne_of_none hx12 npd
      refine ⟨.ref x, rfl, x, CB, dx, _, rfl, (by rw [upd_ne n4]; exact hx12), T.cl, nK _ (by simp), by show 5 < 1000; decide, ?_⟩
      generalize e13 : upd (upd H12 pd (.frz op2 (.dK ps))) x (.ins CB dx (putF "kept_people" (.ref pd) [("kept_rooms", .ref r), ("kept_keys", .ref D), ("door_names", .ref dn), ("kept_doors", .ref dd), ("person_names", .ref pn)])) = H13
      have hx13 : H13 x = some (.ins CB dx (bldFs r D dn dd pn pd)) := by rw [← e13]; exact upd_same
      have c13 : But x H12 H13 := by rw [← e13]; exact (But.new npd).trans But.put
      have hpd13 : H13 pd = some (.frz op2 (.dK ps)) := by rw [← e13, upd_ne n4.symm]; exact upd_same
      have b13 := b12.trans c13
      refine q H13 b13 ⟨⟨dx, r, D, dn, dd, pn, pd, ok2, od2, op2, (sortKeys b.keys).map fun q => (Sum.inr q.1, V.str q.2), ds, ps, hx13, b13.tup hx hr', ?_, ?_, ?_, ?_, ?_, ?_, hpd13, ?_⟩, bok⟩
      · exact c13 _ _ (c12 _ _ (c11 _ _ (c10 _ _ hD9 nxD.symm) nxD.symm) nxD.symm) nxD.symm
      · have go : ∀ l : List (Str × Str), Tab keyR (l.map fun q => ((Sum.inr q.1 : Key), V.str q.2)) l := fun l => by
          induction l with
          | nil => exact .nil
          | cons q r ih => exact .cons ⟨rfl, rfl⟩ ih
        exact go _
      · exact .inl (.inl (c13 _ _ (c12 _ _ (c11 _ _ hdn10 n1.symm) n1.symm) n1.symm))
      · exact c13 _ _ (c12 _ _ hdd11 n2.symm) n2.symm
      · exact td.mono fun v d ⟨y, ev, hy⟩ => ⟨y, ev, b13.door hx hy⟩
      · exact .inl (.inl (c13 _ _ hpn12 n3.symm))
      · exact tp.mono fun v d ⟨y, ev, hy⟩ => ⟨y, ev, b13.pers hx hy⟩
end
end Lk
set_option Elab.async false
set_option linter.all false
set_option maxRecDepth 100000
set_option maxHeartbeats 2000000
namespace Lk
open PySem PySem.Spec PyProof.Rows L2 TxS LkO LkG
theorem nm_of {b : BldD} (ok : b.ok) {n : Str} {d : DoorD} (h : b.doors.lookup n = some d) : isNm n = true := (ok.doors _ (look_mem h)).1
section
variable {P : Program} {w : World} {K : PySem.W.Frag} {mg : Str → Option Value} {base : Heap} {CD CP CB CL : Addr}
/-! ### properties -/
def spKeyRooms (K : PySem.W.Frag) (CD CP CB : Addr) : Sp := fun vs H Q _ => ∃ (x : Addr) (b : BldD), vs = [.ref x] ∧ BldAt K CD CP CB H x b ∧ ∀ p kvs, Tab keyR kvs (sortKeys b.keys) → H p = none → Q (.ref p) (upd H p (.dK kvs))
theorem scKR : FnScope ["self"] ["self"] (defScope s_Building_key_rooms) := ⟨rfl, rfl, rfl, by decide +kernel, rfl, by decide +kernel, by decide +kernel⟩
theorem ok_keyRooms {f : Addr} {fd : FuncData} {k : Nat} (F : Fun K "key_rooms" "Building.key_rooms" s_Building_key_rooms f fd) (B : Blt mg) (T : OwnC K mg CB "Building" bldF) : FnOk P w K mg base CX0 (k + 1) f fd ["self"] (spKeyRooms K CD CP CB) := by
  refine F.ok scKR (fun vs H Q E h => ?_) (fun cdv A outer s H vs Q E hr h => ?_)
  · obtain ⟨x, b, rfl, _⟩ := h
    rfl
  · obtain ⟨x, b, rfl, ⟨⟨dx, r, k, dn, dd, pn, pd, ok, od, op, kvs, ds, ps, I⟩, bok⟩, q⟩ := h
    refine ⟨_, pss_one (ps_ret (pe_callTy call_dictD (by rfl) B.dct PyProof.Rows.boot_dict (pa_cons (pe_fld (pv 0) rfl) pa_nil))), ?_⟩
    exact ⟨.ref x, rfl, x, CB, dx, _, _, rfl, I.ob, T.cl, T.nK _ (by simp), (look_bld r k dn dd pn pd).2.1, k, kvs, rfl, .inr ⟨ok, I.keys⟩, fun p np => q p kvs I.keysT np⟩
def spBDoors (K : PySem.W.Frag) (CD CP CB : Addr) : Sp := fun vs H Q _ => ∃ (x : Addr) (b : BldD), vs = [.ref x] ∧ BldAt K CD CP CB H x b ∧ ∀ p, H p = none → Q (.ref p) (upd H p (.lst ((b.doors.map (·.1)).map V.str)))
theorem scBD : FnScope ["self"] ["self"] (defScope s_Building_doors) := ⟨rfl, rfl, rfl, by decide +kernel, rfl, by decide +kernel, by decide +kernel⟩
theorem ok_bDoors {f : Addr} {fd : FuncData} {k : Nat} (F : Fun K "doors" "Building.doors" s_Building_doors f fd) (B : Blt mg) (T : OwnC K mg CB "Building" bldF) : FnOk P w K mg base CX0 (k + 1) f fd ["self"] (spBDoors K CD CP CB) := by
  refine F.ok scBD (fun vs H Q E h => ?_) (fun cdv A outer s H vs Q E hr h => ?_)
  · obtain ⟨x, b, rfl, _⟩ := h
    rfl
  · obtain ⟨x, b, rfl, ⟨⟨dx, r, k, dn, dd, pn, pd, ok, od, op, kvs, ds, ps, I⟩, bok⟩, q⟩ := h
    refine ⟨_, pss_one (ps_ret (pe_callTy call_list_of (by rfl) B.lst PyProof.Rows.boot_list (pa_cons (pe_fld (pv 0) rfl) pa_nil))), ?_⟩
    exact ⟨.ref x, rfl, x, CB, dx, _, _, rfl, I.ob, T.cl, T.nK _ (by simp), (look_bld r k dn dd pn pd).2.2.1, dn, _, rfl, .inr I.dn, q⟩
def spBPeople (K : PySem.W.Frag) (CD CP CB : Addr) : Sp := fun vs H Q _ => ∃ (x : Addr) (b : BldD), vs = [.ref x] ∧ BldAt K CD CP CB H x b ∧ ∀ p, H p = none → Q (.ref p) (upd H p (.lst ((b.people.map (·.1)).map V.str)))
theorem scBP : FnScope ["self"] ["self"] (defScope s_Building_people) := ⟨rfl, rfl, rfl, by decide +kernel, rfl, by decide +kernel, by decide +kernel⟩
theorem ok_bPeople {f : Addr} {fd : FuncData} {k : Nat} (F : Fun K "people" "Building.people" s_Building_people f fd) (B : Blt mg) (T : OwnC K mg CB "Building" bldF) : FnOk P w K mg base CX0 (k + 1) f fd ["self"] (spBPeople K CD CP CB) := by
  refine F.ok scBP (fun vs H Q E h => ?_) (fun cdv A outer s H vs Q E hr h => ?_)
  · obtain ⟨x, b, rfl, _⟩ := h
    rfl
  · obtain ⟨x, b, rfl, ⟨⟨dx, r, k, dn, dd, pn, pd, ok, od, op, kvs, ds, ps, I⟩, bok⟩, q⟩ := h
    refine ⟨_, pss_one (ps_ret (pe_callTy call_list_of (by rfl) B.lst PyProof.Rows.boot_list (pa_cons (pe_fld (pv 0) rfl) pa_nil))), ?_⟩
    exact ⟨.ref x, rfl, x, CB, dx, _, _, rfl, I.ob, T.cl, T.nK _ (by simp), (look_bld r k dn dd pn pd).2.2.2.2.1, pn, _, rfl, .inr I.pn, q⟩
/-! ### door, person -/
def spDoorOf (K : PySem.W.Frag) (CD CP CB : Addr) : Sp := fun vs H Q _ => ∃ (x : Addr) (b : BldD) (n : Str) (d : DoorD), vs = [.ref x, .str n] ∧ BldAt K CD CP CB H x b ∧ b.doors.lookup n = some d ∧ ∀ H' y, Same H H' → DoorAt CD H' y d → Q (.ref y) H'
theorem scDoorOf : FnScope ["self", "name"] ["self", "name"] (defScope s_Building_door) := ⟨rfl, rfl, rfl, by decide +kernel, rfl, by decide +kernel, by decide +kernel⟩
theorem ok_doorOf {f : Addr} {fd : FuncData} (F : Fun K "door" "Building.door" s_Building_door f fd) (T : OwnC K mg CB "Building" bldF) (GN : Fn P w K mg base 1 "is_name" ["value"] spName) : FnOk P w K mg base CX0 2 f fd ["self", "name"] (spDoorOf K CD CP CB) := by
  refine F.ok scDoorOf (fun vs H Q E h => ?_) (fun cdv A outer s H vs Q E hr h => ?_)
  · obtain ⟨x, b, n, d, rfl, _⟩ := h
    rfl
  · obtain ⟨x, b, n, d, rfl, ⟨⟨dx, r, k, dn, dd, pn, pd, ok, od, op, kvs, ds, ps, I⟩, bok⟩, hn, q⟩ := h
    refine ⟨_, pss_cons (ps_if (pw_or (pt_not (pt_val (pe_fn GN hr (by rfl) (pa_cons (pv 1) pa_nil)))) (pw_or1 (pt_cmp (pc_dnotin (hu_of hr) (pv 1) (pe_fld (pv 0) rfl)) rfl))).pt (pss_one ps_never) pss_nil) (pss_one (ps_ret (pe_dget (hu_of hr) (pe_fld (pv 0) rfl) (pv 1) (fun _ _ => rfl)))), ?_⟩
    have nm := nm_of bok hn
    obtain ⟨v, hv, ⟨y, rfl, hy⟩⟩ := I.doorsT.val hn
    have l4 := (look_bld r k dn dd pn pd).2.2.2.1
    refine ⟨.str n, rfl, n, rfl, nm_line nm, fun H1 s1 => ⟨true, by rw [nm], iteF ?_⟩⟩
    refine ⟨.str n, rfl, .ref x, rfl, x, CB, dx, _, _, rfl, s1 _ _ I.ob, T.cl, T.nK _ (by simp), l4, dd, _, rfl, .inl ⟨ds, .inr n, .inr ⟨od, s1 _ _ I.doors⟩, rfl, rfl⟩, false, by rw [hv]; rfl, iteF ?_⟩
    exact ⟨.ref x, rfl, x, CB, dx, _, _, rfl, s1 _ _ I.ob, T.cl, T.nK _ (by simp), l4, .str n, rfl, dd, .ref y, rfl, .inl ⟨ds, .inr n, .inr ⟨od, s1 _ _ I.doors⟩, rfl, hv.symm⟩, q H1 y s1 (hy.same s1)⟩
def spPersOf (K : PySem.W.Frag) (CD CP CB : Addr) : Sp := fun vs H Q _ => ∃ (x : Addr) (b : BldD) (n : Str) (d : PersonD), vs = [.ref x, .str n] ∧ BldAt K CD CP CB H x b ∧ b.people.lookup n = some d ∧ ∀ H' y, Same H H' → PersonAt K CP H' y d → Q (.ref y) H'
theorem scPersOf : FnScope ["self", "name"] ["self", "name"] (defScope s_Building_person) := ⟨rfl, rfl, rfl, by decide +kernel, rfl, by decide +kernel, by decide +kernel⟩
theorem ok_persOf {f : Addr} {fd : FuncData} (F : Fun K "person" "Building.person" s_Building_person f fd) (T : OwnC K mg CB "Building" bldF) (GN : Fn P w K mg base 1 "is_name" ["value"] spName) : FnOk P w K mg base CX0 2 f fd ["self", "name"] (spPersOf K CD CP CB) := by
  refine F.ok scPersOf (fun vs H Q E h => ?_) (fun cdv A outer s H vs Q E hr h => ?_)
  · obtain ⟨x, b, n, d, rfl, _⟩ := h
    rfl
  · obtain ⟨x, b, n, d, rfl, ⟨⟨dx, r, k, dn, dd, pn, pd, ok, od, op, kvs, ds, ps, I⟩, bok⟩, hn, q⟩ := h
    refine ⟨_, pss_cons (ps_if (pw_or (pt_not (pt_val (pe_fn GN hr (by rfl) (pa_cons (pv 1) pa_nil)))) (pw_or1 (pt_cmp (pc_dnotin (hu_of hr) (pv 1) (pe_fld (pv 0) rfl)) rfl))).pt (pss_one ps_never) pss_nil) (pss_one (ps_ret (pe_dget (hu_of hr) (pe_fld (pv 0) rfl) (pv 1) (fun _ _ => rfl)))), ?_⟩
    have nm : isNm n = true := (bok.people _ (look_mem hn)).1
    obtain ⟨v, hv, ⟨y, rfl, hy⟩⟩ := I.peopleT.val hn
    have l4 := (look_bld r k dn dd pn pd).2.2.2.2.2
    refine ⟨.str n, rfl, n, rfl, nm_line nm, fun H1 s1 => ⟨true, by rw [nm], iteF ?_⟩⟩
    refine ⟨.str n, rfl, .ref x, rfl, x, CB, dx, _, _, rfl, s1 _ _ I.ob, T.cl, T.nK _ (by simp), l4, pd, _, rfl, .inl ⟨ps, .inr n, .inr ⟨op, s1 _ _ I.people⟩, rfl, rfl⟩, false, by rw [hv]; rfl, iteF ?_⟩
    exact ⟨.ref x, rfl, x, CB, dx, _, _, rfl, s1 _ _ I.ob, T.cl, T.nK _ (by simp), l4, .str n, rfl, pd, .ref y, rfl, .inl ⟨ps, .inr n, .inr ⟨op, s1 _ _ I.people⟩, rfl, hv.symm⟩, q H1 y s1 (hy.same s1)⟩
/-! ### check_locks -/
def spChk (K : PySem.W.Frag) (CD CP CB CL : Addr) : Sp := fun vs H Q _ => ∃ (x y : Addr) (b : BldD) (ls : List Str), vs = [.ref x, .ref y] ∧ BldAt K CD CP CB H x b ∧ LkAt CL H y ls ∧ ls.length ≤ 1000 ∧ (∀ z ∈ ls, z ∈ b.doors.map (·.1)) ∧ ∀ H', Same H H' → Q .non H'
theorem scChk : FnScope ["building", "locks"] ["building", "locks"] (defScope s_check_locks) := ⟨rfl, rfl, rfl, by decide +kernel, rfl, by decide +kernel, by decide +kernel⟩
theorem ok_chk {f : Addr} {fd : FuncData} (F : Fun K "check_locks" "check_locks" s_check_locks f fd) (B : Blt mg) (TL : LkC K mg CL) (T : OwnC K mg CB "Building" bldF) (GL : Fn P w K mg base 1 "all_in" ["names", "known"] (spAllInL K)) (PN : Pr P w K mg base 1 CL "names" (spNames CL)) (PD : Pr P w K mg base 1 CB "doors" (spBDoors K CD CP CB)) :
    FnOk P w K mg base CX0 3 f fd ["building", "locks"] (spChk K CD CP CB CL) := by
  refine F.ok scChk (fun vs H Q E h => ?_) (fun cdv A outer s H vs Q E hr h => ?_)
  · obtain ⟨x, y, b, ls, rfl, _⟩ := h
    rfl
  · obtain ⟨x, y, b, ls, rfl, hb, hl, few, sub, q⟩ := h
    obtain ⟨⟨dx, r, k, dn, dd, pn, pd, ok, od, op, kvs, ds, ps, I⟩, bok⟩ := id hb
    obtain ⟨⟨dy, t, h1, h2⟩, asc, nm⟩ := id hl
    refine ⟨_, pss_cons (ps_if (pt_not (pt_val (pe_callB call_isi (by rfl) B.isi PyProof.Rows.boot_isinstance (pa_cons (pv 1) (pa_cons (pe_glob (v := .ref CL) (by rfl) TL.mgC rfl) pa_nil))))) (pss_one ps_never) pss_nil)
      (pss_one (ps_if (pt_not (pt_val (pe_fn GL (hr.mono (by decide)) (by rfl) (pa_cons (pe_pr PN hr TL.cl (pv 1) rfl) (pa_cons (pe_pr PD hr T.cl (pv 0) rfl) pa_nil))))) (pss_one ps_never) pss_nil)), ?_⟩
    refine ⟨.ref y, rfl, .ref y, .ref CL, _, _, true, rfl, .own CL, .base (.ins h1 TL.cl TL.tyc TL.tyg TL.tyt TL.tym), TL.kit, true, rfl, iteF ?_⟩
    refine ⟨.ref y, rfl, y, dy, _, rfl, h1, y, ls, rfl, hl, fun l nl => ?_⟩
    have s1 := same_new (o := .lst (ls.map V.str)) nl
    refine ⟨.ref x, rfl, x, dx, _, rfl, s1 _ _ I.ob, x, b, rfl, hb.same s1, fun m nm' => ?_⟩
    have s2 := same_new (o := .lst ((b.doors.map (·.1)).map V.str)) nm'
    refine ⟨l, m, ls, b.doors.map (·.1), rfl, few, .inl (.inl (s2 _ _ upd_same)), .inl (.inl (.inl upd_same)), fun H3 s3 => ⟨true, by rw [all_in_yes sub], iteF ?_⟩⟩
    exact q _ (s1.trans (s2.trans s3))
/-! ### keys_held -/
def heldOf (b : BldD) (p : PersonD) (rooms : List Str) : List Str := p.carried ++ ((sortKeys b.keys).filter fun q => decide (q.2 ∈ rooms)).map (·.1)
def spHeld (K : PySem.W.Frag) (CD CP CB : Addr) : Sp := fun vs H Q _ => ∃ (x y l : Addr) (b : BldD) (p : PersonD) (rooms : List Str), vs = [.ref x, .ref y, .ref l] ∧ BldAt K CD CP CB H x b ∧ PersonAt K CP H y p ∧ SqL K H l (rooms.map V.str) ∧ ∀ H' m, Same H H' → H' m = some (.lst ((heldOf b p rooms).map V.str)) → Q (.ref m) H'
theorem scHeld : FnScope ["building", "person", "rooms", "places", "key"] ["building", "person", "rooms"] (defScope s_keys_held) := ⟨rfl, rfl, rfl, by decide +kernel, rfl, by decide +kernel, by decide +kernel⟩
theorem ok_held {f : Addr} {fd : FuncData} (F : Fun K "keys_held" "keys_held" s_keys_held f fd) (B : Blt mg) (T : OwnC K mg CB "Building" bldF) (TP : PersT P w K mg base CP) (PK : Pr P w K mg base 1 CB "key_rooms" (spKeyRooms K CD CP CB)) : FnOk P w K mg base CX0 3 f fd ["building", "person", "rooms"] (spHeld K CD CP CB) := by
  refine F.ok scHeld (fun vs H Q E h => ?_) (fun cdv A outer s H vs Q E hr h => ?_)
  · obtain ⟨x, y, l, b, p, rooms, rfl, _⟩ := h
    rfl
  · obtain ⟨x, y, l, b, p, rooms, rfl, hb, hp, hl, q⟩ := h
    obtain ⟨⟨dx, r, k, dn, dd, pn, pd, ok, od, op, kvs, ds, ps, I⟩, bok⟩ := id hb
    obtain ⟨⟨dy, t1, t2, t3, h0, h1, h2, h3⟩, pok⟩ := id hp
    refine ⟨_, pss_cons (ps_set (i := 3) scHeld.nd rfl (.inr rfl) (pe_frz (pe_pr PK hr T.cl (pv 0) rfl)))
      (pss_one (ps_ret (pe_op op_cat (pe_callTy call_list_of (by rfl) B.lst PyProof.Rows.boot_list (pa_cons (pe_pr TP.carried hr TP.c.cl (pv 1) rfl) pa_nil))
        (pe_lc (own := [("key", 4)]) (g := gName 4) (tt := tTest (tOp (rIn K false) (tDGet (tVar 3) (tVar 4)) (tVar 2))) (te := tVar 4) rfl scHeld.nd (pi_keys (pv 3)) (blkOk_by (N := ["building", "person", "rooms", "places", "key"]) (sc := defScope s_keys_held) (by decide +kernel))
          (fun _ _ _ _ _ => pg_name (i := 4) scHeld.nd rfl (Or.inl rfl)) (fun _ _ _ _ _ => pts_one (pt_cmpR op_in_seq (pe_dget (hu_of hr) (pv 3) (pv 4) (fun _ _ => rfl)) (pv 2) rfl)) (fun _ _ _ _ _ => pv 4))))), ?_⟩
    refine ⟨.ref x, rfl, x, dx, _, rfl, I.ob, x, b, rfl, hb, fun pl kv2 tab np => ⟨pl, _, rfl, upd_same, trivial, fun od2 => ?_⟩⟩
    rw [upd_upd]
    have s1 := same_new (o := .frz od2 (.dK kv2)) np
    generalize e1 : upd H pl (.frz od2 (.dK kv2)) = H1 at s1
    have hpl : H1 pl = some (.frz od2 (.dK kv2)) := by rw [← e1]; exact upd_same
    refine ⟨.ref y, rfl, y, dy, _, rfl, s1 _ _ h0, y, dy, _, _, rfl, s1 _ _ h0, (look_person p.a t1 t2 t3).2.1, t1, _, rfl, .inr (Same.tup s1 h1), fun c nc => ?_⟩
    have s2 := same_new (o := .lst (p.carried.map V.str)) nc
    have s12 := s1.trans s2
    refine ⟨.ref pl, rfl, pl, od2, rfl, .inl ⟨kv2, s2 _ _ hpl, fun D nD => lc_mf (walk_keys (kvs := kv2)) (sortKeys b.keys) (fun q => decide (q.2 ∈ rooms)) (fun q => .str q.1) tab.len nD ?_ (fun H' s => s _ _ (s2 _ _ hpl)) (fun i u v H7 H8 Kt Kf hz s7 hY kt kf => ?_) (fun H7 s7 eD => ?_)⟩⟩
    · rw [sortKeys_len bok.knd]
      have := bok.k3
      omega
    · obtain ⟨rfl, k0, v0, hx, rfl⟩ := hY
      obtain ⟨v, hv, _⟩ := tab.get hz
      rw [hv] at hx
      cases hx
      obtain ⟨w0, hw, ew⟩ := tab.val (look_at (by rw [sortKeys_names]; exact nodup_asc (asc_srt _)) (List.mem_of_getElem? hz))
      have ew : w0 = .str u.2 := ew
      subst ew
      have sH := s12.trans s7
      refine ⟨rfl, .ref pl, rfl, .str u.1, rfl, pl, .str u.2, rfl, .inl ⟨kv2, .inr u.1, .inr ⟨od2, s7 _ _ (s2 _ _ hpl)⟩, rfl, hw.symm⟩, .ref l, rfl, l, _, rfl, .inl (sH.seq hl), rfl, flat_strs rooms, _, rfl, ?_⟩
      rw [inV_str]
      refine ite2 (fun t => ?_) (fun t => ?_)
      · exact ⟨.str u.1, rfl, kt t _ (Same.refl _)⟩
      · exact kf (Bool.eq_false_iff.mpr t) _ (Same.refl _)
    · have few : ((sortKeys b.keys).filter fun q => decide (q.2 ∈ rooms)).length ≤ 3 := by
        refine Nat.le_trans (List.length_filter_le _ _) ?_
        rw [sortKeys_len bok.knd]
        exact bok.k3
      refine ⟨c, D, _, _, rfl, rfl, s7 _ _ upd_same, eD, ?_, fun m nm => q _ m (s12.trans (s7.trans (same_new nm))) ?_⟩
      · rw [List.length_map, List.length_map, sizeLine_eq]
        have := pok.few1
        omega
      · rw [upd_same]
        unfold heldOf
        rw [List.map_append, List.map_map]
        rfl
end
end Lk
set_option Elab.async false
set_option linter.all false
set_option maxRecDepth 100000
set_option maxHeartbeats 4000000
namespace Lk
open PySem PySem.Spec PyProof.Rows L2 TxS LkO LkG
/-- o.m(..) of an own class by x in o -/
structure Has (P : Program) (w : World) (K : PySem.W.Frag) (mg : Str → Option Value) (base : Heap) (C : Addr) : Prop where
  ex : ∃ f fd, OwnM K C f "__contains__" ∧ Binds K fd ["self", "name"] [] ∧ FnOk P w K mg base CX0 1 f fd ["self", "name"] (spHas C)
structure Gen (P : Program) (w : World) (K : PySem.W.Frag) (mg : Str → Option Value) (base : Heap) (C : Addr) : Prop where
  ex : ∃ f fd, Meth K C "ways" f ∧ Binds K fd ["self"] [] ∧ GFt P w K mg base 1 f fd ["self"] (spWays C)
theorem qv {X : Cx} (i : Nat) {x : Str} {pos : Pos} (hN : X.N[i]? = some x := by rfl) (hv : Vis X.env.scope x := by first | exact Or.inl rfl | exact Or.inr (Or.inl rfl) | exact Or.inr (Or.inr rfl)) (nd : (x == ("__debug__" : Str)) = false := by decide) (nc : (x == ("__classdict__" : Str)) = false := by decide) :
    QE X (.Name x pos) (tVar i) := qe_var hN hv nd nc
def keyOk (k : Option Str) (held : List Str) : Bool := match k with
  | none => true
  | some z => decide (z ∈ held)
def addsOf (rooms : List Str) (d : DoorD) : List Str := ((waysOf d).filter fun q => decide (q.1 ∈ rooms) && !decide (q.2 ∈ rooms)).map (·.2)
def passOf (ls held : List Str) (q : Str × DoorD) : Bool := !decide (q.1 ∈ ls) && keyOk q.2.key held
def addOf (b : BldD) (p : PersonD) (ls rooms : List Str) (q : Str × DoorD) : Option Str := if passOf ls (heldOf b p rooms) q = true then (addsOf rooms q.2).head? else none
def beyondOf (b : BldD) (p : PersonD) (ls rooms : List Str) : List Str := b.doors.filterMap (addOf b p ls rooms)
theorem ways_two (d : DoorD) : (waysOf d).length ≤ 2 := by
  unfold waysOf
  cases d.both <;> simp
theorem inV_list (z : Str) (zs : List Str) : inV (.str z) (zs.map V.str) = decide (z ∈ zs) := inV_str z zs
theorem oV_ne (o : Option Str) : (!decide (oV o = .non)) = o.isSome := by cases o <;> rfl
theorem oV_some {α : Type} (f : α → Option Str) : ∀ l : List α, (l.filter fun a => (f a).isSome).map (fun a => oV (f a)) = (l.filterMap f).map V.str
  | [] => rfl
  | a :: r => by
    rw [List.filter_cons, List.filterMap_cons]
    cases h : f a with
    | none => simpa using oV_some f r
    | some z =>
      simp only [Option.isSome_some, if_true, List.map_cons, h]
      rw [oV_some f r]
      rfl
section
variable {P : Program} {w : World} {K : PySem.W.Frag} {mg : Str → Option Value} {base : Heap} {CD CP CB CL : Addr}
/-! ### lets_through -/
def spThru (K : PySem.W.Frag) (CD CP CB CL : Addr) : Sp := fun vs H Q _ => ∃ (x y z l : Addr) (b : BldD) (p : PersonD) (ls rooms : List Str) (n : Str) (d : DoorD), vs = [.ref x, .ref y, .ref z, .ref l, .str n] ∧ BldAt K CD CP CB H x b ∧ PersonAt K CP H y p ∧ LkAt CL H z ls ∧ SqL K H l (rooms.map V.str) ∧ b.doors.lookup n = some d ∧
  ∀ H', Same H H' → Q (.bl (passOf ls (heldOf b p rooms) (n, d))) H'
theorem scThru : FnScope ["building", "person", "locks", "rooms", "name", "door"] ["building", "person", "locks", "rooms", "name"] (defScope s_lets_through) := ⟨rfl, rfl, rfl, by decide +kernel, rfl, by decide +kernel, by decide +kernel⟩
theorem ok_thru {f : Addr} {fd : FuncData} (F : Fun K "lets_through" "lets_through" s_lets_through f fd) (T : OwnC K mg CB "Building" bldF) (TD : DoorT P w K mg base CD) (GH : Fn P w K mg base 3 "keys_held" ["building", "person", "rooms"] (spHeld K CD CP CB))
    (MD : Mt P w K mg base 2 CB "door" ["self", "name"] (spDoorOf K CD CP CB)) (HL : Has P w K mg base CL) : FnOk P w K mg base CX0 4 f fd ["building", "person", "locks", "rooms", "name"] (spThru K CD CP CB CL) := by
  obtain ⟨fH, fdH, mH, bH, FH⟩ := HL.ex
  refine F.ok scThru (fun vs H Q E h => ?_) (fun cdv A outer s H vs Q E hr h => ?_)
  · obtain ⟨x, y, z, l, b, p, ls, rooms, n, d, rfl, _⟩ := h
    rfl
  · obtain ⟨x, y, z, l, b, p, ls, rooms, n, d, rfl, hb, hp, hz, hl, hn, q⟩ := h
    have hr1 := hr.mono (show 1 ≤ 3 by decide)
    have hr2 := hr.mono (show 2 ≤ 3 by decide)
    refine ⟨_, pss_cons (ps_set (i := 5) scThru.nd rfl (.inl rfl) (pe_mt MD hr2 T.cl (pv 0) (pa_cons (pv 4) pa_nil)))
      (pss_one (ps_ret (pe_and (pe_cmpR (op_ownNotIn (E := E0) mH FH hr1 bH pass0) (pv 4) (pv 2) rfl) (pe_one (pe_or (pe_cmp (pc_isN (pe_pr TD.key hr2 TD.c.cl (pv 5) rfl)))
        (pe_one (pe_cmpR (r := rIn K false) op_in_seq (pe_pr TD.key hr2 TD.c.cl (pv 5) rfl) (pe_fn GH hr (by rfl) (pa_cons (pv 0) (pa_cons (pv 1) (pa_cons (pv 3) pa_nil)))) rfl))))))), ?_⟩
    obtain ⟨⟨dx, r, k, dn, dd, pn, pd, ok, od, op, kvs, ds, ps, I⟩, bok⟩ := id hb
    refine ⟨.ref x, rfl, x, dx, _, rfl, I.ob, rfl, .str n, rfl, x, b, n, d, rfl, hb, hn, fun H1 yd s1 hyd => ?_⟩
    obtain ⟨⟨dz, tz, hz1, hz2⟩, za, zn⟩ := id (hz.same s1)
    obtain ⟨⟨dyd, hyo⟩, dok⟩ := id hyd
    have l3 := (look_door d).2.2.1
    refine ⟨.str n, rfl, .ref z, rfl, z, dz, _, rfl, hz1, z, ls, n, rfl, hz.same s1, _, rfl, _, rfl, ite2 (fun t1 => ?_) (fun t1 => ?_)⟩
    · have t1' : (!decide (n ∈ ls)) = true := t1
      refine ⟨.ref yd, rfl, yd, dyd, _, rfl, hyo, yd, dyd, _, _, rfl, hyo, l3, ?_⟩
      cases hk : d.key with
      | none =>
        have q2 := q _ s1
        rw [show passOf ls (heldOf b p rooms) (n, d) = true from by unfold passOf keyOk; rw [t1', hk]; rfl] at q2
        exact ⟨true, rfl, iteT q2⟩
      | some zk =>
        have l3' : List.lookup ("kept_key" : Str) d.fs = some (V.str zk) := by rw [l3, hk]; rfl
        refine ⟨false, rfl, iteF ?_⟩
        refine ⟨.ref yd, rfl, yd, dyd, _, rfl, hyo, yd, dyd, _, _, rfl, hyo, l3', .ref x, rfl, .ref y, rfl, .ref l, rfl, x, y, l, b, p, rooms, rfl, hb.same s1, hp.same s1, s1.seq hl, fun H2 hd s2 eh => ?_⟩
        refine ⟨hd, _, rfl, .inl (.inl (.inl eh)), rfl, flat_strs _, ?_⟩
        rw [inV_str]
        have q2 := q _ (s1.trans s2)
        rw [show passOf ls (heldOf b p rooms) (n, d) = decide (zk ∈ heldOf b p rooms) from by unfold passOf keyOk; rw [t1', hk]; rfl] at q2
        exact q2
    · have q2 := q _ s1
      rw [show passOf ls (heldOf b p rooms) (n, d) = false from by unfold passOf; rw [show (!decide (n ∈ ls)) = false from Bool.eq_false_iff.mpr t1]; rfl] at q2
      exact q2
/-! ### room_added -/
def spAdded (K : PySem.W.Frag) (CD CP CB CL : Addr) : Sp := fun vs H Q _ => ∃ (x y z l : Addr) (b : BldD) (p : PersonD) (ls rooms : List Str) (n : Str) (d : DoorD), vs = [.ref x, .ref y, .ref z, .ref l, .str n] ∧ BldAt K CD CP CB H x b ∧ PersonAt K CP H y p ∧ LkAt CL H z ls ∧ SqL K H l (rooms.map V.str) ∧ b.doors.lookup n = some d ∧
  ∀ H', Same H H' → Q (oV (addOf b p ls rooms (n, d))) H'
theorem scAdded : FnScope ["building", "person", "locks", "rooms", "name", "start", "end"] ["building", "person", "locks", "rooms", "name"] (defScope s_room_added) := ⟨rfl, rfl, rfl, by decide +kernel, rfl, by decide +kernel, by decide +kernel⟩
theorem ok_added {f : Addr} {fd : FuncData} (F : Fun K "room_added" "room_added" s_room_added f fd) (T : OwnC K mg CB "Building" bldF) (TD : DoorT P w K mg base CD) (GT : Fn P w K mg base 4 "lets_through" ["building", "person", "locks", "rooms", "name"] (spThru K CD CP CB CL))
    (MD : Mt P w K mg base 2 CB "door" ["self", "name"] (spDoorOf K CD CP CB)) (GW : Gen P w K mg base CD) : FnOk P w K mg base CX0 5 f fd ["building", "person", "locks", "rooms", "name"] (spAdded K CD CP CB CL) := by
  obtain ⟨fW, fdW, mW, bW, FW⟩ := GW.ex
  refine F.ok scAdded (fun vs H Q E h => ?_) (fun cdv A outer s H vs Q E hr h => ?_)
  · obtain ⟨x, y, z, l, b, p, ls, rooms, n, d, rfl, _⟩ := h
    rfl
  · obtain ⟨x, y, z, l, b, p, ls, rooms, n, d, rfl, hb, hp, hz, hl, hn, q⟩ := h
    have hr1 := hr.mono (show 1 ≤ 4 by decide)
    have hr2 := hr.mono (show 2 ≤ 4 by decide)
    refine ⟨_, pss_cons (ps_if (pt_val (pe_fn GT hr (by rfl) (pa_cons (pv 0) (pa_cons (pv 1) (pa_cons (pv 2) (pa_cons (pv 3) (pa_cons (pv 4) pa_nil)))))))
        (pss_one (ps_forG (ix := 5) (iy := 6) (k := 1) (tt := tAnd (tTest (tOp (rInL K false) (tVar 5) (tVar 3))) (tTest (tOp (rInL K true) (tVar 6) (tVar 3)))) (te := tVar 6) rfl scAdded.nd hr2 (List.Mem.head _) (pgt_meth0 (pe_mt MD hr2 T.cl (pv 0) (pa_cons (pv 4) pa_nil)) TD.c.cl mW FW hr1 bW) rfl rfl rfl rfl
          (qt_and (qt_in (qv 5) (qv 3) rfl) (qt_notIn (qv 6) (qv 3) rfl)) (qv 6))) pss_nil)
      (pss_one (ps_ret pe_non)), ?_⟩
    obtain ⟨⟨dx, r, k, dn, dd, pn, pd, ok, od, op, kvs, ds, ps, I⟩, bok⟩ := id hb
    refine ⟨.ref x, rfl, .ref y, rfl, .ref z, rfl, .ref l, rfl, .str n, rfl, x, y, z, l, b, p, ls, rooms, n, d, rfl, hb, hp, hz, hl, hn, fun H1 s1 => ⟨_, rfl, ite2 (fun t1 => ?_) (fun t1 => ?_)⟩⟩
    · refine ⟨.ref x, rfl, x, dx, _, rfl, s1 _ _ I.ob, rfl, .str n, rfl, x, b, n, d, rfl, hb.same s1, hn, fun H2 yd s2 hyd => ?_⟩
      obtain ⟨⟨dyd, hyo⟩, dok⟩ := id hyd
      have s12 := s1.trans s2
      have e1 : addOf b p ls rooms (n, d) = (addsOf rooms d).head? := by
        unfold addOf
        rw [if_pos t1]
      rw [e1] at q
      refine ⟨yd, dyd, _, strPairs (waysOf d), rfl, hyo, rfl, ⟨yd, d, rfl, hyd, rfl⟩, ?_⟩
      have lw : (strPairs (waysOf d)).length = (waysOf d).length := by
        unfold strPairs
        rw [List.length_map]
      refine ⟨fun i σ H' => (∃ v5 v6, σ = [some (.ref x), some (.ref y), some (.ref z), some (.ref l), some (.str n), v5, v6]) ∧ Same H H' ∧ ∀ q' ∈ (waysOf d).take i, (decide (q'.1 ∈ rooms) && !decide (q'.2 ∈ rooms)) = false, ⟨⟨none, none, rfl⟩, s12, fun _ h => by simp at h⟩, fun σ2 H3 hw => ?_, fun i u v σ2 H3 pt hi hw npt => ?_⟩
      · obtain ⟨⟨v5, v6, rfl⟩, s3, no⟩ := hw
        have e2 : (addsOf rooms d).head? = none := by
          unfold addsOf
          rw [lw, List.take_length] at no
          rw [List.filter_eq_nil_iff.mpr fun q' hq' => by rw [no q' hq']; exact Bool.false_ne_true]
          rfl
        rw [e2] at q
        exact q _ s3
      · obtain ⟨⟨v5, v6, rfl⟩, s3, no⟩ := hw
        have hj2 : ∃ q', (waysOf d)[i]? = some q' ∧ u = .str q'.1 ∧ v = .str q'.2 := by
          unfold strPairs at hi
          rw [List.getElem?_map] at hi
          cases eq1 : (waysOf d)[i]? with
          | none =>
            rw [eq1] at hi
            cases hi
          | some q' =>
            rw [eq1] at hi
            cases hi
            exact ⟨q', rfl, rfl, rfl⟩
        obtain ⟨q1, hq1, rfl, rfl⟩ := hj2
        have s4 := s3.trans (same_new (o := .tup [.str q1.1, .str q1.2]) npt)
        have hl4 := s4.seq hl
        have more : (decide (q1.1 ∈ rooms) && !decide (q1.2 ∈ rooms)) = false → ∀ q' ∈ (waysOf d).take (i + 1), (decide (q'.1 ∈ rooms) && !decide (q'.2 ∈ rooms)) = false := fun e q' hq' => by
          rw [take_next1 hq1] at hq'
          rcases List.mem_append.mp hq' with h | h
          · exact no q' h
          · rw [List.mem_singleton.mp h]
            exact e
        refine ⟨.str q1.1, rfl, .ref l, rfl, l, _, rfl, hl4, rfl, flat_strs rooms, _, rfl, ?_⟩
        rw [inV_str]
        refine ite2 (fun t2 => ?_) (fun t2 => ?_)
        · refine ⟨.str q1.2, rfl, .ref l, rfl, l, _, rfl, hl4, rfl, flat_strs rooms, _, rfl, ?_⟩
          rw [inV_str]
          refine ite2 (fun t3 => ?_) (fun t3 => ?_)
          · have t23 : (decide (q1.1 ∈ rooms) && !decide (q1.2 ∈ rooms)) = true := by
              rw [show decide (q1.1 ∈ rooms) = true from t2, Bool.true_and]
              exact t3
            have e2 : (addsOf rooms d).head? = some q1.2 := by
              unfold addsOf
              rw [← List.take_append_drop i (waysOf d), List.filter_append, List.filter_eq_nil_iff.mpr fun q' hq' => by rw [no q' hq']; exact Bool.false_ne_true]
              have hd : (waysOf d).drop i = q1 :: (waysOf d).drop (i + 1) := by
                have hlt := (List.getElem?_eq_some_iff.mp hq1)
                rw [← hlt.2]
                exact List.drop_eq_getElem_cons hlt.1
              rw [hd, List.filter_cons, if_pos t23]
              rfl
            rw [e2] at q
            exact ⟨.str q1.2, rfl, q _ s4⟩
          · refine ⟨⟨_, _, rfl⟩, s4, more ?_⟩
            rw [show decide (q1.1 ∈ rooms) = true from t2, Bool.true_and]
            exact Bool.eq_false_iff.mpr t3
        · refine ⟨⟨_, _, rfl⟩, s4, more ?_⟩
          rw [show decide (q1.1 ∈ rooms) = false from Bool.eq_false_iff.mpr t2, Bool.false_and]
    · have e1 : addOf b p ls rooms (n, d) = none := by
        unfold addOf
        rw [if_neg t1]
      rw [e1] at q
      exact q _ s1
/-! ### rooms_beyond -/
def spBeyond (K : PySem.W.Frag) (CD CP CB CL : Addr) : Sp := fun vs H Q _ => ∃ (x y z l : Addr) (b : BldD) (p : PersonD) (ls rooms : List Str), vs = [.ref x, .ref y, .ref z, .ref l] ∧ BldAt K CD CP CB H x b ∧ PersonAt K CP H y p ∧ LkAt CL H z ls ∧ SqL K H l (rooms.map V.str) ∧
  ∀ H' m, Same H H' → H m = none → H' m = some (.lst ((beyondOf b p ls rooms).map V.str)) → Q (.ref m) H'
theorem scBeyond : FnScope ["building", "person", "locks", "rooms", "added", "name", "room"] ["building", "person", "locks", "rooms"] (defScope s_rooms_beyond) := ⟨rfl, rfl, rfl, by decide +kernel, rfl, by decide +kernel, by decide +kernel⟩
theorem ok_beyond {f : Addr} {fd : FuncData} (F : Fun K "rooms_beyond" "rooms_beyond" s_rooms_beyond f fd) (T : OwnC K mg CB "Building" bldF) (GA : Fn P w K mg base 5 "room_added" ["building", "person", "locks", "rooms", "name"] (spAdded K CD CP CB CL))
    (PD : Pr P w K mg base 1 CB "doors" (spBDoors K CD CP CB)) : FnOk P w K mg base CX0 6 f fd ["building", "person", "locks", "rooms"] (spBeyond K CD CP CB CL) := by
  refine F.ok scBeyond (fun vs H Q E h => ?_) (fun cdv A outer s H vs Q E hr h => ?_)
  · obtain ⟨x, y, z, l, b, p, ls, rooms, rfl, _⟩ := h
    rfl
  · obtain ⟨x, y, z, l, b, p, ls, rooms, rfl, hb, hp, hz, hl, q⟩ := h
    have hr2 := hr.mono (show 2 ≤ 5 by decide)
    refine ⟨_, pss_cons (ps_setLc (i := 4) (own := [("name", 5)]) (g := gName 5) (tt := tYes) (te := tCall (spAdded K CD CP CB CL) [] E0 (tCons (tVar 0) (tCons (tVar 1) (tCons (tVar 2) (tCons (tVar 3) (tCons (tVar 5) tNil)))))) rfl scBeyond.nd rfl rfl (sw_true rfl rfl rfl (by decide +kernel)) (pi_list (pe_pr PD hr2 T.cl (pv 0) rfl)) (blkOk_by (N := ["building", "person", "locks", "rooms", "added", "name", "room"]) (sc := defScope s_rooms_beyond) (by decide +kernel))
        (fun _ _ _ _ _ => pg_name (i := 5) scBeyond.nd rfl (Or.inl rfl)) (fun _ _ _ _ _ => pts_nil) (fun _ _ _ _ _ => pe_fn GA hr (by rfl) (pa_cons (pv 0) (pa_cons (pv 1) (pa_cons (pv 2) (pa_cons (pv 3) (pa_cons (pv 5) pa_nil)))))))
      (pss_one (ps_ret (pe_lc (own := [("room", 6)]) (g := gName 6) (tt := tB (tNotN (tVar 6))) (te := tVar 6) rfl scBeyond.nd (pi_list (pv 4)) (blkOk_by (N := ["building", "person", "locks", "rooms", "added", "name", "room"]) (sc := defScope s_rooms_beyond) (by decide +kernel))
        (fun _ _ _ _ _ => pg_name (i := 6) scBeyond.nd rfl (Or.inl rfl)) (fun _ _ _ _ _ => pts_one (pt_cmp (pc_notN (pv 6)))) (fun _ _ _ _ _ => pv 6)))), ?_⟩
    obtain ⟨⟨dx, r, k, dn, dd, pn, pd, ok, od, op, kvs, ds, ps, I⟩, bok⟩ := id hb
    have d8 := bok.d8
    refine ⟨.ref x, rfl, x, dx, _, rfl, I.ob, x, b, rfl, hb, fun dl ndl => ⟨dl, rfl, ⟨_, .inl (.inl upd_same)⟩, fun D nD => ?_⟩⟩
    have s1 := same_new (o := .lst ((b.doors.map (·.1)).map V.str)) ndl
    refine lc_m (walk_list (xs := (b.doors.map (·.1)).map V.str)) b.doors (fun q => oV (addOf b p ls rooms q)) (by rw [List.length_map, List.length_map]) nD (by omega) (fun H' s' => .inl (.inl (s' _ _ upd_same))) (fun i nd v H2 H3 Kt hz s2 hY k => ?_) (fun H2 s2 eD => ?_)
    · obtain ⟨rfl, hx⟩ := hY
      rw [List.getElem?_map, List.getElem?_map, hz] at hx
      cases hx
      have sH := s1.trans s2
      exact ⟨rfl, .ref x, rfl, .ref y, rfl, .ref z, rfl, .ref l, rfl, .str nd.1, rfl, x, y, z, l, b, p, ls, rooms, nd.1, nd.2, rfl, hb.same sH, hp.same sH, LkAt.same (by assumption) sH, sH.seq hl, look_at bok.dnd (List.mem_of_getElem? hz), fun H5 s5 => k _ s5⟩
    · refine ⟨.ref D, rfl, D, rfl, ⟨_, .inl (.inl eD)⟩, fun D2 nD2 => lc_mf (walk_list (xs := b.doors.map fun q => oV (addOf b p ls rooms q))) b.doors (fun q => (addOf b p ls rooms q).isSome) (fun q => oV (addOf b p ls rooms q)) (by rw [List.length_map]) nD2 (by omega) (fun H' s' => .inl (.inl (s' _ _ eD))) (fun i nd v H4 H5 Kt Kf hz s4 hY kt kf => ?_) (fun H4 s4 eD2 => ?_)⟩
      · obtain ⟨rfl, hx⟩ := hY
        rw [List.getElem?_map, hz] at hx
        cases hx
        refine ⟨rfl, oV (addOf b p ls rooms nd), rfl, _, rfl, ?_⟩
        rw [oV_ne]
        refine ite2 (fun t => ?_) (fun t => ?_)
        · exact ⟨_, rfl, kt t _ (Same.refl _)⟩
        · exact kf (Bool.eq_false_iff.mpr t) _ (Same.refl _)
      · refine q _ D2 (s1.trans (s2.trans s4)) ?_ ?_
        · cases e : H D2 with
          | none => rfl
          | some o =>
            have := s2 _ _ (s1 _ _ e)
            rw [nD2] at this
            cases this
        · rw [eD2, oV_some]
          rfl
end
end Lk
set_option Elab.async false
set_option linter.all false
set_option maxRecDepth 100000
set_option maxHeartbeats 4000000
namespace Lk
open PySem PySem.Spec PyProof.Rows L2 TxS LkO LkG
/-! ### the reach -/
inductive Rch (b : BldD) (p : PersonD) (ls : List Str) : Str → Prop
  | start : Rch b p ls p.a
  | free {n : Str} {d : DoorD} {r e : Str} : (n, d) ∈ b.doors → n ∉ ls → d.key = none → (r, e) ∈ waysOf d → Rch b p ls r → Rch b p ls e
  | got {n : Str} {d : DoorD} {r e z : Str} : (n, d) ∈ b.doors → n ∉ ls → d.key = some z → z ∈ p.carried → (r, e) ∈ waysOf d → Rch b p ls r → Rch b p ls e
  | found {n : Str} {d : DoorD} {r e z room : Str} : (n, d) ∈ b.doors → n ∉ ls → d.key = some z → b.keys.lookup z = some room → (r, e) ∈ waysOf d → Rch b p ls room → Rch b p ls r → Rch b p ls e
theorem mem_held {b : BldD} {p : PersonD} {rooms : List Str} {z : Str} : z ∈ heldOf b p rooms ↔ z ∈ p.carried ∨ ∃ room, b.keys.lookup z = some room ∧ room ∈ rooms := by
  unfold heldOf
  rw [List.mem_append]
  refine or_congr Iff.rfl ⟨fun h => ?_, fun h => ?_⟩
  · obtain ⟨q, hq, rfl⟩ := List.mem_map.mp h
    obtain ⟨h1, h2⟩ := List.mem_filter.mp hq
    refine ⟨q.2, ?_, of_decide_eq_true h2⟩
    rw [← sortKeys_look]
    exact look_at (by rw [sortKeys_names]; exact nodup_asc (asc_srt _)) h1
  · obtain ⟨room, h1, h2⟩ := h
    rw [← sortKeys_look] at h1
    exact List.mem_map.mpr ⟨(z, room), List.mem_filter.mpr ⟨look_mem h1, decide_eq_true h2⟩, rfl⟩
theorem adds_iff {rooms : List Str} {d : DoorD} {e : Str} : (addsOf rooms d).head? = some e ↔ ∃ r, (r, e) ∈ waysOf d ∧ r ∈ rooms ∧ e ∉ rooms := by
  constructor
  · intro h
    have he : e ∈ addsOf rooms d := by
      cases hl : addsOf rooms d with
      | nil =>
        rw [hl] at h
        cases h
      | cons a r =>
        rw [hl] at h
        cases h
        exact List.mem_cons_self
    unfold addsOf at he
    obtain ⟨⟨r, e'⟩, hw, rfl⟩ := List.mem_map.mp he
    obtain ⟨h1, h2⟩ := List.mem_filter.mp hw
    rw [Bool.and_eq_true] at h2
    exact ⟨r, h1, of_decide_eq_true h2.1, of_decide_eq_false (by have := h2.2; simpa using this)⟩
  · rintro ⟨r, hw, hr, he⟩
    unfold addsOf
    unfold waysOf at hw ⊢
    rcases List.mem_cons.mp hw with z | z
    · cases z
      rw [List.filter_cons, if_pos (by rw [decide_eq_true hr, decide_eq_false he]; rfl)]
      rfl
    · cases e2 : d.both with
      | false =>
        rw [e2] at z
        cases z
      | true =>
        rw [e2] at z
        have z := List.mem_singleton.mp z
        cases z
        rw [List.filter_cons, if_neg (by simp [he]), if_pos rfl, List.filter_cons, if_pos (by rw [decide_eq_true hr, decide_eq_false he]; rfl)]
        rfl
theorem add_iff {b : BldD} {p : PersonD} {ls rooms : List Str} {n : Str} {d : DoorD} {e : Str} : addOf b p ls rooms (n, d) = some e ↔ n ∉ ls ∧ keyOk d.key (heldOf b p rooms) = true ∧ ∃ r, (r, e) ∈ waysOf d ∧ r ∈ rooms ∧ e ∉ rooms := by
  unfold addOf passOf
  constructor
  · intro h
    by_cases hp : (!decide (n ∈ ls) && keyOk d.key (heldOf b p rooms)) = true
    · rw [if_pos hp] at h
      rw [Bool.and_eq_true] at hp
      exact ⟨of_decide_eq_false (by have := hp.1; simpa using this), hp.2, adds_iff.mp h⟩
    · rw [if_neg hp] at h
      cases h
  · rintro ⟨hn, hk, h⟩
    rw [if_pos (by rw [hk, decide_eq_false hn]; rfl)]
    exact adds_iff.mpr h
theorem mem_beyond {b : BldD} {p : PersonD} {ls rooms : List Str} {e : Str} : e ∈ beyondOf b p ls rooms ↔ ∃ n d r, (n, d) ∈ b.doors ∧ n ∉ ls ∧ keyOk d.key (heldOf b p rooms) = true ∧ (r, e) ∈ waysOf d ∧ r ∈ rooms ∧ e ∉ rooms := by
  unfold beyondOf
  rw [List.mem_filterMap]
  constructor
  · rintro ⟨⟨n, d⟩, hq, he⟩
    obtain ⟨h1, h2, r, h3, h4, h5⟩ := add_iff.mp he
    exact ⟨n, d, r, hq, h1, h2, h3, h4, h5⟩
  · rintro ⟨n, d, r, hq, hn, hk, hw, hr, he⟩
    exact ⟨(n, d), hq, add_iff.mpr ⟨hn, hk, r, hw, hr, he⟩⟩
theorem beyond_sound {b : BldD} {p : PersonD} {ls rooms : List Str} (h : ∀ z ∈ rooms, Rch b p ls z) : ∀ z ∈ beyondOf b p ls rooms, Rch b p ls z := fun e he => by
  obtain ⟨n, d, r, hq, hn, hk, hw, hr, _⟩ := mem_beyond.mp he
  cases hd : d.key with
  | none => exact .free hq hn hd hw (h r hr)
  | some z =>
    rw [hd] at hk
    rcases mem_held.mp (of_decide_eq_true hk) with c | ⟨room, h1, h2⟩
    · exact .got hq hn hd c hw (h r hr)
    · exact .found hq hn hd h1 hw (h room h2) (h r hr)
theorem beyond_done {b : BldD} {p : PersonD} {ls rooms : List Str} (h0 : p.a ∈ rooms) (h : beyondOf b p ls rooms = []) {z : Str} (hz : Rch b p ls z) : z ∈ rooms := by
  have no : ∀ e, e ∉ beyondOf b p ls rooms := fun e => by rw [h]; exact List.not_mem_nil
  induction hz with
  | start => exact h0
  | @free n d r e hq hn hd hw _ ih =>
    by_cases he : e ∈ rooms
    · exact he
    · exact absurd (mem_beyond.mpr ⟨n, d, r, hq, hn, by rw [hd]; rfl, hw, ih, he⟩) (no e)
  | @got n d r e z hq hn hd hc hw _ ih =>
    by_cases he : e ∈ rooms
    · exact he
    · exact absurd (mem_beyond.mpr ⟨n, d, r, hq, hn, by rw [hd]; exact decide_eq_true (mem_held.mpr (.inl hc)), hw, ih, he⟩) (no e)
  | @found n d r e z room hq hn hd hk hw _ _ ih1 ih2 =>
    by_cases he : e ∈ rooms
    · exact he
    · exact absurd (mem_beyond.mpr ⟨n, d, r, hq, hn, by rw [hd]; exact decide_eq_true (mem_held.mpr (.inr ⟨room, hk, ih1⟩)), hw, ih2, he⟩) (no e)
theorem ways_in {b : BldD} (ok : b.ok) {n : Str} {d : DoorD} {r e : Str} (h : (n, d) ∈ b.doors) (hw : (r, e) ∈ waysOf d) : r ∈ b.rooms ∧ e ∈ b.rooms := by
  obtain ⟨_, _, ha, hb, _⟩ := ok.doors _ h
  unfold waysOf at hw
  rcases List.mem_cons.mp hw with z | z
  · cases z
    exact ⟨ha, hb⟩
  · cases e2 : d.both with
    | false =>
      rw [e2] at z
      cases z
    | true =>
      rw [e2] at z
      have z := List.mem_singleton.mp z
      cases z
      exact ⟨hb, ha⟩
theorem rch_in {b : BldD} (ok : b.ok) {n : Str} {p : PersonD} {ls : List Str} (hp : (n, p) ∈ b.people) {z : Str} (h : Rch b p ls z) : z ∈ b.rooms := by
  induction h with
  | start => exact (ok.people _ hp).2.2.1
  | free hq _ _ hw _ _ => exact (ways_in ok hq hw).2
  | got hq _ _ _ hw _ _ => exact (ways_in ok hq hw).2
  | found hq _ _ _ hw _ _ _ => exact (ways_in ok hq hw).2
/-- rooms still to come -/
def leftOf (b : BldD) (rooms : List Str) : Nat := (b.rooms.filter fun z => !decide (z ∈ rooms)).length
theorem filt_lt {p q : Str → Bool} : ∀ {l : List Str} {z : Str}, z ∈ l → (∀ y, q y = true → p y = true) → p z = true → q z = false → (l.filter q).length < (l.filter p).length
  | [], _, h, _, _, _ => by cases h
  | y :: r, z, h, sub, hp, hq => by
    have le : (r.filter q).length ≤ (r.filter p).length := by
      have go : ∀ l : List Str, (l.filter q).length ≤ (l.filter p).length := fun l => by
        induction l with
        | nil => exact Nat.le_refl _
        | cons a l ih =>
          rw [List.filter_cons, List.filter_cons]
          by_cases ha : q a = true
          · rw [if_pos ha, if_pos (sub a ha), List.length_cons, List.length_cons]
            omega
          · rw [if_neg ha]
            split
            · rw [List.length_cons]
              omega
            · exact ih
      exact go r
    rw [List.filter_cons, List.filter_cons]
    rcases List.mem_cons.mp h with e | e
    · subst e
      rw [if_pos hp, if_neg (by rw [hq]; exact Bool.false_ne_true), List.length_cons]
      omega
    · have ih := filt_lt e sub hp hq
      by_cases ha : q y = true
      · rw [if_pos ha, if_pos (sub y ha), List.length_cons, List.length_cons]
        omega
      · rw [if_neg ha]
        split
        · rw [List.length_cons]
          omega
        · exact ih
theorem left_lt {b : BldD} (ok : b.ok) {p : PersonD} {ls rooms : List Str} (h : beyondOf b p ls rooms ≠ []) : leftOf b (rooms ++ beyondOf b p ls rooms) < leftOf b rooms := by
  obtain ⟨e, he⟩ := List.exists_mem_of_ne_nil _ h
  obtain ⟨n, d, r, hq, _, _, hw, _, hne⟩ := mem_beyond.mp he
  unfold leftOf
  refine filt_lt (z := e) (ways_in ok hq hw).2 (fun y hy => ?_) (by simp [hne]) (by simp [he])
  simp only [List.mem_append, Bool.not_eq_eq_eq_not, Bool.not_true, decide_eq_false_iff_not, not_or] at hy ⊢
  exact hy.1
theorem left_le (b : BldD) (ok : b.ok) (rooms : List Str) : leftOf b rooms ≤ 6 := Nat.le_trans (List.length_filter_le _ _) ok.r6
theorem beyond_len {b : BldD} (ok : b.ok) (p : PersonD) (ls rooms : List Str) : (beyondOf b p ls rooms).length ≤ 16 := by
  have h := List.length_filterMap_le (addOf b p ls rooms) b.doors
  have := ok.d8
  unfold beyondOf
  omega
section
variable {P : Program} {w : World} {K : PySem.W.Frag} {mg : Str → Option Value} {base : Heap} {CD CP CB CL : Addr}
def spReach (K : PySem.W.Frag) (CD CP CB CL : Addr) : Sp := fun vs H Q _ => ∃ (x z : Addr) (b : BldD) (n : Str) (p : PersonD) (ls : List Str), vs = [.ref x, .str n, .ref z] ∧ BldAt K CD CP CB H x b ∧ b.people.lookup n = some p ∧ LkAt CL H z ls ∧ ls.length ≤ 1000 ∧ (∀ z ∈ ls, z ∈ b.doors.map (·.1)) ∧
  ∀ H' m (g : Str → Bool), Same H H' → H m = none → (∀ z, g z = true ↔ Rch b p ls z) → H' m = some (.lst ((b.rooms.filter g).map V.str)) → Q (.ref m) H'
theorem scReach : FnScope ["self", "name", "locks", "person", "rooms", "beyond", "room"] ["self", "name", "locks"] (defScope s_Building_reach) := ⟨rfl, rfl, rfl, by decide +kernel, rfl, by decide +kernel, by decide +kernel⟩
theorem ok_reach {f : Addr} {fd : FuncData} (F : Fun K "reach" "Building.reach" s_Building_reach f fd) (T : OwnC K mg CB "Building" bldF) (TP : PersT P w K mg base CP) (MP : Mt P w K mg base 2 CB "person" ["self", "name"] (spPersOf K CD CP CB)) (GC : Fn P w K mg base 3 "check_locks" ["building", "locks"] (spChk K CD CP CB CL))
    (GB : Fn P w K mg base 6 "rooms_beyond" ["building", "person", "locks", "rooms"] (spBeyond K CD CP CB CL)) : FnOk P w K mg base CX0 7 f fd ["self", "name", "locks"] (spReach K CD CP CB CL) := by
  refine F.ok scReach (fun vs H Q E h => ?_) (fun cdv A outer s H vs Q E hr h => ?_)
  · obtain ⟨x, z, b, n, p, ls, rfl, _⟩ := h
    rfl
  · obtain ⟨x, z, b, n, p, ls, rfl, hb, hn, hz, few, sub, q⟩ := h
    have hr2 := hr.mono (show 2 ≤ 6 by decide)
    have hr3 := hr.mono (show 3 ≤ 6 by decide)
    refine ⟨_, pss_cons (ps_set (i := 3) scReach.nd rfl (.inl rfl) (pe_mt MP hr2 T.cl (pv 0) (pa_cons (pv 1) pa_nil)))
      (pss_cons (ps_expr (pe_fn GC hr3 (by rfl) (pa_cons (pv 0) (pa_cons (pv 2) pa_nil))))
      (pss_cons (ps_set (i := 4) scReach.nd rfl (.inr rfl) (pe_lst (pa_cons (pe_pr TP.start hr2 TP.c.cl (pv 3) rfl) pa_nil)))
      (pss_cons (ps_set (i := 5) scReach.nd rfl (.inl rfl) (pe_fn GB hr (by rfl) (pa_cons (pv 0) (pa_cons (pv 3) (pa_cons (pv 2) (pa_cons (pv 4) pa_nil))))))
      (pss_cons (ps_while PassesOwn.never (pt_truth (pv 5) (fun _ => rfl)) (pss_cons (ps_set (i := 4) scReach.nd rfl (.inr rfl) (pe_op op_cat (pv 4) (pv 5))) (pss_one (ps_set (i := 5) scReach.nd rfl (.inl rfl) (pe_fn GB hr (by rfl) (pa_cons (pv 0) (pa_cons (pv 3) (pa_cons (pv 2) (pa_cons (pv 4) pa_nil)))))))))
      (pss_one (ps_ret (pe_lc (own := [("room", 6)]) (g := gName 6) (tt := tTest (tOp (rIn K false) (tVar 6) (tVar 4))) (te := tVar 6) rfl scReach.nd (pi_tup (pe_fld (pv 0) rfl)) (blkOk_by (N := ["self", "name", "locks", "person", "rooms", "beyond", "room"]) (sc := defScope s_Building_reach) (by decide +kernel))
        (fun _ _ _ _ _ => pg_name (i := 6) scReach.nd rfl (Or.inl rfl)) (fun _ _ _ _ _ => pts_one (pt_cmpR op_in_seq (pv 6) (pv 4) rfl)) (fun _ _ _ _ _ => pv 6)))))))), ?_⟩
    obtain ⟨⟨dx, r, k, dn, dd, pn, pd, ok, od, op, kvs, ds, ps, I⟩, bok⟩ := id hb
    have l1 := (look_bld r k dn dd pn pd).1
    refine ⟨.ref x, rfl, x, dx, _, rfl, I.ob, rfl, .str n, rfl, x, b, n, p, rfl, hb, hn, fun H1 y s1 hy => ?_⟩
    refine ⟨.ref x, rfl, .ref z, rfl, x, z, b, ls, rfl, hb.same s1, hz.same s1, few, sub, fun H2 s2 => ?_⟩
    have s12 := s1.trans s2
    obtain ⟨⟨dy, t1, t2, t3, h0, _⟩, pok⟩ := id (hy.same s2)
    refine ⟨.ref y, rfl, y, dy, _, rfl, h0, y, dy, _, _, rfl, h0, (look_person p.a t1 t2 t3).1, by show 1 ≤ sizeLine; rw [sizeLine_eq]; decide, fun rl nrl => ?_⟩
    have s3 := s12.trans (same_new (o := .lst [.str p.a]) nrl)
    have hy3 : PersonAt K CP (upd H2 rl (.lst [.str p.a])) y p := (hy.same s2).same (same_new nrl)
    refine ⟨.ref x, rfl, .ref y, rfl, .ref z, rfl, .ref rl, rfl, x, y, z, rl, b, p, ls, [p.a], rfl, hb.same s3, hy3, hz.same s3, .inl (.inl upd_same), fun H4 bl s4 nbl ebl => ?_⟩
    have s14 := s3.trans s4
    refine ⟨fun m σ H' => ∃ (rl bl : Addr) (rooms : List Str), Same H H' ∧ PersonAt K CP H' y p ∧ H' rl = some (.lst (rooms.map V.str)) ∧ H' bl = some (.lst ((beyondOf b p ls rooms).map V.str)) ∧ p.a ∈ rooms ∧ (∀ u ∈ rooms, Rch b p ls u) ∧ m = leftOf b rooms ∧ rooms.length + 16 * m ≤ 97 ∧
      σ = [some (.ref x), some (.str n), some (.ref z), some (.ref y), some (.ref rl), some (.ref bl), none], ⟨leftOf b [p.a], rl, bl, [p.a], s14, hy3.same s4, s4 _ _ upd_same, ebl, by simp, fun u hu => ?_, rfl, ?_, rfl⟩, ?_⟩
    · rw [List.mem_singleton.mp hu]
      exact .start
    · have := left_le b bok [p.a]
      simp only [List.length_singleton]
      omega
    rintro m σ H5 ⟨rl, bl, rooms, s5, hy5, erl, ebl, h0, hR, rfl, hlen, rfl⟩
    refine ⟨.ref bl, rfl, !((beyondOf b p ls rooms).map V.str).isEmpty, .inl ⟨_, .inl (.inl ebl), rfl⟩, ite2 (fun t => ?_) (fun t => ?_)⟩
    · have ne : beyondOf b p ls rooms ≠ [] := fun e => by
        rw [e] at t
        simp at t
      have hlt := left_lt bok ne
      have hbl := beyond_len bok p ls rooms
      refine ⟨fun σ H' => ∃ (rl bl : Addr), Same H H' ∧ PersonAt K CP H' y p ∧ H' rl = some (.lst ((rooms ++ beyondOf b p ls rooms).map V.str)) ∧ H' bl = some (.lst ((beyondOf b p ls (rooms ++ beyondOf b p ls rooms)).map V.str)) ∧
        σ = [some (.ref x), some (.str n), some (.ref z), some (.ref y), some (.ref rl), some (.ref bl), none], ?_, ?_⟩
      · rintro σ' H' ⟨rl', bl', a1, a2, a3, a4, a5⟩
        refine ⟨leftOf b (rooms ++ beyondOf b p ls rooms), hlt, rl', bl', _, a1, a2, a3, a4, List.mem_append_left _ h0, fun u hu => ?_, rfl, ?_, a5⟩
        · rcases List.mem_append.mp hu with v | v
          · exact hR u v
          · exact beyond_sound hR u v
        · rw [List.length_append]
          omega
      · refine ⟨.ref rl, rfl, .ref bl, rfl, rl, bl, _, _, rfl, rfl, erl, ebl, ?_, fun rl2 nrl2 => ?_⟩
        · rw [List.length_map, List.length_map, sizeLine_eq]
          omega
        have s6 := same_new (o := .lst (rooms.map V.str ++ (beyondOf b p ls rooms).map V.str)) nrl2
        have s56 := s5.trans s6
        refine ⟨.ref x, rfl, .ref y, rfl, .ref z, rfl, .ref rl2, rfl, x, y, z, rl2, b, p, ls, rooms ++ beyondOf b p ls rooms, rfl, hb.same s56, hy5.same s6, hz.same s56, .inl (.inl (by rw [upd_same, List.map_append])), fun H7 bl2 s7 nbl2 ebl2 => ?_⟩
        exact ⟨rl2, bl2, s56.trans s7, (hy5.same s6).same s7, by rw [s7 _ _ upd_same, List.map_append], ebl2, rfl⟩
    · have e0 : beyondOf b p ls rooms = [] := by
        have t' : ((beyondOf b p ls rooms).map V.str).isEmpty = true := by simpa using t
        rw [List.isEmpty_iff, List.map_eq_nil_iff] at t'
        exact t'
      refine ⟨.ref x, rfl, x, CB, dx, _, _, rfl, s5 _ _ I.ob, T.cl, T.nK _ (by simp), l1, r, rfl, ⟨_, Same.tup s5 I.rooms⟩, fun D nD => lc_mf (walk_tup (xs := b.rooms.map V.str)) b.rooms (fun u => decide (u ∈ rooms)) V.str (by rw [List.length_map]) nD (by have := bok.r6; omega) (fun H' s' => Same.tup (s5.trans s') I.rooms) (fun i u v H7 H8 Kt Kf hz s7 hY kt kf => ?_) (fun H7 s7 eD => ?_)⟩
      · obtain ⟨rfl, hx⟩ := hY
        rw [List.getElem?_map, hz] at hx
        cases hx
        refine ⟨rfl, .str u, rfl, .ref rl, rfl, rl, _, rfl, .inl (.inl (.inl (s7 _ _ erl))), rfl, flat_strs rooms, _, rfl, ?_⟩
        rw [inV_str]
        refine ite2 (fun t2 => ?_) (fun t2 => ?_)
        · exact ⟨.str u, rfl, kt t2 _ (Same.refl _)⟩
        · exact kf (Bool.eq_false_iff.mpr t2) _ (Same.refl _)
      · refine q _ D (fun u => decide (u ∈ rooms)) (s5.trans s7) ?_ (fun u => ?_) eD
        · cases e : H D with
          | none => rfl
          | some o =>
            have := s5 _ _ e
            rw [nD] at this
            cases this
        · rw [decide_eq_true_eq]
          exact ⟨hR u, beyond_done h0 e0⟩
theorem FnOk.weak {CX : CXT} {k : Nat} {f : Addr} {fd : FuncData} {ps : List Str} {sp sp' : Sp} (F : FnOk P w K mg base CX k f fd ps sp) (h : ∀ vs H Q E, sp' vs H Q E → sp vs H Q E) : FnOk P w K mg base CX k f fd ps sp' :=
  ⟨fun vs H Q E z => F.len vs H Q E (h vs H Q E z), fun A outer s H args us vs Q E hr e0 hb r z => F.run A outer s H args us vs Q E hr e0 hb r (h vs H Q E z)⟩
structure EqM (P : Program) (w : World) (K : PySem.W.Frag) (mg : Str → Option Value) (base : Heap) (C : Addr) (sp : Sp) : Prop where
  ex : ∃ f fd, PySem.W.findIn K (.ref C) "__eq__" = some (some (.ref f)) ∧ PySem.W.isFn K (.ref f) = true ∧ Binds K fd ["self", "other"] [] ∧ FnOk P w K mg base CX0 1 f fd ["self", "other"] sp
def rDoor (C : Addr) : Addr → Addr → Hp → Prop := fun a b H => ∃ d, DoorAt C H a d ∧ DoorAt C H b d
def rPers (K : PySem.W.Frag) (C : Addr) : Addr → Addr → Hp → Prop := fun a b H => ∃ d, PersonAt K C H a d ∧ PersonAt K C H b d
theorem eq_doors {X : Cx} {C : Addr} (M : EqM X.prog X.w X.K X.mg X.base C (spEqDoor C)) : EqG X 1 (DIns C (rDoor C)) := by
  obtain ⟨f, fd, h1, h2, b, F⟩ := M.ex
  exact eqG_ins (E := E0) (FnOk.weak F fun vs H Q E ⟨x, y, e, ⟨d, hx, hy⟩, q⟩ => ⟨x, y, d, d, e, hx, hy, by rw [decide_eq_true rfl]; exact q _ Ext.rfl'⟩) h1 h2 b pass0
theorem eq_pers {X : Cx} {C : Addr} (M : EqM X.prog X.w X.K X.mg X.base C (spEqPerson X.K C)) : EqG X 1 (DIns C (rPers X.K C)) := by
  obtain ⟨f, fd, h1, h2, b, F⟩ := M.ex
  exact eqG_ins (E := E0) (FnOk.weak F fun vs H Q E ⟨x, y, e, ⟨d, hx, hy⟩, q⟩ => ⟨x, y, d, d, e, hx, hy, by rw [decide_eq_true rfl]; exact q _ Ext.rfl'⟩) h1 h2 b pass0
theorem mon_doors {C : Addr} : Mon (DIns C (rDoor C)) := mon_ins fun a b H H' e ⟨d, h1, h2⟩ => ⟨d, h1.same e, h2.same e⟩
theorem mon_pers {C : Addr} : Mon (DIns C (rPers K C)) := mon_ins fun a b H H' e ⟨d, h1, h2⟩ => ⟨d, h1.same e, h2.same e⟩
def spEqBld (K : PySem.W.Frag) (CD CP CB : Addr) : Sp := fun vs H Q _ => ∃ (x y : Addr) (b : BldD), vs = [.ref x, .ref y] ∧ BldAt K CD CP CB H x b ∧ BldAt K CD CP CB H y b ∧ ∀ H', Same H H' → Q (.bl true) H'
theorem scEqB : FnScope ["self", "other"] ["self", "other"] (defScope s_Building___eq__) := ⟨rfl, rfl, rfl, by decide +kernel, rfl, by decide +kernel, by decide +kernel⟩
theorem same_tab {α : Type} {R S : V → α → Prop} {D : Eqv} {H : Hp} {l : List (Str × α)} {ks ls : List (Key × V)} (nd : (l.map (·.1)).Nodup) (t : Tab R ks l) (u : Tab S ls l) (h : ∀ v v' a, R v a → S v' a → D v v' H) : ks.length = ls.length ∧ ∀ p ∈ ks, ∃ v, valV ls p.1 = some v ∧ D p.2 v H := by
  refine ⟨t.len.trans u.len.symm, fun p hp => ?_⟩
  obtain ⟨i, hi, e⟩ := List.getElem_of_mem hp
  have hil : i < l.length := t.len ▸ hi
  have hg : l[i]? = some l[i] := List.getElem?_eq_getElem hil
  obtain ⟨v, hv, hr⟩ := t.get hg
  rw [List.getElem?_eq_getElem hi, e] at hv
  cases hv
  obtain ⟨v', hv', hs⟩ := u.val (look_at nd (List.getElem_mem hil))
  exact ⟨v', hv', h _ _ _ hr hs⟩
theorem ok_eqBld {f : Addr} {fd : FuncData} (F : Fun K "__eq__" "Building.__eq__" s_Building___eq__ f fd) (B : Blt mg) (T : OwnC K mg CB "Building" bldF) (MD : EqM P w K mg base CD (spEqDoor CD)) (MP : EqM P w K mg base CP (spEqPerson K CP)) : FnOk P w K mg base CX0 3 f fd ["self", "other"] (spEqBld K CD CP CB) := by
  refine F.ok scEqB (fun vs H Q E h => ?_) (fun cdv A outer s H vs Q E hr h => ?_)
  · obtain ⟨x, y, b, rfl, _⟩ := h
    rfl
  · obtain ⟨x, y, b, rfl, ⟨⟨dx, r, k, dn, dd, pn, pd, ok, od, op, kvs, ds, ps, I⟩, bok⟩, ⟨⟨dx', r', k', dn', dd', pn', pd', ok', od', op', kvs', ds', ps', J⟩, _⟩, q⟩ := h
    have hr1 := hr.mono (show 1 ≤ 2 by decide)
    refine ⟨_, pss_one (ps_ret (pe_and (pe_callB call_isi (by rfl) B.isi PyProof.Rows.boot_isinstance (pa_cons (pv 1) (pa_cons (pe_glob (v := .ref CB) (by rfl) T.mgC rfl) pa_nil)))
      (pe_and (pe_cmpR (op_eqD hr.units) (pe_fld (pv 0) rfl) (pe_fld (pv 1) rfl) (nomark _)) (pe_and (pe_cmpR (op_eqG (rcG_dict mon_flat eqG_flat) hr1) (pe_fld (pv 0) rfl) (pe_fld (pv 1) rfl) (nomark _)) (pe_and (pe_cmpR (op_eqD hr.units) (pe_fld (pv 0) rfl) (pe_fld (pv 1) rfl) (nomark _))
      (pe_and (pe_cmpR (op_eqG (rcG_dict mon_doors (eq_doors MD)) hr) (pe_fld (pv 0) rfl) (pe_fld (pv 1) rfl) (nomark _)) (pe_and (pe_cmpR (op_eqD hr.units) (pe_fld (pv 0) rfl) (pe_fld (pv 1) rfl) (nomark _))
      (pe_one (pe_cmpR (op_eqG (rcG_dict mon_pers (eq_pers MP)) hr) (pe_fld (pv 0) rfl) (pe_fld (pv 1) rfl) (nomark _)))))))))), ?_⟩
    obtain ⟨l1, l2, l3, l4, l5, l6⟩ := look_bld r k dn dd pn pd
    obtain ⟨m1, m2, m3, m4, m5, m6⟩ := look_bld r' k' dn' dd' pn' pd'
    have nK := T.nK
    have cl := T.cl
    have nmD : ∀ z ∈ b.doors.map (·.1), PyData.strOk z = true := fun z hz => by
      obtain ⟨u, hu, rfl⟩ := List.mem_map.mp hz
      exact nm_ok (bok.doors u hu).1
    have nmP : ∀ z ∈ b.people.map (·.1), PyData.strOk z = true := fun z hz => by
      obtain ⟨u, hu, rfl⟩ := List.mem_map.mp hz
      exact nm_ok (bok.people u hu).1
    refine ⟨.ref y, rfl, .ref y, .ref CB, _, _, true, rfl, .own CB, .base (.ins J.ob T.cl T.tyc T.tyg T.tyt T.tym), T.kit, true, rfl, iteT ?_⟩
    refine ⟨.ref x, rfl, x, CB, dx, _, _, rfl, I.ob, cl, nK _ (by simp), l1, .ref y, rfl, y, CB, dx', _, _, rfl, J.ob, cl, nK _ (by simp), m1, _, _, .tup I.rooms (dp_strs _), .tup J.rooms (dp_strs _), shaped_strsT fun z hz => nm_ok (are_nm bok.rooms z hz), shaped_strsT fun z hz => nm_ok (are_nm bok.rooms z hz), true, by rw [eqv_tups, decide_eq_true rfl], iteT ?_⟩
    obtain ⟨ek1, ek2⟩ := same_tab (D := DFlat) (H := H) (by rw [sortKeys_names]; exact nodup_asc (asc_srt _)) I.keysT J.keysT fun v v' a (h1 : v = .str a) (h2 : v' = .str a) => by
      rw [h1, h2]
      exact ⟨rfl, rfl, by show (a == a) = true; exact beq_self_eq_true a⟩
    refine ⟨.ref x, rfl, x, CB, dx, _, _, rfl, I.ob, cl, nK _ (by simp), l2, .ref y, rfl, y, CB, dx', _, _, rfl, J.ob, cl, nK _ (by simp), m2, ⟨k, k', ok, ok', kvs, kvs', rfl, rfl, I.keys, J.keys, ek1, ek2⟩, fun H1 s1 => ⟨true, rfl, iteT ?_⟩⟩
    have s1 : Same H H1 := s1
    have I1 := I.same s1
    have J1 := J.same s1
    refine ⟨.ref x, rfl, x, CB, dx, _, _, rfl, I1.ob, cl, nK _ (by simp), l3, .ref y, rfl, y, CB, dx', _, _, rfl, J1.ob, cl, nK _ (by simp), m3, _, _, .tup I1.dn (dp_strs _), .tup J1.dn (dp_strs _), shaped_strsT nmD, shaped_strsT nmD, true, by rw [eqv_tups, decide_eq_true rfl], iteT ?_⟩
    obtain ⟨ed1, ed2⟩ := same_tab (D := DIns CD (rDoor CD)) (H := H1) bok.dnd I1.doorsT J1.doorsT fun v v' a ⟨u, e1, h1⟩ ⟨u', e2, h2⟩ => by
      obtain ⟨⟨du, hu⟩, _⟩ := id h1
      obtain ⟨⟨du', hu'⟩, _⟩ := id h2
      exact ⟨u, u', du, du', _, _, e1, e2, hu, hu', a, h1, h2⟩
    refine ⟨.ref x, rfl, x, CB, dx, _, _, rfl, I1.ob, cl, nK _ (by simp), l4, .ref y, rfl, y, CB, dx', _, _, rfl, J1.ob, cl, nK _ (by simp), m4, ⟨dd, dd', od, od', ds, ds', rfl, rfl, I1.doors, J1.doors, ed1, ed2⟩, fun H2 s2 => ⟨true, rfl, iteT ?_⟩⟩
    have s2 : Same H1 H2 := s2
    have I2 := I1.same s2
    have J2 := J1.same s2
    refine ⟨.ref x, rfl, x, CB, dx, _, _, rfl, I2.ob, cl, nK _ (by simp), l5, .ref y, rfl, y, CB, dx', _, _, rfl, J2.ob, cl, nK _ (by simp), m5, _, _, .tup I2.pn (dp_strs _), .tup J2.pn (dp_strs _), shaped_strsT nmP, shaped_strsT nmP, true, by rw [eqv_tups, decide_eq_true rfl], iteT ?_⟩
    obtain ⟨ep1, ep2⟩ := same_tab (D := DIns CP (rPers K CP)) (H := H2) bok.pnd I2.peopleT J2.peopleT fun v v' a ⟨u, e1, h1⟩ ⟨u', e2, h2⟩ => by
      obtain ⟨⟨du, _, _, _, hu, _⟩, _⟩ := id h1
      obtain ⟨⟨du', _, _, _, hu', _⟩, _⟩ := id h2
      exact ⟨u, u', du, du', _, _, e1, e2, hu, hu', a, h1, h2⟩
    exact ⟨.ref x, rfl, x, CB, dx, _, _, rfl, I2.ob, cl, nK _ (by simp), l6, .ref y, rfl, y, CB, dx', _, _, rfl, J2.ob, cl, nK _ (by simp), m6, ⟨pd, pd', op, op', ps, ps', rfl, rfl, I2.people, J2.people, ep1, ep2⟩, fun H3 s3 => q _ (s1.trans (s2.trans s3))⟩
end
end Lk
set_option Elab.async false
set_option linter.all false
set_option maxRecDepth 100000
set_option maxHeartbeats 4000000
/-! Trails as data: the rooms of a tuple of doors, the first door that can follow, the trail of first doors. -/
namespace Lk
open PySem PySem.Spec PyProof.Rows L2 TxS LkO LkG
def roomsFrom (b : BldD) (p : PersonD) (ls : List Str) : List Str → List Str → Option (List Str)
  | rooms, [] => some rooms
  | rooms, n :: r => match b.doors.lookup n with
    | none => none
    | some d => match addOf b p ls rooms (n, d) with
      | none => none
      | some e => roomsFrom b p ls (rooms ++ [e]) r
def roomsOf (b : BldD) (p : PersonD) (ls tr : List Str) : Option (List Str) := roomsFrom b p ls [p.a] tr
def stepOf (b : BldD) (p : PersonD) (ls rooms : List Str) : Option (Str × Str) := b.doors.findSome? fun q => (addOf b p ls rooms q).map fun e => (q.1, e)
def trailFrom (b : BldD) (p : PersonD) (ls : List Str) : Nat → List Str → List Str
  | 0, _ => []
  | k + 1, rooms => match stepOf b p ls rooms with
    | none => []
    | some (n, e) => n :: trailFrom b p ls k (rooms ++ [e])
def trailOf (b : BldD) (p : PersonD) (ls : List Str) : List Str := trailFrom b p ls 6 [p.a]
section
variable {b : BldD} {p : PersonD} {ls rooms tr : List Str}
theorem step_some {n e : Str} (h : stepOf b p ls rooms = some (n, e)) : ∃ d, (n, d) ∈ b.doors ∧ addOf b p ls rooms (n, d) = some e := by
  unfold stepOf at h
  obtain ⟨q, hq, he⟩ := List.exists_of_findSome?_eq_some h
  cases ha : addOf b p ls rooms q with
  | none =>
    rw [ha] at he
    cases he
  | some z =>
    rw [ha] at he
    cases he
    exact ⟨q.2, hq, ha⟩
theorem step_none : stepOf b p ls rooms = none ↔ beyondOf b p ls rooms = [] := by
  unfold stepOf beyondOf
  rw [List.findSome?_eq_none_iff, List.filterMap_eq_nil_iff]
  refine forall_congr' fun q => forall_congr' fun _ => ?_
  cases addOf b p ls rooms q <;> simp
theorem add_new {n e : Str} {d : DoorD} (h : addOf b p ls rooms (n, d) = some e) : e ∉ rooms := (add_iff.mp h).2.2.elim fun _ h => h.2.2
theorem add_in (ok : b.ok) {n e : Str} {d : DoorD} (hm : (n, d) ∈ b.doors) (h : addOf b p ls rooms (n, d) = some e) : e ∈ b.rooms := by
  obtain ⟨_, _, r, hw, _, _⟩ := add_iff.mp h
  exact (ways_in ok hm hw).2
theorem add_beyond {n e : Str} {d : DoorD} (hm : (n, d) ∈ b.doors) (h : addOf b p ls rooms (n, d) = some e) : e ∈ beyondOf b p ls rooms := List.mem_filterMap.mpr ⟨(n, d), hm, h⟩
theorem left_one (ok : b.ok) {n e : Str} {d : DoorD} (hm : (n, d) ∈ b.doors) (h : addOf b p ls rooms (n, d) = some e) : leftOf b (rooms ++ [e]) < leftOf b rooms := by
  unfold leftOf
  refine filt_lt (z := e) (add_in ok hm h) (fun y hy => ?_) (by simp [add_new h]) (by simp)
  simp only [List.mem_append, Bool.not_eq_eq_eq_not, Bool.not_true, decide_eq_false_iff_not, not_or] at hy ⊢
  exact hy.1
theorem trail_fuel (ok : b.ok) : ∀ (k j : Nat) (rooms : List Str), leftOf b rooms ≤ k → leftOf b rooms ≤ j → trailFrom b p ls k rooms = trailFrom b p ls j rooms
  | 0, 0, _, _, _ => rfl
  | 0, j + 1, rooms, h, _ => by
    show [] = match stepOf b p ls rooms with | none => [] | some (n, e) => n :: trailFrom b p ls j (rooms ++ [e])
    cases hs : stepOf b p ls rooms with
    | none => rfl
    | some q =>
      obtain ⟨d, hm, ha⟩ := step_some (n := q.1) (e := q.2) hs
      have := left_one ok hm ha
      omega
  | k + 1, 0, rooms, _, h => by
    show (match stepOf b p ls rooms with | none => [] | some (n, e) => n :: trailFrom b p ls k (rooms ++ [e])) = []
    cases hs : stepOf b p ls rooms with
    | none => rfl
    | some q =>
      obtain ⟨d, hm, ha⟩ := step_some (n := q.1) (e := q.2) hs
      have := left_one ok hm ha
      omega
  | k + 1, j + 1, rooms, h1, h2 => by
    show (match stepOf b p ls rooms with | none => [] | some (n, e) => n :: trailFrom b p ls k (rooms ++ [e])) = match stepOf b p ls rooms with | none => [] | some (n, e) => n :: trailFrom b p ls j (rooms ++ [e])
    cases hs : stepOf b p ls rooms with
    | none => rfl
    | some q =>
      obtain ⟨d, hm, ha⟩ := step_some (n := q.1) (e := q.2) hs
      have := left_one ok hm ha
      show q.1 :: _ = q.1 :: _
      rw [trail_fuel ok k j (rooms ++ [q.2]) (by omega) (by omega)]
theorem trail_none {k : Nat} (h : stepOf b p ls rooms = none) : trailFrom b p ls k rooms = [] := by
  cases k with
  | zero => rfl
  | succ k =>
    show (match stepOf b p ls rooms with | none => [] | some (n, e) => n :: trailFrom b p ls k (rooms ++ [e])) = []
    rw [h]
theorem trail_some (ok : b.ok) {n e : Str} (h : stepOf b p ls rooms = some (n, e)) : trailFrom b p ls 6 rooms = n :: trailFrom b p ls 6 (rooms ++ [e]) := by
  obtain ⟨d, hm, ha⟩ := step_some h
  have h1 := left_one ok hm ha
  have h2 := left_le b ok rooms
  show (match stepOf b p ls rooms with | none => [] | some (n, e) => n :: trailFrom b p ls 5 (rooms ++ [e])) = _
  rw [h]
  show n :: _ = _
  rw [trail_fuel ok 5 6 (rooms ++ [e]) (by omega) (by omega)]
theorem look_of (ok : b.ok) {n : Str} {d : DoorD} (hm : (n, d) ∈ b.doors) : b.doors.lookup n = some d := look_at ok.dnd hm
/-- what a trail of first doors gives -/
theorem trail_rooms (ok : b.ok) : ∀ (k : Nat) (rooms : List Str), leftOf b rooms ≤ k → ∃ R, roomsFrom b p ls rooms (trailFrom b p ls k rooms) = some R ∧ beyondOf b p ls R = []
  | 0, rooms, h => by
    refine ⟨rooms, rfl, step_none.mp ?_⟩
    cases hs : stepOf b p ls rooms with
    | none => rfl
    | some q =>
      obtain ⟨d, hm, ha⟩ := step_some (n := q.1) (e := q.2) hs
      have := left_one ok hm ha
      omega
  | k + 1, rooms, h => by
    cases hs : stepOf b p ls rooms with
    | none =>
      refine ⟨rooms, ?_, step_none.mp hs⟩
      rw [trail_none hs]
      rfl
    | some q =>
      obtain ⟨n, e⟩ := q
      obtain ⟨d, hm, ha⟩ := step_some hs
      have := left_one ok hm ha
      obtain ⟨R, h1, h2⟩ := trail_rooms ok k (rooms ++ [e]) (by omega)
      refine ⟨R, ?_, h2⟩
      show roomsFrom b p ls rooms (match stepOf b p ls rooms with | none => [] | some (n, e) => n :: trailFrom b p ls k (rooms ++ [e])) = _
      rw [hs]
      show (match b.doors.lookup n with | none => none | some d => match addOf b p ls rooms (n, d) with | none => none | some e => roomsFrom b p ls (rooms ++ [e]) _) = _
      rw [look_of ok hm]
      show (match addOf b p ls rooms (n, d) with | none => none | some e => roomsFrom b p ls (rooms ++ [e]) _) = _
      rw [ha]
      exact h1
theorem rooms_app : ∀ (tr tr' rooms : List Str), roomsFrom b p ls rooms (tr ++ tr') = (roomsFrom b p ls rooms tr).bind fun R => roomsFrom b p ls R tr'
  | [], _, _ => rfl
  | n :: r, tr', rooms => by
    show (match b.doors.lookup n with | none => none | some d => match addOf b p ls rooms (n, d) with | none => none | some e => roomsFrom b p ls (rooms ++ [e]) (r ++ tr')) = (match b.doors.lookup n with | none => none | some d => match addOf b p ls rooms (n, d) with | none => none | some e => roomsFrom b p ls (rooms ++ [e]) r).bind _
    cases b.doors.lookup n with
    | none => rfl
    | some d =>
      show (match addOf b p ls rooms (n, d) with | none => none | some e => roomsFrom b p ls (rooms ++ [e]) (r ++ tr')) = (match addOf b p ls rooms (n, d) with | none => none | some e => roomsFrom b p ls (rooms ++ [e]) r).bind _
      cases addOf b p ls rooms (n, d) with
      | none => rfl
      | some e => exact rooms_app r tr' _
theorem rooms_one {n e : Str} {d : DoorD} (hl : b.doors.lookup n = some d) (ha : addOf b p ls rooms (n, d) = some e) : roomsFrom b p ls rooms [n] = some (rooms ++ [e]) := by
  show (match b.doors.lookup n with | none => none | some d => match addOf b p ls rooms (n, d) with | none => none | some e => roomsFrom b p ls (rooms ++ [e]) []) = _
  rw [hl]
  show (match addOf b p ls rooms (n, d) with | none => none | some e => roomsFrom b p ls (rooms ++ [e]) []) = _
  rw [ha]
  rfl
theorem rooms_noOne {n : Str} {d : DoorD} (hl : b.doors.lookup n = some d) (ha : addOf b p ls rooms (n, d) = none) : roomsFrom b p ls rooms [n] = none := by
  show (match b.doors.lookup n with | none => none | some d => match addOf b p ls rooms (n, d) with | none => none | some e => roomsFrom b p ls (rooms ++ [e]) []) = _
  rw [hl]
  show (match addOf b p ls rooms (n, d) with | none => none | some e => roomsFrom b p ls (rooms ++ [e]) []) = _
  rw [ha]
/-- the rooms of a trail: different ones, of the reach, with the start -/
structure Path (b : BldD) (p : PersonD) (ls rooms : List Str) : Prop where
  nd : rooms.Nodup
  rch : ∀ z ∈ rooms, Rch b p ls z
  st : p.a ∈ rooms
theorem Path.one : Path b p ls [p.a] := ⟨by simp, fun z hz => by rw [List.mem_singleton.mp hz]; exact .start, by simp⟩
theorem Path.add (h : Path b p ls rooms) {n e : Str} {d : DoorD} (hm : (n, d) ∈ b.doors) (ha : addOf b p ls rooms (n, d) = some e) : Path b p ls (rooms ++ [e]) := by
  refine ⟨List.nodup_append.mpr ⟨h.nd, by simp, fun x hx y hy => ?_⟩, fun z hz => ?_, List.mem_append_left _ h.st⟩
  · rw [List.mem_singleton.mp hy]
    intro e'
    exact add_new ha (e' ▸ hx)
  · rcases List.mem_append.mp hz with c | c
    · exact h.rch z c
    · rw [List.mem_singleton.mp c]
      exact beyond_sound h.rch _ (add_beyond hm ha)
theorem path_of : ∀ (tr rooms : List Str) {R : List Str}, Path b p ls rooms → roomsFrom b p ls rooms tr = some R → Path b p ls R
  | [], _, _, h, e => by
    cases e
    exact h
  | n :: r, rooms, R, h, e => by
    have e : (match b.doors.lookup n with | none => none | some d => match addOf b p ls rooms (n, d) with | none => none | some e => roomsFrom b p ls (rooms ++ [e]) r) = some R := e
    cases hl : b.doors.lookup n with
    | none =>
      rw [hl] at e
      cases e
    | some d =>
      rw [hl] at e
      have e : (match addOf b p ls rooms (n, d) with | none => none | some e => roomsFrom b p ls (rooms ++ [e]) r) = some R := e
      cases ha : addOf b p ls rooms (n, d) with
      | none =>
        rw [ha] at e
        cases e
      | some z =>
        rw [ha] at e
        exact path_of r _ (h.add (look_mem hl) ha) e
theorem Path.len (ok : b.ok) {n : Str} (hp : (n, p) ∈ b.people) (h : Path b p ls rooms) : rooms.length ≤ 6 := by
  have h1 : ∀ z ∈ rooms, z ∈ b.rooms := fun z hz => rch_in ok hp (h.rch z hz)
  exact Nat.le_trans (List.Nodup.length_le_of_subset h.nd h1) ok.r6
/-- complete: all of the reach -/
theorem Path.full (h : Path b p ls rooms) {L : List Str} (nd : L.Nodup) (hL : ∀ z, z ∈ L ↔ Rch b p ls z) : beyondOf b p ls rooms = [] ↔ rooms.length = L.length := by
  constructor
  · intro e
    exact len_same h.nd nd fun z => ⟨fun hz => (hL z).2 (h.rch z hz), fun hz => beyond_done h.st e ((hL z).1 hz)⟩
  · intro e
    have sub : rooms ⊆ L := fun z hz => (hL z).2 (h.rch z hz)
    have all : ∀ z ∈ L, z ∈ rooms := fun z hz => by
      refine Classical.byContradiction fun hn => ?_
      have h1 : (z :: rooms).Nodup := List.nodup_cons.mpr ⟨hn, h.nd⟩
      have h2 : z :: rooms ⊆ L := fun y hy => (List.mem_cons.mp hy).elim (fun e => e ▸ hz) fun hy => sub hy
      have := List.Nodup.length_le_of_subset h1 h2
      rw [List.length_cons] at this
      omega
    refine List.eq_nil_iff_forall_not_mem.mpr fun e he => ?_
    have h1 := beyond_sound h.rch e he
    obtain ⟨_, _, _, _, _, _, _, _, hn⟩ := mem_beyond.mp he
    exact hn (all e ((hL e).2 h1))
end
theorem trail_sub {b : BldD} {p : PersonD} {ls : List Str} : ∀ (k : Nat) (rooms : List Str), (trailFrom b p ls k rooms).length ≤ k ∧ ∀ z ∈ trailFrom b p ls k rooms, z ∈ b.doors.map (·.1)
  | 0, _ => ⟨Nat.le_refl _, fun _ h => by cases h⟩
  | k + 1, rooms => by
    show (match stepOf b p ls rooms with | none => [] | some (n, e) => n :: trailFrom b p ls k (rooms ++ [e])).length ≤ _ ∧ ∀ z ∈ (match stepOf b p ls rooms with | none => [] | some (n, e) => n :: trailFrom b p ls k (rooms ++ [e])), _
    cases hs : stepOf b p ls rooms with
    | none => exact ⟨Nat.zero_le _, fun _ h => by cases h⟩
    | some qn =>
      obtain ⟨n, e⟩ := qn
      obtain ⟨d, hm, _⟩ := step_some hs
      obtain ⟨h1, h2⟩ := trail_sub (b := b) (p := p) (ls := ls) k (rooms ++ [e])
      refine ⟨Nat.succ_le_succ h1, fun z hz => ?_⟩
      rcases List.mem_cons.mp hz with c | c
      · rw [c]
        exact List.mem_map.mpr ⟨(n, d), hm, rfl⟩
      · exact h2 z c
theorem trail_comp {b : BldD} (ok : b.ok) (p : PersonD) (ls : List Str) : ∃ R, roomsOf b p ls (trailOf b p ls) = some R ∧ beyondOf b p ls R = [] := trail_rooms ok 6 [p.a] (left_le b ok _)
end Lk
set_option Elab.async false
set_option linter.all false
set_option maxRecDepth 100000
set_option maxHeartbeats 4000000
namespace Lk
open PySem PySem.Spec PyProof.Rows L2 TxS LkO LkG
section
variable {P : Program} {w : World} {K : PySem.W.Frag} {mg : Str → Option Value} {base : Heap} {CD CP CB CL : Addr}
theorem rooms_cons {b : BldD} {p : PersonD} {ls rooms r : List Str} {n : Str} {d : DoorD} (hl : b.doors.lookup n = some d) : roomsFrom b p ls rooms (n :: r) = match addOf b p ls rooms (n, d) with
    | none => none
    | some e => roomsFrom b p ls (rooms ++ [e]) r := by
  show (match b.doors.lookup n with | none => none | some d => match addOf b p ls rooms (n, d) with | none => none | some e => roomsFrom b p ls (rooms ++ [e]) r) = _
  rw [hl]
theorem was_new {H H' : Hp} {a : Addr} (s : Same H H') (h : H' a = none) : H a = none := by
  cases e : H a with
  | none => rfl
  | some o =>
    have := s _ _ e
    rw [h] at this
    cases this
theorem name_look {b : BldD} {n : Str} (h : n ∈ b.doors.map (·.1)) (nd : (b.doors.map (·.1)).Nodup) : ∃ d, b.doors.lookup n = some d ∧ (n, d) ∈ b.doors := by
  obtain ⟨⟨n', d⟩, hm, rfl⟩ := List.mem_map.mp h
  exact ⟨d, look_at nd hm, hm⟩
/-- one more in a tuple of texts -/
theorem cat_one {K : PySem.W.Frag} {H : Hp} {tl p1 : Addr} {tr : List Str} {n : Str} {C : VK} (h1 : SqT K H tl (tr.map V.str)) (h2 : H p1 = some (.tup [.str n])) (few : tr.length ≤ 1000) (h : ∀ H' t, Same H H' → SqT K H' t ((tr ++ [n]).map V.str) → C (.ref t) H') : rCatA K (.ref tl) (.ref p1) H C := by
  refine ⟨tl, p1, tr.map V.str, [.str n], rfl, rfl, h1, .inl (.inl h2), ?_, fun e => ?_, fun _ e => (by cases e), fun _ _ p np => ?_⟩
  · rw [List.length_map, sizeLine_eq]
    simp only [List.length_singleton]
    omega
  · have e : tr = [] := List.map_eq_nil_iff.mp e
    subst e
    exact h _ _ (Same.refl _) (.inl (.inl h2))
  · refine h _ _ (same_new np) (.inl (.inl ?_))
    rw [upd_same, List.map_append]
    rfl
/-! ### rooms_of -/
def spRoomsOf (K : PySem.W.Frag) (CD CP CB CL : Addr) : Sp := fun vs H Q _ => ∃ (x y z t : Addr) (b : BldD) (p : PersonD) (ls tr : List Str), vs = [.ref x, .ref y, .ref z, .ref t] ∧ BldAt K CD CP CB H x b ∧ PersonAt K CP H y p ∧ LkAt CL H z ls ∧ SqT K H t (tr.map V.str) ∧ tr.length ≤ 1000 ∧ (∀ n ∈ tr, n ∈ b.doors.map (·.1)) ∧
  (roomsOf b p ls tr = none → ∀ H', Same H H' → Q .non H') ∧ ∀ R, roomsOf b p ls tr = some R → ∀ H' m, Same H H' → H m = none → H' m = some (.lst (R.map V.str)) → Q (.ref m) H'
theorem scRoomsOf : FnScope ["building", "person", "locks", "trail", "rooms", "name", "room"] ["building", "person", "locks", "trail"] (defScope s_rooms_of) := ⟨rfl, rfl, rfl, by decide +kernel, rfl, by decide +kernel, by decide +kernel⟩
theorem ok_roomsOf {f : Addr} {fd : FuncData} (F : Fun K "rooms_of" "rooms_of" s_rooms_of f fd) (TP : PersT P w K mg base CP) (GA : Fn P w K mg base 5 "room_added" ["building", "person", "locks", "rooms", "name"] (spAdded K CD CP CB CL)) :
    FnOk P w K mg base CX0 6 f fd ["building", "person", "locks", "trail"] (spRoomsOf K CD CP CB CL) := by
  refine F.ok scRoomsOf (fun vs H Q E h => ?_) (fun cdv A outer s H vs Q E hr h => ?_)
  · obtain ⟨x, y, z, t, b, p, ls, tr, rfl, _⟩ := h
    rfl
  · obtain ⟨x, y, z, t, b, p, ls, tr, rfl, hb, hp, hz, ht, few, sub, q0, q1⟩ := h
    have hr2 := hr.mono (show 2 ≤ 5 by decide)
    refine ⟨_, pss_cons (ps_set (i := 4) scRoomsOf.nd rfl (.inl rfl) (pe_lst (pa_cons (pe_pr TP.start hr2 TP.c.cl (pv 1) rfl) pa_nil)))
      (pss_cons (ps_for PassesOwn.never rfl (pi_tup (pv 3)) (pg_name (i := 5) scRoomsOf.nd rfl (Or.inl rfl))
        (pss_cons (ps_set (i := 6) scRoomsOf.nd rfl (.inl rfl) (pe_fn GA hr (by rfl) (pa_cons (pv 0) (pa_cons (pv 1) (pa_cons (pv 2) (pa_cons (pv 4) (pa_cons (pv 5) pa_nil)))))))
        (pss_cons (ps_if (pt_cmp (pc_isN (pv 6))) (pss_one (ps_ret pe_non)) pss_nil)
        (pss_one (ps_set (i := 4) scRoomsOf.nd rfl (.inl rfl) (pe_op op_cat (pv 4) (pe_lst (pa_cons (pv 6) pa_nil))))))))
      (pss_one (ps_ret (pv 4)))), ?_⟩
    have bok := hb.ok
    obtain ⟨⟨dy, t1, t2, t3, h0, _⟩, pok⟩ := id hp
    refine ⟨.ref y, rfl, y, dy, _, rfl, h0, y, dy, _, _, rfl, h0, (look_person p.a t1 t2 t3).1, by show 1 ≤ sizeLine; rw [sizeLine_eq]; decide, fun rl0 nrl0 => ?_⟩
    refine ⟨.ref t, rfl, t, rfl, ⟨_, Same.tup (same_new nrl0) ht⟩, for_it (walk_tup (xs := tr.map V.str)) (fun i σ H' => Same H H' ∧ ∃ rl rooms y5 y6, H rl = none ∧ H' rl = some (.lst (rooms.map V.str)) ∧ roomsFrom b p ls rooms (tr.drop i) = roomsOf b p ls tr ∧ rooms.length = i + 1 ∧
      σ = [some (.ref x), some (.ref y), some (.ref z), some (.ref t), some (.ref rl), y5, y6]) ⟨same_new nrl0, rl0, [p.a], none, none, nrl0, upd_same, rfl, rfl, rfl⟩ (fun i σ H' _ hP => Same.tup hP.1 ht) (fun i v σ H4 H5 hi hP hY => ?_) (fun σ H4 hP => ?_)⟩
    · obtain ⟨rfl, hv⟩ := hY
      obtain ⟨s4, rl, rooms, y5, y6, nrl, erl, er, elen, rfl⟩ := hP
      obtain ⟨n, hn, rfl⟩ := at_map hv
      have hil : i < tr.length := by
        rw [List.length_map] at hi
        exact hi
      have hd : tr.drop i = n :: tr.drop (i + 1) := by
        have := List.drop_eq_getElem_cons hil
        rw [List.getElem?_eq_getElem hil] at hn
        cases hn
        exact this
      obtain ⟨d, hl, hm⟩ := name_look (sub n (List.mem_of_getElem? hn)) bok.dnd
      rw [hd, rooms_cons hl] at er
      refine ⟨.ref x, rfl, .ref y, rfl, .ref z, rfl, .ref rl, rfl, .str n, rfl, x, y, z, rl, b, p, ls, rooms, n, d, rfl, hb.same s4, hp.same s4, hz.same s4, .inl (.inl erl), hl, fun H6 s6 => ?_⟩
      have s46 := s4.trans s6
      cases ha : addOf b p ls rooms (n, d) with
      | none =>
        rw [ha] at er
        exact ⟨.non, rfl, true, rfl, iteT (q0 er.symm _ s46)⟩
      | some e =>
        rw [ha] at er
        refine ⟨.str e, rfl, false, rfl, iteF ?_⟩
        refine ⟨.ref rl, rfl, .str e, rfl, by show 1 ≤ sizeLine; rw [sizeLine_eq]; decide, fun l2 nl2 => ?_⟩
        have s7 := same_new (o := .lst [.str e]) nl2
        refine ⟨rl, l2, _, _, rfl, rfl, s7 _ _ (s6 _ _ erl), upd_same, ?_, fun m nm => ?_⟩
        · rw [List.length_map, sizeLine_eq, elen]
          simp only [List.length_singleton]
          omega
        have s8 := same_new (o := .lst (rooms.map V.str ++ [.str e])) nm
        have s48 := s46.trans (s7.trans s8)
        refine ⟨s48, m, rooms ++ [e], _, _, was_new (s46.trans s7) nm, ?_, er, ?_, rfl⟩
        · rw [upd_same, List.map_append]
          rfl
        · rw [List.length_append, elen]
          rfl
    · obtain ⟨s4, rl, rooms, y5, y6, nrl, erl, er, elen, rfl⟩ := hP
      rw [List.length_map, List.drop_length] at er
      exact ⟨.ref rl, rfl, q1 rooms er.symm _ rl s4 nrl erl⟩
/-! ### first_step -/
def StepV (b : BldD) (p : PersonD) (ls rooms : List Str) (H : Hp) (v : V) : Prop := match stepOf b p ls rooms with
  | none => v = .non
  | some q => ∃ m, v = .ref m ∧ H m = some (.tup [.str q.1, .str q.2])
theorem StepV.same {b : BldD} {p : PersonD} {ls rooms : List Str} {H H' : Hp} {v : V} (h : StepV b p ls rooms H v) (s : Same H H') : StepV b p ls rooms H' v := by
  unfold StepV at h ⊢
  cases hs : stepOf b p ls rooms with
  | none =>
    rw [hs] at h
    exact h
  | some q =>
    rw [hs] at h
    obtain ⟨m, e, hm⟩ := h
    exact ⟨m, e, s _ _ hm⟩
theorem step_at {b : BldD} {p : PersonD} {ls rooms : List Str} {i : Nat} {n e : Str} {d : DoorD} (h0 : ∀ q ∈ b.doors.take i, addOf b p ls rooms q = none) (hi : b.doors[i]? = some (n, d)) (ha : addOf b p ls rooms (n, d) = some e) : stepOf b p ls rooms = some (n, e) := by
  unfold stepOf
  have hlt := (List.getElem?_eq_some_iff.mp hi)
  have hd : b.doors.drop i = (n, d) :: b.doors.drop (i + 1) := by
    rw [← hlt.2]
    exact List.drop_eq_getElem_cons hlt.1
  rw [← List.take_append_drop i b.doors, List.findSome?_append, List.findSome?_eq_none_iff.mpr fun q hq => by rw [h0 q hq]; rfl, hd, List.findSome?_cons, ha]
  rfl
theorem step_no {b : BldD} {p : PersonD} {ls rooms : List Str} (h0 : ∀ q ∈ b.doors, addOf b p ls rooms q = none) : stepOf b p ls rooms = none := by
  unfold stepOf
  exact List.findSome?_eq_none_iff.mpr fun q hq => by rw [h0 q hq]; rfl
def spStep (K : PySem.W.Frag) (CD CP CB CL : Addr) : Sp := fun vs H Q _ => ∃ (x y z l : Addr) (b : BldD) (p : PersonD) (ls rooms : List Str), vs = [.ref x, .ref y, .ref z, .ref l] ∧ BldAt K CD CP CB H x b ∧ PersonAt K CP H y p ∧ LkAt CL H z ls ∧ SqL K H l (rooms.map V.str) ∧
  ∀ H' v, Same H H' → StepV b p ls rooms H' v → Q v H'
theorem scStep : FnScope ["building", "person", "locks", "rooms", "name", "room"] ["building", "person", "locks", "rooms"] (defScope s_first_step) := ⟨rfl, rfl, rfl, by decide +kernel, rfl, by decide +kernel, by decide +kernel⟩
theorem ok_step {f : Addr} {fd : FuncData} (F : Fun K "first_step" "first_step" s_first_step f fd) (T : OwnC K mg CB "Building" bldF) (GA : Fn P w K mg base 5 "room_added" ["building", "person", "locks", "rooms", "name"] (spAdded K CD CP CB CL))
    (PD : Pr P w K mg base 1 CB "doors" (spBDoors K CD CP CB)) : FnOk P w K mg base CX0 6 f fd ["building", "person", "locks", "rooms"] (spStep K CD CP CB CL) := by
  refine F.ok scStep (fun vs H Q E h => ?_) (fun cdv A outer s H vs Q E hr h => ?_)
  · obtain ⟨x, y, z, l, b, p, ls, rooms, rfl, _⟩ := h
    rfl
  · obtain ⟨x, y, z, l, b, p, ls, rooms, rfl, hb, hp, hz, hl, q⟩ := h
    have hr2 := hr.mono (show 2 ≤ 5 by decide)
    refine ⟨_, pss_cons (ps_for PassesOwn.never rfl (pi_list (pe_pr PD hr2 T.cl (pv 0) rfl)) (pg_name (i := 4) scStep.nd rfl (Or.inl rfl))
        (pss_cons (ps_set (i := 5) scStep.nd rfl (.inl rfl) (pe_fn GA hr (by rfl) (pa_cons (pv 0) (pa_cons (pv 1) (pa_cons (pv 2) (pa_cons (pv 3) (pa_cons (pv 4) pa_nil)))))))
        (pss_one (ps_if (pt_cmp (pc_notN (pv 5))) (pss_one (ps_ret (pe_tup (pa_cons (pv 4) (pa_cons (pv 5) pa_nil))))) pss_nil))))
      (pss_one (ps_ret pe_non)), ?_⟩
    obtain ⟨⟨dx, r, k, dn, dd, pn, pd, ok, od, op, kvs, ds, ps, I⟩, bok⟩ := id hb
    refine ⟨.ref x, rfl, x, dx, _, rfl, I.ob, x, b, rfl, hb, fun dl ndl => ⟨dl, rfl, ⟨_, .inl (.inl upd_same)⟩, ?_⟩⟩
    refine for_it (walk_list (xs := (b.doors.map (·.1)).map V.str)) (fun i σ H' => Same H H' ∧ H' dl = some (.lst ((b.doors.map (·.1)).map V.str)) ∧ (∀ q ∈ b.doors.take i, addOf b p ls rooms q = none) ∧ ∃ y4 y5, σ = [some (.ref x), some (.ref y), some (.ref z), some (.ref l), y4, y5])
      ⟨same_new ndl, upd_same, fun _ h => by simp at h, none, none, rfl⟩ (fun i σ H' _ hP => .inl (.inl hP.2.1)) (fun i v σ H4 H5 hi hP hY => ?_) (fun σ H4 hP => ?_)
    · obtain ⟨rfl, hv⟩ := hY
      obtain ⟨s4, edl, no, y4, y5, rfl⟩ := hP
      have hid : i < b.doors.length := by
        rw [List.length_map, List.length_map] at hi
        exact hi
      have hg : b.doors[i]? = some b.doors[i] := List.getElem?_eq_getElem hid
      rw [List.getElem?_map, List.getElem?_map, hg] at hv
      cases hv
      generalize b.doors[i] = nd at hg
      obtain ⟨n, d⟩ := nd
      have hmem : (n, d) ∈ b.doors := List.mem_of_getElem? hg
      refine ⟨.ref x, rfl, .ref y, rfl, .ref z, rfl, .ref l, rfl, .str n, rfl, x, y, z, l, b, p, ls, rooms, n, d, rfl, hb.same s4, hp.same s4, hz.same s4, s4.seq hl, look_at bok.dnd hmem, fun H6 s6 => ?_⟩
      have s46 := s4.trans s6
      cases ha : addOf b p ls rooms (n, d) with
      | none =>
        refine ⟨.non, rfl, false, rfl, iteF ⟨s46, s6 _ _ edl, fun q' hq' => ?_, _, _, rfl⟩⟩
        rw [take_next1 hg] at hq'
        rcases List.mem_append.mp hq' with c | c
        · exact no q' c
        · rw [List.mem_singleton.mp c]
          exact ha
      | some e =>
        refine ⟨.str e, rfl, true, rfl, iteT ⟨.str n, rfl, .str e, rfl, by show 2 ≤ sizeLine; rw [sizeLine_eq]; decide, fun m nm => q _ _ (s46.trans (same_new nm)) ?_⟩⟩
        unfold StepV
        rw [step_at no hg ha]
        exact ⟨m, rfl, upd_same⟩
    · obtain ⟨s4, edl, no, y4, y5, rfl⟩ := hP
      rw [List.length_map, List.length_map, List.take_length] at no
      refine q _ _ s4 ?_
      unfold StepV
      rw [step_no no]
/-! ### trail_of -/
def spTrailOf (K : PySem.W.Frag) (CD CP CB CL : Addr) : Sp := fun vs H Q _ => ∃ (x z : Addr) (b : BldD) (n : Str) (p : PersonD) (ls : List Str), vs = [.ref x, .str n, .ref z] ∧ BldAt K CD CP CB H x b ∧ b.people.lookup n = some p ∧ LkAt CL H z ls ∧ ls.length ≤ 1000 ∧ (∀ z ∈ ls, z ∈ b.doors.map (·.1)) ∧
  ∀ H' t, Same H H' → SqT K H' t ((trailOf b p ls).map V.str) → Q (.ref t) H'
theorem scTrailOf : FnScope ["building", "name", "locks", "person", "trail", "rooms", "step", "door", "room"] ["building", "name", "locks"] (defScope s_trail_of) := ⟨rfl, rfl, rfl, by decide +kernel, rfl, by decide +kernel, by decide +kernel⟩
theorem ok_trailOf {f : Addr} {fd : FuncData} (F : Fun K "trail_of" "trail_of" s_trail_of f fd) (T : OwnC K mg CB "Building" bldF) (TP : PersT P w K mg base CP) (GB : Fn P w K mg base 1 "check_building" ["building"] (fun vs H Q _ => ∃ (a dx : Addr) (fs : List (Str × V)), vs = [.ref a] ∧ H a = some (.ins CB dx fs) ∧ Q .non H))
    (MP : Mt P w K mg base 2 CB "person" ["self", "name"] (spPersOf K CD CP CB)) (GC : Fn P w K mg base 3 "check_locks" ["building", "locks"] (spChk K CD CP CB CL))
    (GS : Fn P w K mg base 6 "first_step" ["building", "person", "locks", "rooms"] (spStep K CD CP CB CL)) : FnOk P w K mg base CX0 7 f fd ["building", "name", "locks"] (spTrailOf K CD CP CB CL) := by
  refine F.ok scTrailOf (fun vs H Q E h => ?_) (fun cdv A outer s H vs Q E hr h => ?_)
  · obtain ⟨x, z, b, n, p, ls, rfl, _⟩ := h
    rfl
  · obtain ⟨x, z, b, n, p, ls, rfl, hb, hn, hz, few, sub, q⟩ := h
    have hr1 := hr.mono (show 1 ≤ 6 by decide)
    have hr2 := hr.mono (show 2 ≤ 6 by decide)
    have hr3 := hr.mono (show 3 ≤ 6 by decide)
    refine ⟨_, pss_cons (ps_expr (pe_fn GB hr1 (by rfl) (pa_cons (pv 0) pa_nil)))
      (pss_cons (ps_set (i := 3) scTrailOf.nd rfl (.inl rfl) (pe_mt MP hr2 T.cl (pv 0) (pa_cons (pv 1) pa_nil)))
      (pss_cons (ps_expr (pe_fn GC hr3 (by rfl) (pa_cons (pv 0) (pa_cons (pv 2) pa_nil))))
      (pss_cons (ps_set (i := 4) scTrailOf.nd rfl (.inl rfl) (pe_tup pa_nil))
      (pss_cons (ps_set (i := 5) scTrailOf.nd rfl (.inl rfl) (pe_lst (pa_cons (pe_pr TP.start hr2 TP.c.cl (pv 3) rfl) pa_nil)))
      (pss_cons (ps_set (i := 6) scTrailOf.nd rfl (.inl rfl) (pe_fn GS hr (by rfl) (pa_cons (pv 0) (pa_cons (pv 3) (pa_cons (pv 2) (pa_cons (pv 5) pa_nil))))))
      (pss_cons (ps_while PassesOwn.never (pt_cmp (pc_notN (pv 6)))
        (pss_cons (ps_asg (pv 6) (pg_tup rfl (pgs_cons (pg_name (i := 7) scTrailOf.nd rfl (Or.inl rfl)) (pgs_cons (pg_name (i := 8) scTrailOf.nd rfl (Or.inl rfl)) pgs_nil))))
        (pss_cons (ps_set (i := 4) scTrailOf.nd rfl (.inl rfl) (pe_op op_catA (pv 4) (pe_tup (pa_cons (pv 7) pa_nil))))
        (pss_cons (ps_set (i := 5) scTrailOf.nd rfl (.inl rfl) (pe_op op_cat (pv 5) (pe_lst (pa_cons (pv 8) pa_nil))))
        (pss_one (ps_set (i := 6) scTrailOf.nd rfl (.inl rfl) (pe_fn GS hr (by rfl) (pa_cons (pv 0) (pa_cons (pv 3) (pa_cons (pv 2) (pa_cons (pv 5) pa_nil)))))))))))
      (pss_one (ps_ret (pv 4))))))))), ?_⟩
    obtain ⟨⟨dx, r, k, dn, dd, pn, pd, ok, od, op, kvs, ds, ps, I⟩, bok⟩ := id hb
    have one : (1 : Nat) ≤ sizeLine := by rw [sizeLine_eq]; decide
    refine ⟨.ref x, rfl, x, dx, _, rfl, I.ob, ?_⟩
    refine ⟨.ref x, rfl, x, dx, _, rfl, I.ob, rfl, .str n, rfl, x, b, n, p, rfl, hb, hn, fun H1 y s1 hy => ?_⟩
    refine ⟨.ref x, rfl, .ref z, rfl, x, z, b, ls, rfl, hb.same s1, hz.same s1, few, sub, fun H2 s2 => ?_⟩
    have s12 := s1.trans s2
    refine ⟨by show 0 ≤ sizeLine; exact Nat.zero_le _, fun t0 nt0 => ?_⟩
    have s13 := s12.trans (same_new (o := .tup []) nt0)
    have hy3 := (hy.same s2).same (same_new (o := .tup []) nt0)
    obtain ⟨⟨dy, t1, t2, t3, h0, _⟩, pok⟩ := id hy3
    refine ⟨.ref y, rfl, y, dy, _, rfl, h0, y, dy, _, _, rfl, h0, (look_person p.a t1 t2 t3).1, one, fun rl nrl => ?_⟩
    have s4 := same_new (o := .lst [.str p.a]) nrl
    have s14 := s13.trans s4
    refine ⟨.ref x, rfl, .ref y, rfl, .ref z, rfl, .ref rl, rfl, x, y, z, rl, b, p, ls, [p.a], rfl, hb.same s14, hy3.same s4, hz.same s14, .inl (.inl upd_same), fun H5 sv s5 hsv => ?_⟩
    have s15 := s14.trans s5
    refine ⟨fun m σ H' => ∃ (rooms tr : List Str) (tl rl : Addr) (sv : V) (y7 y8 : Option V), Same H H' ∧ PersonAt K CP H' y p ∧ H' rl = some (.lst (rooms.map V.str)) ∧ SqT K H' tl (tr.map V.str) ∧ StepV b p ls rooms H' sv ∧ Path b p ls rooms ∧ tr ++ trailFrom b p ls 6 rooms = trailOf b p ls ∧ m = leftOf b rooms ∧ tr.length + m ≤ 6 ∧
      σ = [some (.ref x), some (.str n), some (.ref z), some (.ref y), some (.ref tl), some (.ref rl), some sv, y7, y8], ⟨leftOf b [p.a], [p.a], [], t0, rl, sv, none, none, s15, (hy3.same s4).same s5, s5 _ _ upd_same, .inl (.inl (s5 _ _ (s4 _ _ upd_same))), hsv, Path.one, rfl, rfl, ?_, rfl⟩, ?_⟩
    · have := left_le b bok [p.a]
      simp only [List.length_nil]
      omega
    rintro m σ H6 ⟨rooms, tr, tl, rl, sv, y7, y8, s6, hy6, erl, etl, hsv, hP, etr, rfl, hlen, rfl⟩
    have hmem : (n, p) ∈ b.people := look_mem hn
    cases hs : stepOf b p ls rooms with
    | none =>
      unfold StepV at hsv
      rw [hs] at hsv
      subst hsv
      refine ⟨.non, rfl, false, rfl, iteF ⟨.ref tl, rfl, q _ tl s6 ?_⟩⟩
      rw [trail_none hs, List.append_nil] at etr
      rw [← etr]
      exact etl
    | some qn =>
      obtain ⟨dn', e⟩ := qn
      unfold StepV at hsv
      rw [hs] at hsv
      obtain ⟨ms, rfl, ems⟩ := hsv
      obtain ⟨d, hm, ha⟩ := step_some hs
      have hlt := left_one bok hm ha
      have hP' := hP.add hm ha
      have l6 := hP.len bok hmem
      refine ⟨.ref ms, rfl, true, rfl, iteT ?_⟩
      refine ⟨fun σ H' => ∃ (tl rl : Addr) (sv : V) (y7 y8 : Option V), Same H H' ∧ PersonAt K CP H' y p ∧ H' rl = some (.lst ((rooms ++ [e]).map V.str)) ∧ SqT K H' tl ((tr ++ [dn']).map V.str) ∧ StepV b p ls (rooms ++ [e]) H' sv ∧
        σ = [some (.ref x), some (.str n), some (.ref z), some (.ref y), some (.ref tl), some (.ref rl), some sv, y7, y8], ?_, ?_⟩
      · rintro σ' H' ⟨tl', rl', sv', y7', y8', a1, a2, a3, a4, a5, a6⟩
        refine ⟨leftOf b (rooms ++ [e]), hlt, rooms ++ [e], tr ++ [dn'], tl', rl', sv', y7', y8', a1, a2, a3, a4, a5, hP', ?_, rfl, ?_, a6⟩
        · rw [trail_some bok hs] at etr
          rw [← etr, List.append_assoc]
          rfl
        · rw [List.length_append]
          simp only [List.length_singleton]
          omega
      · refine ⟨.ref ms, rfl, ms, _, rfl, .inl (.inl ems), rfl, _, _, rfl, _, _, rfl, rfl, ?_⟩
        refine ⟨.ref tl, rfl, .str dn', rfl, one, fun p1 np1 => ?_⟩
        have s7 := same_new (o := .tup [.str dn']) np1
        refine cat_one (n := dn') (Same.tup s7 etl) upd_same (by omega) fun H8 tl2 s8 etl2 => ?_
        have s68 := s7.trans s8
        refine ⟨.ref rl, rfl, .str e, rfl, one, fun l2 nl2 => ?_⟩
        have s9 := same_new (o := .lst [.str e]) nl2
        refine ⟨rl, l2, _, _, rfl, rfl, s9 _ _ (s68 _ _ erl), upd_same, ?_, fun m nm => ?_⟩
        · rw [List.length_map, sizeLine_eq]
          simp only [List.length_singleton]
          omega
        have s10 := same_new (o := .lst (rooms.map V.str ++ [.str e])) nm
        have s610 := s68.trans (s9.trans s10)
        have s0 := s6.trans s610
        have em : (upd (upd H8 l2 (.lst [.str e])) m (.lst (rooms.map V.str ++ [.str e]))) m = some (.lst ((rooms ++ [e]).map V.str)) := by
          rw [upd_same, List.map_append]
          rfl
        refine ⟨.ref x, rfl, .ref y, rfl, .ref z, rfl, .ref m, rfl, x, y, z, m, b, p, ls, rooms ++ [e], rfl, hb.same s0, hy6.same s610, hz.same s0, .inl (.inl em), fun H11 sv2 s11 hsv2 => ?_⟩
        exact ⟨tl2, m, sv2, _, _, s0.trans s11, (hy6.same s610).same s11, s11 _ _ em, Same.tup (s9.trans (s10.trans s11)) etl2, hsv2, rfl⟩
end
end Lk
set_option Elab.async false
set_option linter.all false
set_option maxRecDepth 100000
set_option maxHeartbeats 4000000
namespace Lk
open PySem PySem.Spec PyProof.Rows L2 TxS LkO LkG
/-- the trail cut at the first wanted room -/
def intoOf (b : BldD) (p : PersonD) (ls ws : List Str) : Option (List Str) := ((roomsOf b p ls (trailOf b p ls)).bind fun R => R.findIdx? fun r => decide (r ∈ ws)).map fun i => (trailOf b p ls).take i
section
variable {P : Program} {w : World} {K : PySem.W.Frag} {mg : Str → Option Value} {base : Heap} {CD CP CB CL : Addr}
/-! ### trail_into -/
def spInto (K : PySem.W.Frag) (CD CP CB CL : Addr) : Sp := fun vs H Q _ => ∃ (x z wv : Addr) (b : BldD) (n : Str) (p : PersonD) (ls ws : List Str), vs = [.ref x, .str n, .ref z, .ref wv] ∧ BldAt K CD CP CB H x b ∧ b.people.lookup n = some p ∧ LkAt CL H z ls ∧ ls.length ≤ 1000 ∧ (∀ z ∈ ls, z ∈ b.doors.map (·.1)) ∧ SqT K H wv (ws.map V.str) ∧
  (intoOf b p ls ws = none → ∀ H', Same H H' → Q .non H') ∧ ∀ tr, intoOf b p ls ws = some tr → ∀ H' t, Same H H' → SqT K H' t (tr.map V.str) → Q (.ref t) H'
abbrev nInto : List Str := ["building", "name", "locks", "wanted", "trail", "at", "room"]
theorem scInto : FnScope nInto ["building", "name", "locks", "wanted"] (defScope s_trail_into) := ⟨rfl, rfl, rfl, by decide +kernel, rfl, by decide +kernel, by decide +kernel⟩
theorem ok_into {f : Addr} {fd : FuncData} (F : Fun K "trail_into" "trail_into" s_trail_into f fd) (T : OwnC K mg CB "Building" bldF) (mEn : mg "enumerate" = none) (MP : Mt P w K mg base 2 CB "person" ["self", "name"] (spPersOf K CD CP CB))
    (GT : Fn P w K mg base 7 "trail_of" ["building", "name", "locks"] (spTrailOf K CD CP CB CL)) (GR : Fn P w K mg base 6 "rooms_of" ["building", "person", "locks", "trail"] (spRoomsOf K CD CP CB CL)) :
    FnOk P w K mg base CX0 8 f fd ["building", "name", "locks", "wanted"] (spInto K CD CP CB CL) := by
  refine F.ok scInto (fun vs H Q E h => ?_) (fun cdv A outer s H vs Q E hr h => ?_)
  · obtain ⟨x, z, wv, b, n, p, ls, ws, rfl, _⟩ := h
    rfl
  · obtain ⟨x, z, wv, b, n, p, ls, ws, rfl, hb, hn, hz, few, sub, hw, q0, q1⟩ := h
    have hr2 := hr.mono (show 2 ≤ 7 by decide)
    have hr6 := hr.mono (show 6 ≤ 7 by decide)
    refine ⟨_, (pss_cons (ps_set (i := 4) scInto.nd rfl (.inl rfl) (pe_fn GT hr (by rfl) (pa_cons (pv 0) (pa_cons (pv 1) (pa_cons (pv 2) pa_nil)))))
      (pss_cons (ps_for PassesOwn.never rfl (pi_enum (by rfl) mEn (pa_cons (pe_fn GR hr6 (by rfl) (pa_cons (pv 0) (pa_cons (pe_mt MP hr2 T.cl (pv 0) (pa_cons (pv 1) pa_nil)) (pa_cons (pv 2) (pa_cons (pv 4) pa_nil))))) pa_nil)) (pg_tup rfl (pgs_cons (pg_name (i := 5) scInto.nd rfl (Or.inl rfl)) (pgs_cons (pg_name (i := 6) scInto.nd rfl (Or.inl rfl)) pgs_nil))) (pss_one (ps_if (pt_cmpR (r := (rIn K false)) op_in_seq (pv 6) (pv 3) rfl) (pss_one (ps_ret (pe_slice sl_tupA (pv 4) po_none (po_some (pv 5))))) pss_nil)))
      (pss_one (ps_ret pe_non)))), ?_⟩
    obtain ⟨⟨dx, r, k, dn, dd, pn, pd, ok, od, op, kvs, ds, ps, I⟩, bok⟩ := id hb
    refine ⟨.ref x, rfl, .str n, rfl, .ref z, rfl, x, z, b, n, p, ls, rfl, hb, hn, hz, few, sub, fun H1 t s1 ht => ?_⟩
    refine ⟨.ref x, rfl, .ref x, rfl, x, dx, _, rfl, s1 _ _ I.ob, rfl, .str n, rfl, x, b, n, p, rfl, hb.same s1, hn, fun H2 y s2 hy => ?_⟩
    have s12 := s1.trans s2
    obtain ⟨R, hR, hbe⟩ := trail_comp bok p ls
    have tl := trail_sub (b := b) (p := p) (ls := ls) 6 [p.a]
    refine ⟨.ref z, rfl, .ref t, rfl, x, y, z, t, b, p, ls, _, rfl, hb.same s12, hy, hz.same s12, Same.tup s2 ht, Nat.le_trans tl.1 (by decide), tl.2, fun e => ?_, fun R' e H3 m s3 nm em => ?_⟩
    · rw [hR] at e
      cases e
    rw [hR] at e
    cases e
    have s13 := s12.trans s3
    refine ⟨m, _, rfl, .inl (.inl em), ?_⟩
    refine for_it (walk_enum (xs := R.map V.str)) (fun i σ H' => Same H3 H' ∧ (∀ r ∈ R.take i, r ∉ ws) ∧ ∃ y5 y6, σ = [some (.ref x), some (.str n), some (.ref z), some (.ref wv), some (.ref t), y5, y6])
      ⟨Same.refl _, fun r hr => by simp at hr, none, none, rfl⟩ (fun i σ H' _ hP => .inl (.inl (hP.1 _ _ em))) (fun i v σ H4 H5 hi hP hY => ?_) (fun σ H4 hP => ?_)
    · obtain ⟨s4, no, y5, y6, rfl⟩ := hP
      obtain ⟨Tp, xi, xr, rfl, nT, rfl, e1, e2⟩ := hY
      obtain rfl := (Option.some.inj e1).symm
      obtain ⟨room, hroom, rfl⟩ := at_map e2
      have s5 := same_new (o := .tup [.int (i : Nat), .str room]) nT
      have s35 := s13.trans (s4.trans s5)
      refine ⟨Tp, _, rfl, .inl (.inl upd_same), rfl, _, _, rfl, _, _, rfl, rfl, ?_⟩
      have inW : inV (V.str room) (ws.map V.str) = decide (room ∈ ws) := inV_str room ws
      refine ⟨.str room, rfl, .ref wv, rfl, wv, _, rfl, .inr (Same.tup s35 hw), rfl, flat_strs ws, _, rfl, ?_⟩
      show if inV (V.str room) (ws.map V.str) = true then _ else _
      rw [inW]
      have hiR : i < R.length := by rw [List.length_map] at hi; exact hi
      refine ite2 (fun e => ?_) (fun e => ?_)
      · have fi : R.findIdx? (fun r => decide (r ∈ ws)) = some i := by
          rw [List.findIdx?_eq_some_iff_getElem]
          refine ⟨hiR, ?_, fun j hj => ?_⟩
          · rw [List.getElem?_eq_getElem hiR] at hroom
            rw [Option.some.inj hroom]
            exact e
          · have := no R[j] (List.mem_take_iff_getElem.mpr ⟨j, by omega, rfl⟩)
            simpa using this
        have hin : intoOf b p ls ws = some ((trailOf b p ls).take i) := by
          unfold intoOf
          rw [hR]
          show (R.findIdx? fun r => decide (r ∈ ws)).map _ = _
          rw [fi]
          rfl
        have cut : cutV ((trailOf b p ls).map V.str) none (some (i : Int)) = ((trailOf b p ls).take i).map V.str := by
          unfold cutV
          rw [HT.sIx_none, HT.sIx_nat, List.drop_zero, Nat.sub_zero, List.map_take]
          by_cases hq : i ≤ ((trailOf b p ls).map V.str).length
          · rw [Nat.min_eq_left hq]
          · rw [Nat.min_eq_right (by omega), List.take_of_length_le (Nat.le_refl _), List.take_of_length_le (by omega)]
        refine ⟨.ref t, rfl, .int i, rfl, i, rfl, t, _, rfl, Same.tup (s2.trans (s3.trans (s4.trans s5))) ht, fun hw2 => q1 _ hin _ t s35 ?_, fun _ pn np => q1 _ hin _ pn (s35.trans (same_new np)) (.inl (.inl ?_))⟩
        · have e2 : min i ((trailOf b p ls).map V.str).length = ((trailOf b p ls).map V.str).length := by
            have := hw2.2
            rw [HT.sIx_nat] at this
            exact this
          have e3 : (trailOf b p ls).take i = trailOf b p ls := List.take_of_length_le (by rw [List.length_map] at e2; omega)
          rw [e3]
          exact Same.tup (s2.trans (s3.trans (s4.trans s5))) ht
        · rw [upd_same, cut]
      · refine ⟨s4.trans s5, fun r hr => ?_, _, _, rfl⟩
        rw [take_next1 hroom] at hr
        rcases List.mem_append.mp hr with h | h
        · exact no r h
        · rw [List.mem_singleton.mp h]
          intro z
          exact e (decide_eq_true z)
    · obtain ⟨s4, no, y5, y6, rfl⟩ := hP
      rw [List.length_map, List.take_length] at no
      refine q0 ?_ _ (s13.trans s4)
      unfold intoOf
      rw [hR]
      show (R.findIdx? fun r => decide (r ∈ ws)).map _ = none
      rw [List.findIdx?_eq_none_iff.mpr fun r hr => decide_eq_false (no r hr)]
      rfl
end
end Lk
set_option Elab.async false
set_option linter.all false
set_option maxRecDepth 100000
set_option maxHeartbeats 4000000
namespace Lk
open PySem PySem.Spec PyProof.Rows L2 TxS LkO LkG
section
variable {P : Program} {w : World} {K : PySem.W.Frag} {mg : Str → Option Value} {base : Heap} {CD CP CB CL : Addr}
/-! ### price -/
def priceOf (b : BldD) (ls : List Str) : Int := (ls.map fun n => match b.doors.lookup n with
  | some d => d.cost
  | none => 0).sum
def spPrice (K : PySem.W.Frag) (CD CP CB CL : Addr) : Sp := fun vs H Q _ => ∃ (x z : Addr) (b : BldD) (ls : List Str), vs = [.ref x, .ref z] ∧ BldAt K CD CP CB H x b ∧ LkAt CL H z ls ∧ ls.length ≤ 1000 ∧ (∀ z ∈ ls, z ∈ b.doors.map (·.1)) ∧ ∀ H', Same H H' → Q (.int (priceOf b ls)) H'
theorem scPrice : FnScope ["self", "locks", "name"] ["self", "locks"] (defScope s_Building_price) := ⟨rfl, rfl, rfl, by decide +kernel, rfl, by decide +kernel, by decide +kernel⟩
theorem ok_price {f : Addr} {fd : FuncData} (F : Fun K "price" "Building.price" s_Building_price f fd) (B : Blt mg) (T : OwnC K mg CB "Building" bldF) (TL : LkC K mg CL) (TD : OwnC K mg CD "Door" doorF) (PC : Pr P w K mg base 1 CD "cost" (getSp CD "kept_cost")) (PN : Pr P w K mg base 1 CL "names" (spNames CL))
    (GC : Fn P w K mg base 3 "check_locks" ["building", "locks"] (spChk K CD CP CB CL)) : FnOk P w K mg base CX0 4 f fd ["self", "locks"] (spPrice K CD CP CB CL) := by
  refine F.ok scPrice (fun vs H Q E h => ?_) (fun cdv A outer s H vs Q E hr h => ?_)
  · obtain ⟨x, z, b, ls, rfl, _⟩ := h
    rfl
  · obtain ⟨x, z, b, ls, rfl, hb, hz, few, sub, q⟩ := h
    have hr2 := hr.mono (show 2 ≤ 3 by decide)
    obtain ⟨⟨dx, r, k, dn, dd, pn, pd, ok, od, op, kvs, ds, ps, I⟩, bok⟩ := id hb
    have l4 := (look_bld r k dn dd pn pd).2.2.2.1
    refine ⟨_, pss_cons (ps_expr (pe_fn GC hr (by rfl) (pa_cons (pv 0) (pa_cons (pv 1) pa_nil))))
      (pss_one (ps_ret (pe_callB (cr_sum rfl) (by rfl) B.sum PyProof.Rows.boot_sum (pa_cons (pe_lc (own := [("name", 2)]) (g := gName 2) (tt := tYes) (te := tProp CD (getSp CD "kept_cost") [] E0 (tDGet (tFld K (tVar 0) "kept_doors") (tVar 2))) rfl scPrice.nd (pi_list (pe_pr PN hr2 TL.cl (pv 1) rfl)) (blkOk_by (N := ["self", "locks", "name"]) (sc := defScope s_Building_price) (by decide +kernel))
        (fun _ _ _ _ _ => pg_name (i := 2) scPrice.nd rfl (Or.inl rfl)) (fun _ _ _ _ _ => pts_nil) (fun _ _ _ _ _ => pe_pr PC hr2 TD.cl (pe_dget (hu_of hr) (pe_fld (pv 0) rfl) (pv 2) (fun _ _ => rfl)) rfl)) pa_nil)))), ?_⟩
    refine ⟨.ref x, rfl, .ref z, rfl, x, z, b, ls, rfl, hb, hz, few, sub, fun H1 s1 => ?_⟩
    obtain ⟨⟨dz, t, h1, h2⟩, _, _⟩ := id (hz.same s1)
    refine ⟨.ref z, rfl, z, dz, _, rfl, h1, z, ls, rfl, hz.same s1, fun l nl => ⟨l, rfl, ⟨_, .inl (.inl upd_same)⟩, fun D nD => ?_⟩⟩
    have s12 := s1.trans (same_new (o := .lst (ls.map V.str)) nl)
    refine lc_m (walk_list (xs := ls.map V.str)) ls (fun n => .int (match b.doors.lookup n with
      | some d => d.cost
      | none => 0)) (by rw [List.length_map]) nD few (fun H' s' => s'.seq (.inl (.inl upd_same))) (fun i u v H7 H8 Kt hu s7 hY kk => ?_) (fun H7 s7 eD => ?_)
    · obtain ⟨rfl, hx⟩ := hY
      rw [List.getElem?_map, hu] at hx
      cases hx
      obtain ⟨d, hd⟩ := look_name (sub u (List.mem_of_getElem? hu))
      obtain ⟨v, hv, ⟨y, rfl, hy⟩⟩ := I.doorsT.val hd
      have sH := s12.trans s7
      obtain ⟨⟨dy, hyo⟩, dok⟩ := hy.same sH
      have k2 := kk _ (Same.refl _)
      rw [hd] at k2
      exact ⟨rfl, .ref x, rfl, x, CB, dx, _, _, rfl, sH _ _ I.ob, T.cl, T.nK _ (by simp), l4, .str u, rfl, dd, .ref y, rfl, .inl ⟨ds, .inr u, .inr ⟨od, sH _ _ I.doors⟩, rfl, hv.symm⟩, y, dy, _, rfl, hyo, y, dy, _, _, rfl, hyo, (look_door d).2.2.2.2, k2⟩
    · refine ⟨D, ls.map (fun n => match b.doors.lookup n with
        | some d => d.cost
        | none => 0), rfl, .inl (.inl (by rw [List.map_map]; exact eD)), ?_⟩
      exact q _ (s12.trans s7)
/-! ### is_right -/
end
end Lk
set_option Elab.async false
set_option linter.all false
set_option maxRecDepth 100000
set_option maxHeartbeats 4000000
/-! sorted(xs, key=f), f a def or a lambda of ours that gives whole numbers. -/
namespace LkS
open PySem PySem.Spec PyProof.Rows L2 TxS LkO Lk LkG PySem.W
section
variable {X : Cx} {pins : List (Addr × Obj)} {σ : L2.St} {H : Hp} {s : Shared}
/-- the object at a comes to be a list of ours -/
theorem adopt {h' : Heap} {t' : Nat} {ch : List Addr} {a : Addr} {o : HO} (I : Inv X pins σ H s) (ha : a ∈ ch) (k : ∀ b u, b ∉ ch → s.heap.get? b = some u → h'.get? b = some u) (hf : ∀ b ∈ ch, FpOk X pins H b) (new : ObjOk X.prog X.w (upd H a o) h' a o) (nt : ∀ qs, o ≠ .tbl qs) :
    Inv X pins σ (upd H a o) { s with heap := h', toks := t' } := by
  have nit : ∀ b u, H b = some u → b ∉ ch := fun b u e z => by
    have q := (hf b z).1
    rw [q] at e; cases e
  have nea : ∀ b u, H b = some u → b ≠ a := fun b u e z => nit b u e (by rw [z]; exact ha)
  refine I.step (g' := s.gens) (d' := s.drawn) (ch := ch) (fun b hb => ⟨(hf b hb).2.2.2.1, (hf b hb).2.1, (hf b hb).2.2.2.2.1, (hf b hb).2.2.2.2.2⟩) (fun b o _ _ hc e _ => k b o hc e) (fun b o _ _ hc e _ => ⟨o.slots, k b o hc e⟩)
    (fun b u hc _ n => by rw [upd_ne (fun z => hc (by rw [z]; exact ha))]; exact n) (fun b o hc e => ⟨o, k b o hc e⟩) (fun b xs e => by rw [upd_ne (nea b _ e)]; exact e) (fun b u v e => by rw [upd_ne (nea b _ e)]; exact e) (fun b ps e => ⟨#[], by rw [upd_ne (nea b _ e), e]; simp⟩) (fun m hm => ?_) (fun b u e => ?_) I.bare
  · obtain ⟨o, es, ep, ho, r⟩ := hm
    exact ⟨o, es, ep, k _ o (fun z => (hf _ z).2.1 rfl) ho, r⟩
  · by_cases hb : b = a
    · rw [hb, upd_same] at e
      cases e
      rw [hb]
      exact new
    · rw [upd_ne hb] at e
      refine (I.hok b u e).stay (fun c v hc q => k c v ?_ q) (fun c q => by rw [upd_ne (nea c _ q)]; exact q) fun c xs q => by rw [upd_ne (nea c _ q)]; exact q
      rcases hc with z | z
      · rw [z]; exact nit b u e
      · exact nit c _ z
end
end LkS
set_option Elab.async false
set_option linter.all false
set_option maxRecDepth 100000
set_option maxHeartbeats 4000000
/-! sorted(xs, key=f), f of ours, keys whole numbers. -/
namespace LkS
open PySem PySem.Spec PyProof.Rows L2 TxS LkO Lk LkG PySem.W
theorem each_vals : ∀ {xs : List V} {us : List Value}, Vals xs us → EachIs (fun u x => RelV x u) us xs
  | _, _, .nil => .nil
  | _, _, .cons h t => .cons h (each_vals t)
theorem vals_each : ∀ {xs : List V} {us : List Value}, EachIs (fun u x => RelV x u) us xs → Vals xs us
  | _, _, .nil => .nil
  | _, _, .cons h t => .cons h (vals_each t)
theorem vals_at : ∀ {xs : List V} {us : List Value}, Vals xs us → ∀ {j : Nat} {u : Value}, us[j]? = some u → ∃ x, xs[j]? = some x ∧ RelV x u
  | _, _, .nil, j, u, h => by simp at h
  | _, _, .cons r t, 0, u, h => by
    simp only [List.getElem?_cons_zero, Option.some.injEq] at h
    subst h
    exact ⟨_, rfl, r⟩
  | _, _, .cons r t, j + 1, u, h => by
    simp only [List.getElem?_cons_succ] at h ⊢
    exact vals_at t h
theorem ints_snoc : ∀ {vs : List Value} {ns : List Int} (n : Int) (t : Tok), IntsAre vs ns → IntsAre (vs ++ [.int n t]) (ns ++ [n])
  | _, _, n, t, .nil => .cons n t .nil
  | _, _, n, t, .cons m u h => .cons m u (ints_snoc n t h)
theorem ints_len : ∀ {vs : List Value} {ns : List Int}, IntsAre vs ns → vs.length = ns.length
  | _, _, .nil => rfl
  | _, _, .cons _ _ h => by simp [ints_len h]
theorem ints_each {h : Heap} : ∀ {vs : List Value} {ns : List Int}, IntsAre vs ns → EachIs (fun v d => ∃ as, Reads h v d as) vs (ns.map PyData.int)
  | _, _, .nil => .nil
  | _, _, .cons n t r => .cons ⟨_, .int n t⟩ (ints_each r)
section
variable {X : Cx} {pins : List (Addr × Obj)} {σ : L2.St} {H : Hp} {s : Shared}
def leBy {α : Type} (key : α → Int) (a b : α) : Bool := decide (key a ≤ key b)
theorem sortedKey_run {l fq : Addr} {xs : List V} {key : V → Int} {fo : Obj} {W : Hp → Prop} {Q : VK} (I : Inv X pins σ H s) (hs : SqL X.K H l xs) (hf : s.heap.get? fq = some fo) (hfn : H fq = none) (hfL : fq ≠ X.env.locals) (hff : fq ∉ X.fs) (hfc : ∀ v, fo.data ≠ .cell v)
    (hu : X.A.units + 8 < cLine) (hW : W H)
    (turn : ∀ x ∈ xs, ∀ (u : Value) (pins' : List (Addr × Obj)) (s' : Shared) (H' : Hp), RelV x u → Inv X pins' σ H' s' → W H' → s'.heap.get? fq = some fo → H' fq = none →
      wpAny (model X.prog X.w) X.A.in1.in1 (call (.ref fq) [u]) (EP X pins' σ fun v H'' => v = .int (key x) ∧ W H'') (fun _ _ => False) s')
    (q : ∀ (H' : Hp) (p : Addr), W H' → H' p = none → H p = none → Q (.ref p) (upd H' p (.lst (xs.mergeSort (leBy key))))) :
    wpAny (model X.prog X.w) X.A (call (.builtin "sorted") [.ref l] [(Str.ofString "key", .ref fq)]) (EP X pins σ Q) X.xe s := by
  obtain ⟨its, rv, hl, hz⟩ := I.list hs
  have hzi : its.length ≤ sizeLine := by rw [← rv.length]; exact hz
  refine sorted_of_sort hl.isList hzi (ksk_s1 _ _) (fun _ => ksk_l1 _ _) fun E' => ?_
  rw [ksk_t1]
  generalize ea : s.heap.objs.size + 1 = a
  have ho : (copyHeap s.heap its).get? a = some (seqObj "list" its.toArray 0) := by rw [← ea]; exact copyHeap_at s.heap its
  have ha : a < (copyHeap s.heap its).objs.size := Heap.lt_size ho
  obtain ⟨e1, ho1⟩ : ∃ e1, ((copyHeap s.heap its).update a (Obj.mapSeq fun _ => (#[] : Array Value))).get? a = some (seqObj "list" #[] e1) := ⟨_, get?_update_seq ho fun _ => #[]⟩
  have hkS : (((copyHeap s.heap its).update a (Obj.mapSeq fun _ => (#[] : Array Value))).push (seqObj "tuple" its.toArray 0)).objs.size = (copyHeap s.heap its).objs.size + 1 := by rw [size_push', Heap.size_update]
  unfold ksk_tree
  refine wpAny_bind (listItems_at ho rfl ?_)
  refine wpAny_bind (listUpdate_at ho rfl ?_ (by rw [List.size_toArray]; exact hzi) (Nat.zero_le _))
  refine wpAny_bind (seqEpoch_at ho1 rfl ?_)
  refine wpAny_bind (wpAny_newTuple ?_ (by show its.length ≤ _; exact hzi))
  refine wpAny_bind (wpAny_newList ?_ (Nat.zero_le _))
  refine wpAny_holding ?_
  generalize ek : (((copyHeap s.heap its).update a (Obj.mapSeq fun _ => (#[] : Array Value))).push (seqObj "tuple" its.toArray 0)).objs.size = kS
  have hka : kS ≠ a := by rw [← ek, hkS]; exact Nat.ne_of_gt (Nat.lt_succ_of_lt ha)
  have old : ∀ b o, s.heap.get? b = some o → ((((copyHeap s.heap its).update a (Obj.mapSeq fun _ => (#[] : Array Value))).push (seqObj "tuple" its.toArray 0)).push (seqObj "list" #[] 0)).get? b = some o := fun b o e => by
    have hlt := Heap.lt_size e
    exact sortingHeap_old (a := a) (vs := its) (by rw [← ea]; exact Nat.ne_of_lt (Nat.lt_succ_of_lt hlt)) (copyHeap_old e)
  have I0 : Inv X pins σ H { s with heap := (((copyHeap s.heap its).update a (Obj.mapSeq fun _ => (#[] : Array Value))).push (seqObj "tuple" its.toArray 0)).push (seqObj "list" #[] 0) } := I.kept old
  have la : s.heap.objs.size ≤ a := by rw [← ea]; exact Nat.le_succ _
  have lk : s.heap.objs.size ≤ kS := by
    rw [← ek, hkS]
    have : s.heap.objs.size < (copyHeap s.heap its).objs.size := Nat.lt_of_le_of_lt la ha
    omega
  have fa0 : FpOk X pins H a := I.fpOk la (I.hok.fresh la)
  have fk0 : FpOk X pins H kS := I.fpOk lk (I.hok.fresh lk)
  have nk0 : ((((copyHeap s.heap its).update a (Obj.mapSeq fun _ => (#[] : Array Value))).push (seqObj "tuple" its.toArray 0)).push (seqObj "list" #[] 0)).get? kS = some (seqObj "list" #[] 0) := by
    rw [← ek]; exact Heap.get?_push_size _ rfl
  have na0 : ((((copyHeap s.heap its).update a (Obj.mapSeq fun _ => (#[] : Array Value))).push (seqObj "tuple" its.toArray 0)).push (seqObj "list" #[] 0)).get? a = some (seqObj "list" #[] e1) := Heap.get?_push_of_some _ (Heap.get?_push_of_some _ ho1)
  unfold ksk_rest
  refine wpAny_bind (wpAny_rule ?_)
  first
    | rw [List.forIn_toArray]
    | (rw [← Array.forIn_toList]; simp only [List.toList_toArray])
    | rw [← Array.forIn_toList]
  refine wpAny_bind (ksk_fold (fun i s' => ∃ (H' : Hp) (kA : Array Value) (e : Nat), Inv X pins σ H' s' ∧ W H' ∧ H' kS = none ∧ H' a = none ∧ H' fq = none ∧ s'.heap.get? kS = some (seqObj "list" kA e) ∧ s'.heap.get? a = some (seqObj "list" #[] e1) ∧ s'.heap.get? fq = some fo ∧ IntsAre kA.toList ((xs.map key).take i)) its 0 _
    ⟨H, #[], 0, I0, hW, fk0.1, fa0.1, hfn, nk0, na0, old _ _ hf, by rw [List.take_zero]; exact .nil⟩ ?step ?done)
  case step =>
    rintro j x s' hx ⟨H', kA, e, I', w', fk, fa, fn, nk, na, nf, hk⟩
    simp only [Nat.zero_add] at hk ⊢
    obtain ⟨y, hy, ry⟩ := vals_at rv hx
    have hj : j < xs.length := (List.getElem?_eq_some_iff.mp hy).1
    have hsz : kA.size ≤ xs.length := by
      have h1 := ints_len hk
      rw [Array.length_toList, List.length_take, List.length_map] at h1
      omega
    have Ip : Inv X (pins ++ [(kS, seqObj "list" kA e), (a, seqObj "list" #[] e1), (fq, fo)]) σ H' s' := I'.pins_of fun p hp => by
      rcases List.mem_append.mp hp with z | z
      · exact I'.pin p (List.mem_append_right _ z)
      · simp only [List.mem_cons, List.not_mem_nil, or_false] at z
        rcases z with rfl | rfl | rfl
        · exact ⟨nk, fk, fk0.2.1, fk0.2.2.1, fun v z => by cases z⟩
        · exact ⟨na, fa, fa0.2.1, fa0.2.2.1, fun v z => by cases z⟩
        · exact ⟨nf, fn, hfL, hff, hfc⟩
    refine wpAny_bind (wpAny_attempt (wpAny_mono (turn y (List.mem_of_getElem? hy) x _ s' H' ry Ip w' nf fn) (fun v s'' he => ?_) fun _ _ hF => hF.elim))
    obtain ⟨v', H'', I'', r'', rfl, w''⟩ := he
    obtain ⟨t, rfl⟩ := r''
    have p1 := I''.pin (kS, seqObj "list" kA e) (by simp)
    have p2 := I''.pin (a, seqObj "list" #[] e1) (by simp)
    have p3 := I''.pin (fq, fo) (by simp)
    have s1 := Heap.SameBut.update s''.heap kS (Obj.mapSeq (·.push (.int (key y) t)))
    obtain ⟨c2, hc2⟩ : ∃ c2, (s''.heap.update kS (Obj.mapSeq (·.push (.int (key y) t)))).get? kS = some (seqObj "list" (kA.push (.int (key y) t)) c2) := ⟨_, get?_update_seq p1.1 (·.push (.int (key y) t))⟩
    have hzx : xs.length ≤ sizeLine := hz
    try dsimp only
    refine wpAny_bind (listUpdate_at p1.1 rfl ?_ (Nat.le_trans hsz hzx) (Nat.le_trans (Nat.le_of_eq (Array.size_push ..)) (Nat.succ_le_succ (Nat.le_trans hsz hzx))))
    have I3 : Inv X pins σ H'' { s'' with heap := s''.heap.update kS (Obj.mapSeq (·.push (.int (key y) t))) } :=
      I''.unpinned.turned (it := kS) (t' := s''.toks) (fun b o hb e => (s1.2 b hb).trans e) p1.2.1 fk0.2.1 fk0.2.2.2.1 fk0.2.2.2.2.1 fk0.2.2.2.2.2
    have hfk : fq ≠ kS := fun z => by
      have h1 := Heap.lt_size hf
      rw [z] at h1
      exact Nat.lt_irrefl _ (Nat.lt_of_lt_of_le h1 lk)
    refine wpAny_pure ⟨rfl, H'', kA.push (.int (key y) t), c2, I3, w'', p1.2.1, p2.2.1, p3.2.1, hc2, (s1.2 a hka.symm).trans p2.1, (s1.2 fq hfk).trans p3.1, ?_⟩
    have ekk : (xs.map key).take (j + 1) = (xs.map key).take j ++ [key y] := take_next hy
    have eaa : (kA.push (Value.int (key y) t)).toList = kA.toList ++ [.int (key y) t] := by simp
    rw [ekk, eaa]
    exact ints_snoc _ _ hk
  case done =>
    rintro s' ⟨H', kA, e, I', w', fk, fa, fn, nk, na, nf, hk⟩
    have hil : its.length = xs.length := rv.length.symm
    have e3 : (xs.map key).take (0 + its.length) = xs.map key := List.take_of_length_le (by rw [List.length_map]; omega)
    rw [e3] at hk
    have hsz : kA.size = its.length := by
      have h1 := ints_len hk
      rw [Array.length_toList, List.length_map] at h1
      omega
    try dsimp only
    refine wpAny_bind (listItems_at nk rfl ?_)
    obtain ⟨G, g1, g2⟩ := restrict s'.heap fun b => decide (b ≠ kS)
    have kz : (xs.map key).map PyData.int = xs.map fun x => PyData.int (key x) := by rw [List.map_map]; rfl
    have hk' : EachIs (fun v d => ∃ as, Reads s'.heap v d as) kA.toList (xs.map fun x => PyData.int (key x)) := by
      rw [← kz]; exact ints_each hk
    have hal : AllAlike (xs.map fun x => PyData.int (key x)) := fun d hd d' hd' => by
      obtain ⟨x, _, rfl⟩ := List.mem_map.mp hd
      obtain ⟨y, _, rfl⟩ := List.mem_map.mp hd'
      simp [alike]
    have hsk : Sortable (xs.map fun x => PyData.int (key x)) := Sortable.others fun b => ⟨fun z => (by cases z), fun xs z => (by cases z)⟩
    have hun : ∀ d ∈ (xs.map fun x => PyData.int (key x)), X.A.in1.in1.units + d.depth < cLine := fun d hd => by
      obtain ⟨x, _, rfl⟩ := List.mem_map.mp hd
      have : X.A.in1.in1.units = X.A.units + 2 := rfl
      rw [this]
      simp only [PyData.depth]
      omega
    refine keyH_end (κ := dataKind s'.heap (xs.map fun x => PyData.int (key x))) (h₁ := G) (vs := its) (fun b o hb hg => ?_) (g2 kS (by simp)) nk na hka (SortsAt.data hk' hal hsk hun) hsz hzi fun h3 tk3 c k3 n3 => ⟨rfl, ?_⟩
    · by_cases hbk : b = kS
      · rw [hbk, g2 kS (by simp)] at hg
        cases hg
      · rw [g1 b (by simp [hbk])] at hg
        exact hg
    · have ko : KeyedOut false (xs.map fun x => PyData.int (key x)) its (sortVals (dataKind s'.heap (xs.map fun x => PyData.int (key x))) false kA.toList its) := ⟨s'.heap, kA.toList, hal, rfl, hk'⟩
      have eo := keyedOut_each (fun x => PyData.int (key x)) ko (each_vals rv)
      rw [dataLe_int] at eo
      have ro := vals_each eo
      have keep : ∀ b o, b ∉ [a, kS] → s'.heap.get? b = some o → h3.get? b = some o := fun b o hb e => by
        have h1 : b ≠ a := fun z => hb (by simp [z])
        have h2 : b ≠ kS := fun z => hb (by simp [z])
        exact k3 b o h1 (by rw [g1 b (by simp [h2])]; exact e)
      have fa' : FpOk X pins H' a := ⟨fa, fa0.2⟩
      have fk' : FpOk X pins H' kS := ⟨fk, fk0.2⟩
      refine ⟨.ref a, _, adopt (t' := tk3) (ch := [a, kS]) (o := .lst (xs.mergeSort (leBy key))) I' (by simp) keep (fun b hb => ?_) ⟨?_, _, c, ro, n3⟩ (fun qs z => by cases z), rfl, q H' a w' fa fa0.1⟩
      · simp only [List.mem_cons, List.not_mem_nil, or_false] at hb
        rcases hb with rfl | rfl
        · exact fa'
        · exact fk'
      · rw [List.length_mergeSort]
        exact hz
end
end LkS
set_option Elab.async false
set_option linter.all false
set_option maxRecDepth 100000
set_option maxHeartbeats 4000000
/-! sorted(xs), xs tuples of whole numbers, the first of them empty. -/
namespace LkS
open PySem PySem.Spec PyProof.Rows L2 TxS LkO Lk LkG PySem.W PySem.SeqAt
section
variable {A : Around} {s : Shared}
theorem call_tuple_lt {prog : Program} {w : World} {E : Value → Shared → Prop} {Q : Value → Shared → Prop} {l b : Addr} {items items2 : Array Value} {e r : Nat → Bool} (hl : s.heap.IsTuple l items) (hb : s.heap.IsTuple b items2)
    (he : ∀ j (h1 : j < items.size) (h2 : j < items2.size), EqAt A.in1 s items[j] items2[j] (e j)) (hr : ∀ j (h1 : j < items.size) (h2 : j < items2.size), e j = false → RcLt A.in1 s items[j] items2[j] (r j))
    (h : Q (.bool (firstLt e r (decide (items.size < items2.size)) (List.range (min items.size items2.size)))) s) : wpAny (model prog w) A (call (.builtin "tuple.__lt__") [.ref l, .ref b]) Q E s := by
  obtain ⟨⟨cls, dd, data, sl⟩, ho, hc, n, hd⟩ := id hl
  obtain ⟨⟨cls2, dd2, data2, sl2⟩, ho2, hc2, n2, hd2⟩ := id hb
  simp only at hc hd hc2 hd2
  subst hc hd hc2 hd2
  exact call_meets F.slot_tuple_lt ⟨_, ho, rfl⟩ F.entry_tuple_lt (F.args_tuple_lt_2 _ _) (tuple_ltAt l b items items2 n n2 dd dd2 sl sl2 e r) ⟨ho, ho2, he, hr, h⟩
end
section
variable {prog : Program} {w : World} {A : Around} {s : Shared} {E : Value → Shared → Prop}
theorem oneLt_tup {xs ys : List PyData} {a b : Value} {as bs : List Addr} {Q : Bool → Shared → Prop} (ra : Reads s.heap a (.tuple xs) as) (rb : Reads s.heap b (.tuple ys) bs) (h : alike (.tuple xs) (.tuple ys) = true)
    (hu : A.units + min (PyData.depth (.tuple xs)) (PyData.depth (.tuple ys)) < cLine) (hq : Q (dataLt (.tuple xs) (.tuple ys)) s) : wpAny (model prog w) A (oneLt' true a b) Q E s := by
  have hal : alikeAll xs ys = true := by simpa [alike] using h
  cases ra with
  | @tuple l o vs n _ as₁ h1 h2 h3 h4 =>
    cases rb with
    | @tuple l' o' vs' n' _ bs₁ k1 k2 k3 k4 =>
      have n1 : vs.size = xs.length := by simpa using ReadsAll.length _ _ _ h4
      have n2 : vs'.size = ys.length := by simpa using ReadsAll.length _ _ _ k4
      rw [dataLt_tuple, ← firstLt_toks xs ys hal, ← n1, ← n2] at hq
      rw [oneLt'_eq]
      simp only [if_true]
      refine wpAny_bind (wpAny_cRoomFor (room_here hu) ?_)
      refine wpAny_bind (wpAny_callSpecialIfBound?_slot (T := "tuple") ⟨_, h1, h2⟩ F.slot_tuple_lt (call_tuple_lt (e := pairEq xs ys) (r := fun j => dataLt (xs.getD j .none) (ys.getD j .none)) ⟨_, h1, h2, _, h3⟩ ⟨_, k1, k2, _, k3⟩ (fun j j1 j2 => ?_) (fun j j1 j2 hj => ?_) ?_))
      · have := eqAt_alikeAll xs ys A.in1 s vs.toList vs'.toList _ _ h4 k4 hal (room_in hu) j (by simpa using j1) (by simpa using j2)
        simpa using this
      · have := rcLt_alikeAll xs ys A.in1 s vs.toList vs'.toList _ _ h4 k4 hal (room_in hu) j (by simpa using j1) (by simpa using j2) hj
        simpa using this
      · exact wpAny_truthy_bool hq
theorem firsts_tups : ∀ (vs : List Value) (ds : List PyData) {Q : List (Option Value) → Shared → Prop}, EachIs (fun v d => ∃ as, Reads s.heap v d as) vs ds → (∀ d ∈ ds, ∃ xs, d = .tuple xs) →
    (∀ fs : List (Option Value), (∀ r, ds = .tuple [] :: r → ∃ fr, fs = none :: fr) → Q fs s) → wpAny (model prog w) A (vs.mapM firstOfTuple') Q E s
  | _, _, Q, .nil, _, h => by
    rw [List.mapM_nil]
    exact wpAny_pure (h [] fun r e => by cases e)
  | _, _, Q, .cons (a := v) (as := vs) (b := d) (bs := ds) ⟨as, r⟩ t, ht, h => by
    rw [List.mapM_cons]
    obtain ⟨xs, rfl⟩ := ht d List.mem_cons_self
    cases r with
    | @tuple l o us n _ as₁ h1 h2 h3 h4 =>
      refine wpAny_bind ?_
      rw [kas_first_eq]
      refine wpAny_bind (Looks.here (show Looks (model prog w) s.heap (typeOf (.ref l)) o.cls from (Looks.ld h1).andThen .now) ?_)
      rw [h2, if_neg (by first | decide | simp)]
      refine wpAny_bind (listItems_at h1 h3 (wpAny_pure ?_))
      refine wpAny_bind (firsts_tups vs ds (Q := fun bs s' => wpAny (model prog w) A (pure (us[0]? :: bs)) Q E s') t (fun d hd => ht d (List.mem_cons_of_mem _ hd)) fun fs _ => wpAny_pure (h _ fun r e => ⟨fs, ?_⟩))
      injection e with e1 e2
      injection e1 with e1
      subst e1
      have : us.toList = [] := by
        cases q : us.toList with
        | nil => rfl
        | cons z zs =>
          rw [q] at h4
          cases h4
      have : us = #[] := by
        rw [← Array.toArray_toList (xs := us), this]
      subst this
      rfl
theorem kind_tups {vs : List Value} {ds : List PyData} {Q : SortKind → Shared → Prop} (e : EachIs (fun v d => ∃ as, Reads s.heap v d as) vs ds) (ht : ∀ d ∈ ds, ∃ xs, d = .tuple xs) (h0 : ∃ r, ds = .tuple [] :: r) (h : Q oneType' s) :
    wpAny (model prog w) A (keyKind' vs.toArray) Q E s := by
  obtain ⟨r, rfl⟩ := h0
  rw [keyKind'_eq, List.mapM_toArray, map_eq_pure_bind]
  refine wpAny_bind (wpAny_bind (firsts_tups vs _ e ht fun fs hfs => wpAny_pure ?_))
  obtain ⟨fr, rfl⟩ := hfs r rfl
  rw [if_neg (by simp), if_neg (by simp)]
  have hT : ∀ v ∈ vs, Looks (model prog w) s.heap (typeOf v) (.type "tuple") := fun v hv => by
    obtain ⟨d, hd, as, q⟩ := e.left v hv
    obtain ⟨xs, rfl⟩ := ht d hd
    exact looks_reads q
  rw [oneTypeOnly'_eq, List.mapM_toArray, map_eq_pure_bind]
  refine wpAny_bind (wpAny_bind (wpAny_bind (kas_mapM (r := Value.type "tuple") _ (fun v hv Q' hq => (hT v hv).here hq) (wpAny_pure ?_))))
  cases e with
  | @cons v _ vs' _ q t =>
    have hall : ((List.map (fun _ => Value.type "tuple") (v :: vs')).toArray.all fun x => x == Value.type "tuple") = true := by
      simp only [List.all_toArray, List.all_map, List.all_eq_true]
      intro _ _
      rfl
    have h0 : (List.map (fun _ => Value.type "tuple") (v :: vs')).toArray[0]? = some (Value.type "tuple") := by simp
    rw [h0]
    simp only [hall, if_true]
    exact wpAny_pure (wpAny_pure h)
theorem sortsAt_tups {vs : List Value} {ds : List PyData} (e : EachIs (fun v d => ∃ as, Reads s.heap v d as) vs ds) (hal : AllAlike ds) (ht : ∀ d ∈ ds, ∃ xs, d = .tuple xs) (h0 : ∃ r, ds = .tuple [] :: r) (hu : ∀ d, d ∈ ds → A.units + d.depth < cLine) : SortsAt prog w A s (dataKind s.heap ds) vs := by
  refine ⟨fun v hv => ?_, oneType', ?_, fun h2 E Q hq => kind_tups e ht h0 hq⟩
  · obtain ⟨d, hd, as, r⟩ := e.left v hv
    exact ⟨_, dataKind_some hal hd r⟩
  · intro E x y a b Q ha hb hq
    obtain ⟨d, as, hd, ra, rfl⟩ := dataKind_inv ha
    obtain ⟨d', as', hd', rb, rfl⟩ := dataKind_inv hb
    rw [keyLt'_oneType]
    have al := hal d hd d' hd'
    have room : A.units + min d.depth d'.depth < cLine := Nat.lt_of_le_of_lt (Nat.add_le_add_left (Nat.min_le_left _ _) _) (hu d hd)
    obtain ⟨xs, rfl⟩ := ht d hd
    obtain ⟨ys, rfl⟩ := ht d' hd'
    exact oneLt_tup ra rb al room hq
end
/-- tuples of whole numbers, each with its place -/
abbrev Ixs := Addr × List Int
def ixD (c : Ixs) : PyData := .tuple (c.2.map PyData.int)
def ixLe (a b : Ixs) : Bool := decide (a.2 ≤ b.2)
theorem ixLe_data : dataLe false ixD = ixLe := by
  funext a b
  show (!dataLt (ixD b) (ixD a)) = decide (a.2 ≤ b.2)
  have e : dataLt (ixD b) (ixD a) = decide (b.2 < a.2) := by
    unfold ixD
    rw [dataLt_tuple]
    exact dataLt_ints b.2 a.2
  rw [e]
  by_cases h : b.2 < a.2
  · have h' : ¬ a.2 ≤ b.2 := fun q => List.not_lt.mpr q h
    simp [h, h']
  · have h' : a.2 ≤ b.2 := List.not_lt.mp h
    simp [h, h']
def rSortedT (K : PySem.W.Frag) : List V → Hp → VK → Prop := fun vs H Q => ∃ (a : Addr) (cs : List Ixs), vs = [.ref a] ∧ SqL K H a (cs.map fun c => V.ref c.1) ∧ (∀ c ∈ cs, H c.1 = some (.tup (c.2.map V.int))) ∧ (∃ t r, cs = (t, []) :: r) ∧
  ∀ p, H p = none → Q (.ref p) (upd H p (.lst ((cs.mergeSort ixLe).map fun c => V.ref c.1)))
theorem dp_ints {K : PySem.W.Frag} {H : Hp} : ∀ ns : List Int, DpAll K H (ns.map V.int) (ns.map PyData.int)
  | [] => .nil
  | n :: r => .cons (.int n) (dp_ints r)
theorem each_ref : ∀ {cs : List Ixs} {its : List Value}, Vals (cs.map fun c => V.ref c.1) its → EachIs (fun v c => v = Value.ref c.1) its cs
  | [], _, r => by
    cases r
    exact .nil
  | c :: cs, _, r => by
    rw [List.map_cons] at r
    cases r with
    | cons r1 r2 => exact .cons r1 (each_ref r2)
theorem ref_each : ∀ {cs : List Ixs} {its : List Value}, EachIs (fun v c => v = Value.ref c.1) its cs → Vals (cs.map fun c => V.ref c.1) its
  | _, _, .nil => .nil
  | _, _, .cons h t => .cons h (ref_each t)
theorem depth_ints : ∀ ns : List Int, PyData.depthAll (ns.map PyData.int) ≤ 1
  | [] => by simp [PyData.depthAll]
  | z :: r => by
    have := depth_ints r
    simp only [List.map_cons, PyData.depthAll, PyData.depth]
    omega
theorem cr_sortedT {X : Cx} (hu : X.A.units + 64 < cLine) : CallR X (.builtin "sorted") (rSortedT X.K) := by
  intro pins s σ H vs us Q I r h
  obtain ⟨a, cs, rfl, hs, hc, ⟨t0, r0, e0⟩, q⟩ := h
  rw [Vals.ref1 r]
  obtain ⟨its, rv, hl, hz⟩ := I.list hs
  have e := each_ref rv
  have len : cs.length ≤ sizeLine := by
    rw [List.length_map] at hz
    exact hz
  have er : EachIs (fun v b => ∃ as, Reads s.heap v (ixD b) as) its cs := (each_mem e).mono fun v c ⟨ev, hm⟩ => by
    subst ev
    exact Dp.reads I _ (.ref c.1) _ (.tup (.inl (.inl (hc c hm))) (dp_ints _)) rfl
  have er' : EachIs (fun v b => ∃ as, Reads (sortingHeap (copyHeap s.heap its) (s.heap.objs.size + 1) its) v (ixD b) as) its cs := er.mono fun _ _ ⟨as, r⟩ => ⟨as, PyProof.Rows.Reads.keeps (fun _ _ => sorting_copy_old) r⟩
  have hal : AllAlike (cs.map ixD) := AllAlike.of fun b b' => by
    unfold ixD
    simp only [alike]
    exact alike_ints b.2 b'.2
  refine sorted_vals hl.isList (sortsAt_tups (s := { s with heap := sortingHeap (copyHeap s.heap its) (s.heap.objs.size + 1) its }) (each_map (R := fun v d => ∃ as, Reads (sortingHeap (copyHeap s.heap its) (s.heap.objs.size + 1) its) v d as) ixD er') hal (fun d hd => ?_) ⟨r0.map ixD, by rw [e0]; rfl⟩ (fun d hd => ?_)) (by rw [e.length]; exact len) ?_
  · obtain ⟨c, _, rfl⟩ := List.mem_map.mp hd
    exact ⟨_, rfl⟩
  · obtain ⟨c, _, rfl⟩ := List.mem_map.mp hd
    have h1 : X.A.in1.in1.units = X.A.units + 2 := rfl
    have h2 := depth_ints c.2
    have h3 : PyData.depth (ixD c) ≤ 10 := by
      unfold ixD
      simp only [PyData.depth]
      omega
    rw [h1]
    omega
  · have eo := sortVals_data false e er' hal
    rw [ixLe_data] at eo
    have ho : (sortVals (dataKind (sortingHeap (copyHeap s.heap its) (s.heap.objs.size + 1) its) (cs.map ixD)) false its its).length = its.length := sortVals_length false rfl
    obtain ⟨ep, he'⟩ := PyProof.Rows.sortedAll_at s.heap its (sortVals (dataKind (sortingHeap (copyHeap s.heap its) (s.heap.objs.size + 1) its) (cs.map ixD)) false its its).toArray
    have hlen : ((cs.mergeSort ixLe).map fun c => V.ref c.1).length ≤ sizeLine := by rw [List.length_map, List.length_mergeSort]; exact len
    exact ⟨.ref _, upd H (s.heap.objs.size + 1) (.lst ((cs.mergeSort ixLe).map fun c => V.ref c.1)), I.laid (t' := s.toks) (fun _ _ => PyProof.Rows.sortedAll_old) (Nat.le_succ _) ⟨hlen, _, ep, ref_each eo, he'⟩, rfl, q _ (I.hok.fresh (Nat.le_succ _))⟩
end LkS
set_option Elab.async false
set_option linter.all false
set_option maxRecDepth 100000
set_option maxHeartbeats 4000000
/-! sorted(xs, key=lambda a: body): the lambda of one parameter, made and called. -/
namespace LkS
open PySem PySem.Spec PyProof.Rows L2 TxS LkO Lk LkG LamX
/-- one parameter a, else captured names and globals -/
structure LamS1 (sc : Scope) (N : List Str) (scope : Scope) (a : Str) : Prop where
  kind : scope.kind = .function
  co : scope.isCoroutine = false
  gen : scope.isGenerator = false
  par : scope.names.lookup a = some .local
  own : ∀ y ∈ scope.names, y.2 = .local → y.1 = a
  cel : ∀ y ∈ scope.names, y.2 ≠ .cell
  free : ∀ y ∈ scope.names, y.2 = .free → sc.names.lookup y.1 = some .cell ∨ sc.names.lookup y.1 = some .free
  new : a ∉ N
theorem LamS1.has {X : Cx} {scope : Scope} {a : Str} (L : LamS1 X.env.scope X.N scope a) (ok : X.Ok) : ∀ y ∈ scope.names, y.2 = .free → ∃ c, X.env.cells.lookup y.1 = some c := fun y hy e => by
  rcases L.free y hy e with k | k
  · exact ok.has _ (.inl k)
  · exact ok.has _ (.inr k)
/-- the context of the lambda's body -/
def lamCx1 (X : Cx) (A : Around) (outer : List Env) (s : Shared) (H : Hp) (scope : Scope) (f c' : Addr) (a : Str) : Cx where
  prog := X.prog
  w := X.w
  K := X.K
  mg := X.mg
  base := X.base
  A := A.deeper (lamEnv X scope s.heap.objs.size f c')
  N := X.N ++ [a]
  s_0 := s
  H_0 := H
  env := lamEnv X scope s.heap.objs.size f c'
  outer := outer
  stack := lamEnv X scope s.heap.objs.size f c' :: outer
  ex := []
  fn := fun _ => false
  calm := true
  pn := []
  xe := fun _ _ => False
section
variable {X : Cx} {pins : List (Addr × Obj)} {σ : L2.St} {H HZ : Hp} {s s1 : Shared}
theorem lam_start1 {A : Around} {outer : List Env} {scope : Scope} {f c' : Addr} {h₁ : Heap} {tk : Nat} {a : Str} {x : V} {u : Value} (I : Inv X pins σ H s) (L : LamS1 X.env.scope X.N scope a) (e0 : Env0 X.prog X.w X.K X.mg X.base A outer s HZ) (hd : A.handled = none) (hH : HZ = H)
    (hns : h₁.Ns s.heap.objs.size fun y => ([(a, u)] : List (Str × Value)).reverse.lookup y) (kp : ∀ b o, s.heap.get? b = some o → h₁.get? b = some o) (rx : RelV x u) :
    Inv (lamCx1 X A outer s HZ scope f c' a) [] (σ ++ [some x]) HZ { s with heap := h₁, toks := tk } := by
  subst hH
  have hfree := L.has I.ok
  have cm : ∀ {y c}, (cloFrom X.env.cells scope.names []).lookup y = some c → X.env.cells.lookup y = some c := fun {y c} e => by
    rcases cloFrom_mem (PySem.mem_of_lookup e) with hm | ⟨h1, h2⟩
    · cases hm
    · obtain ⟨c1, hc⟩ := hfree _ h1 rfl
      have hc : X.env.cells.lookup y = some c1 := hc
      have e2 : c = c1 := by
        rw [h2, hc] <;> rfl
      rw [e2]
      exact hc
  have look : ∀ {y}, scope.names.lookup y = some .free → ∃ c, (cloFrom X.env.cells scope.names []).lookup y = some c := fun {y} hl => by
    have hy : (y, NameKind.free) ∈ scope.names := PySem.mem_of_lookup hl
    exact mem_lookup (cloFrom_has (cells := X.env.cells) (acc := []) hy)
  have cellK : ∀ {c : Addr} {v : Option Value}, s.heap.IsCell c v → h₁.IsCell c v := fun {c v} ⟨o, ho, hd⟩ => ⟨_, kp _ _ ho, hd⟩
  have noA : ∀ b : Addr, b ∉ (lamCx1 X A outer s HZ scope f c' a).ex := fun b z => absurd (show b ∈ ([] : List Addr) from z) (by simp)
  have len : σ.length = X.N.length := I.len
  refine ⟨⟨e0.mod, L.kind, rfl, rfl, Nat.le_refl _, fun y z c e1 e2 => I.ok.inj y z c (cm e1) (cm e2), fun y hy => ?_, fun y c z _ => ?_, fun _ => hd, Around.frames_deeper e0.frames, .inr ⟨rfl, rfl⟩, fun b z => absurd z (noA b), e0.bs, e0.bsz, fun b _ _ => noA b,
      fun b z => absurd z (noA b), e0.funs, e0.frf⟩,
    rfl, e0.bare, Un.kept kp, ⟨_, hns, fun i y v e1 e2 e3 => ?_⟩, fun y c e => ?_, e0.hok.fresh (Nat.le_refl _), fun y c e => ?_, fun q hq => absurd (show q ∈ ([] : List (Addr × Obj)) ++ [] from hq) (by simp), e0.hok.kept kp, ?_⟩
  · have hy : scope.names.lookup y = some .cell ∨ scope.names.lookup y = some .free := hy
    rcases hy with hy | hy
    · exact absurd rfl (L.cel _ (PySem.mem_of_lookup hy))
    · exact look hy
  · have z : false = true := z
    cases z
  · have e1 : (X.N ++ [a])[i]? = some y := e1
    have e3 : Vis scope y := e3
    by_cases hi : i < X.N.length
    · rw [List.getElem?_append_left hi] at e1
      rw [List.getElem?_append_left (by rw [len]; exact hi)] at e2
      have ny : y ≠ a := fun z => L.new (by rw [← z]; exact List.mem_of_getElem? e1)
      rcases e3 with k | k | k
      · exact absurd (L.own _ (PySem.mem_of_lookup k) rfl) ny
      · exact absurd rfl (L.cel _ (PySem.mem_of_lookup k))
      · obtain ⟨m, hn, hl⟩ := I.loc
        have hvis : Vis X.env.scope y := (L.free _ (PySem.mem_of_lookup k) rfl).elim (fun k => .inr (.inl k)) (fun k => .inr (.inr k))
        obtain ⟨w', r, q⟩ := hl i y v e1 e2 hvis
        obtain ⟨c2, h2⟩ := look k
        refine ⟨w', r, .inr ⟨.inr k, c2, h2, ?_⟩⟩
        have c1 := cm h2
        rcases q with ⟨k', _⟩ | ⟨_, c3, e', z⟩
        · have k' : X.env.scope.names.lookup y = some .local := k'
          rcases L.free _ (PySem.mem_of_lookup k) rfl with k2 | k2 <;> rw [show X.env.scope.names.lookup y = _ from k2] at k' <;> cases k'
        · rw [c1] at e'
          cases e'
          exact cellK z
    · have hi' : X.N.length ≤ i := Nat.le_of_not_lt hi
      rw [List.getElem?_append_right hi'] at e1
      rw [List.getElem?_append_right (by rw [len]; exact hi'), len] at e2
      have hz : i - X.N.length = 0 := by
        have := (List.getElem?_eq_some_iff.mp e1).1
        simp at this
        omega
      rw [hz] at e1 e2
      simp at e1 e2
      subst e1
      subst e2
      refine ⟨u, rx, .inl ⟨L.par, ?_⟩⟩
      simp
  · obtain ⟨w', z⟩ := I.cell y c (cm e)
    exact ⟨w', cellK z⟩
  · exact I.freeC y c (cm e)
  · show (σ ++ [some x]).length = (X.N ++ [a]).length
    rw [List.length_append, List.length_append, len]
    rfl
/-- f(u), f the lambda -/
theorem lam_call1 {k : Nat} {f c' : Addr} {pm ctv : Value} {params : Arguments} {body : Expr} {scope : Scope} {a : Str} {tb : TE} {x : V} {u : Value} {Q : VK} (I : Inv X pins σ H s) (L : LamS1 X.env.scope X.N scope a)
    (hf : s.heap.get? f = some (PySem.W.kla_obj "<lambda>" (X.env.qual ++ "<lambda>") params body scope (cloFrom X.env.cells scope.names []) pm c' ctv)) (hc : H c' = some (CodeO c' (X.env.qual ++ "<lambda>")))
    (hbind : ∀ u, bindArgs (PySem.W.kla_fn "<lambda>" (X.env.qual ++ "<lambda>") params body scope (cloFrom X.env.cells scope.names []) pm (.ref c') ctv) ⟨[u], []⟩ = pure [(a, u)]) (hr : Room (k + 1) X.A.in1.in1) (rx : RelV x u)
    (hbody : ∀ (A : Around) (outer : List Env) (s : Shared) (H : Hp), Room k (A.deeper (lamEnv X scope s.heap.objs.size f c')) → PE (lamCx1 X A outer s H scope f c' a) body tb) (ht : tb (σ ++ [some x]) H Q) :
    wpAny (model X.prog X.w) X.A.in1.in1 (call (.ref f) [u]) (EP X pins σ Q) (fun _ _ => False) s := by
  have e0 : Env0 X.prog X.w X.K X.mg X.base X.A.in1.in1 X.stack s H := I.env0.in1.in1
  obtain ⟨⟨oc, vs, t, hoc, hdc, hvc⟩, _, _⟩ := I.hok c' _ hc
  have rc : codeAny (model X.prog X.w) X.A.in1.in1 (.call (.ref f) ⟨[u], []⟩) (CR CX0 X.stack X.prog X.w H s Q E0) s := by
    refine PySem.W.kla_callFunE hr.depth hf rfl L.co L.gen rfl ⟨c', oc, vs, t, rfl, hoc, hdc, hvc⟩ ?_
    rw [hbind]
    refine wpAny_pure (wpAny_newFunctionEnv (fun y hy => L.cel y hy) (fun y hy => ?_) (fun h₁ hns hsb => ⟨I.nolimit.fresh _ hsb, ?_⟩) L.kind)
    · simp only [List.mem_cons, List.not_mem_nil, or_false] at hy
      subst hy
      exact L.par
    · show codeAny _ _ (.expr body (lamEnv X scope s.heap.objs.size f c')) _ _
      have kp : ∀ b o, s.heap.get? b = some o → h₁.get? b = some o := fun b o e => hsb.extBut b o (Nat.ne_of_lt (Heap.lt_size e)) (Heap.get?_push_of_some _ e)
      have J : Inv (lamCx1 X X.A.in1.in1 X.stack s H scope f c' a) [] (σ ++ [some x]) H { s with heap := h₁, toks := s.toks + ([(a, u)] : List (Str × Value)).length } :=
        lam_start1 I L e0 hr.hd rfl hns kp rx
      refine PySem.W.kla_codeExpr (wpAny_mono ((hbody _ _ s H (hr.deeper _)).run [] _ _ H Q J ht) (fun v s' hq => ?_) fun e s' hq => (show False from hq).elim)
      obtain ⟨w', H', J', rv, q⟩ := hq
      exact ⟨w', H', J'.os, J'.bare, J'.base, J'.hok, rv, q⟩
  refine wpAny_call (codeAny_mono rc fun r s' hq => ?_)
  cases r with
  | error e => exact (show False from hq).elim
  | ok fl =>
    cases fl with
    | ret u => exact I.after hq
    | next => exact False.elim hq
    | brk => exact False.elim hq
    | cont => exact False.elim hq
theorem ExtN.seq {K : PySem.W.Frag} {H H' : Hp} {a : Addr} {xs : List V} (e : ExtN H H') (h : SqL K H a xs) : SqL K H' a xs := by
  rcases h with (h | ⟨o, h⟩) | h
  · exact .inl (.inl (e _ _ h fun ps z => by cases z))
  · exact .inl (.inr ⟨o, e _ _ h fun ps z => by cases z⟩)
  · exact .inr h
def tSortKey (K : PySem.W.Frag) (T : List (Addr × Str)) (te tb : TE) : TE := fun σ H Q => te σ H fun v H1 => ∃ (l : Addr) (xs : List V) (key : V → Int), v = .ref l ∧ SqL K H1 l xs ∧ Tabs T H1 ∧
  ∀ H2, ExtN H1 H2 → Tabs T H2 → (∀ x ∈ xs, ∀ H3, Same H2 H3 → tb (σ ++ [some x]) H3 fun v H4 => v = .int (key x) ∧ Same H3 H4) ∧ ∀ H3 p, Same H2 H3 → H3 p = none → Q (.ref p) (upd H3 p (.lst (xs.mergeSort (leBy key))))
theorem pe_sortKey {T : List (Addr × Str)} {c P : Addr} {k : Nat} {params : Arguments} {body e : Expr} {scope : Scope} {a : Str} {tb te : TE} {p pos lpos kpos : Pos} (hg : Gl X "sorted") (hm : X.mg "sorted" = none) (TB : TabB X.base X.mg c P) (hcode : X.env.code = .ref c)
    (hmT : (P, X.env.qual ++ "<lambda>") ∈ T) (hu : ∀ p ∈ T, p.1 = P → p.2 = X.env.qual ++ "<lambda>") (hr : Room (k + 2) X.A) (L : LamS1 X.env.scope X.N scope a) (hdef : defaultsOf params X.env = ([], []))
    (hbind : ∀ (q : Str) (cl : List (Str × Addr)) (pm cv ctv u : Value), bindArgs (PySem.W.kla_fn "<lambda>" q params body scope cl pm cv ctv) ⟨[u], []⟩ = pure [(a, u)])
    (he : PE X e te) (hbody : ∀ (A : Around) (outer : List Env) (s : Shared) (H : Hp) (f c' : Addr), Room k (A.deeper (lamEnv X scope s.heap.objs.size f c')) → PE (lamCx1 X A outer s H scope f c' a) body tb)
    (hst : starEach [e] X.env = (false, eval e X.env) :: starEach [] X.env := by rfl) (hst2 : backTo pos (starEach [e] X.env) = (false, eval e X.env) :: backTo pos (starEach [] X.env) := by rfl) (hpl : (backTo pos (starEach [e] X.env)).any (·.1) = false := by rfl) :
    PE X (.Call (.Name "sorted" p) [e] [⟨some "key", .Lambda params body scope lpos, kpos⟩] pos) (tSortKey X.K T te tb) := by
  refine ⟨fun pins s σ H Q I h => ?_⟩
  refine wpAny_Call_Name_kw (ld_blt I hg hm PyProof.Rows.boot_sorted ?_)
  refine PyProof.Rows.callWith_kw (thn ((pa_cons he pa_nil hst).run pos pins s σ H (fun vs H1 => match vs with
    | [v] => ∃ (l : Addr) (xs : List V) (key : V → Int), v = .ref l ∧ SqL X.K H1 l xs ∧ Tabs T H1 ∧
        ∀ H2, ExtN H1 H2 → Tabs T H2 → (∀ x ∈ xs, ∀ H3, Same H2 H3 → tb (σ ++ [some x]) H3 fun v H4 => v = .int (key x) ∧ Same H3 H4) ∧ ∀ H3 p, Same H2 H3 → H3 p = none → Q (.ref p) (upd H3 p (.lst (xs.mergeSort (leBy key))))
    | _ => False) I h) fun us s1 ⟨vs, H1, I1, r1, q1⟩ => ?_) hst2 hpl
  match vs, r1, q1 with
  | [], _, q1 => exact q1.elim
  | _ :: _ :: _, _, q1 => exact q1.elim
  | [v], r1, q1 =>
    obtain ⟨l, xs, key, rfl, hs, hT, q⟩ := q1
    rw [Vals.ref1 r1]
    show wpAny _ _ (evalAll ((do let v ← eval (.Lambda params body scope lpos) X.env; standAt pos; pure v) :: (backToKw pos (keywordEach [] X.env)).map (·.2))) _ _ s1
    refine wpAny_evalAll_cons (wpAny_bind (lam_make2 I1 TB hcode hmT hu hT hdef (L.has I1.ok) fun f c' pm ctv H2 s2 I2 eN T2 hf hfn hfr hco => wpAny_bind (wpAny_standAt (wpAny_pure (wpAny_evalAll_nil ?_)))))
    obtain ⟨q1, q2⟩ := q H2 eN T2
    have hfL : f ≠ X.env.locals := fun z => by
      obtain ⟨m, ⟨o, es, ep, e, hd, _⟩, _⟩ := I2.loc
      rw [← z, hf] at e
      cases e
      cases hd
    have hff : f ∉ X.fs := fun z => hfr (by
      rcases I2.ok.stk with e | ⟨e, _⟩
      · rw [e]; exact z
      · rw [e]
        unfold frs
        rw [List.filterMap_cons]
        split
        · exact z
        · exact List.mem_cons_of_mem _ z)
    have h2 : Room (k + 1) X.A.in1.in1 := ⟨hr.hd, by have := hr.dp; show X.A.depth + 3 * (k + 1) + 5 < _; omega, by have := hr.un; show X.A.units + 2 + 16 * (k + 1) + 200 < _; omega⟩
    have h8 : X.A.units + 8 < cLine := by have := hr.units; omega
    exact sortedKey_run (fq := f) (W := fun H' => Same H2 H') I2 (ExtN.seq eN hs) hf hfn hfL hff (fun v z => by cases z) h8 (Same.refl _)
      (fun x hx u pins' s' H' rx I' w' hf' _ => by
        refine wpAny_mono (lam_call1 (k := k) (Q := fun v H4 => v = .int (key x) ∧ Same H' H4) I' L hf' (w' _ _ hco) (hbind _ _ _ _ _) h2 rx (fun A outer s H hr' => hbody A outer s H f c' hr') (q1 x hx H' w')) (fun v s3 h3 => ?_) fun _ _ z => z
        obtain ⟨v', H4, I4, r4, e4, s4⟩ := h3
        exact ⟨v', H4, I4, r4, e4, w'.trans s4⟩) fun H' p w' n' _ => q2 H' p w' n'
end
end LkS
set_option Elab.async false
set_option linter.all false
set_option maxRecDepth 100000
set_option maxHeartbeats 4000000
/-! What stays while lists change and tables of code grow; comprehensions that make things. -/
namespace Lk
open PySem PySem.Spec PyProof.Rows L2 TxS LkO LkG LamX
def steady (o : HO) : Prop := (∀ xs, o ≠ .lst xs) ∧ ∀ ps, o ≠ .tbl ps
def NX (H H' : Hp) : Prop := ∀ b o, H b = some o → steady o → H' b = some o
theorem NX.refl (H : Hp) : NX H H := fun _ _ e _ => e
theorem NX.of {H H' : Hp} (s : Same H H') : NX H H' := fun b o e _ => s b o e
theorem NX.ofT {H H' : Hp} (s : ExtN H H') : NX H H' := fun b o e n => s b o e n.2
theorem NX.trans {H H1 H2 : Hp} (a : NX H H1) (b : NX H1 H2) : NX H H2 := fun c o e n => b c o (a c o e n) n
theorem NX.put {H : Hp} {d : Addr} {ys : List V} {o : HO} (h : H d = some (.lst ys)) : NX H (upd H d o) := fun b u e n => by
  by_cases z : b = d
  · rw [z, h] at e
    exact absurd (Option.some.inj e).symm (n.1 ys)
  · rw [upd_ne z]
    exact e
theorem NX.new {H : Hp} {d : Addr} {o : HO} (h : H d = none) : NX H (upd H d o) := NX.of (same_new h)
theorem st_tup {xs : List V} : steady (.tup xs) := ⟨fun _ z => (by cases z), fun _ z => (by cases z)⟩
theorem st_ins {C dx : Addr} {fs : List (Str × V)} : steady (.ins C dx fs) := ⟨fun _ z => (by cases z), fun _ z => (by cases z)⟩
theorem st_frz {o : Obj} {u : HO} : steady (.frz o u) := ⟨fun _ z => (by cases z), fun _ z => (by cases z)⟩
theorem st_dK {kvs : List (Key × V)} : steady (.dK kvs) := ⟨fun _ z => (by cases z), fun _ z => (by cases z)⟩
theorem NX.tup {K : PySem.W.Frag} {H H' : Hp} {a : Addr} {xs : List V} (e : NX H H') (h : SqT K H a xs) : SqT K H' a xs := by
  rcases h with (h | ⟨o, h⟩) | h
  · exact .inl (.inl (e _ _ h st_tup))
  · exact .inl (.inr ⟨o, e _ _ h st_frz⟩)
  · exact .inr h
theorem LkAt.nx {C : Addr} {H H' : Hp} {a : Addr} {zs : List Str} (h : LkAt C H a zs) (s : NX H H') : LkAt C H' a zs := by
  obtain ⟨⟨dx, t, h1, h2⟩, h3, h4⟩ := h
  exact ⟨⟨dx, t, s _ _ h1 st_ins, s _ _ h2 st_tup⟩, h3, h4⟩
theorem DoorAt.nx {C x : Addr} {H H' : Hp} {d : DoorD} (h : DoorAt C H x d) (s : NX H H') : DoorAt C H' x d := ⟨h.ob.imp fun _ e => s _ _ e st_ins, h.ok⟩
theorem PersonAt.nx {K : PySem.W.Frag} {C x : Addr} {H H' : Hp} {p : PersonD} (h : PersonAt K C H x p) (s : NX H H') : PersonAt K C H' x p := by
  obtain ⟨⟨dy, t1, t2, t3, e, h1, h2, h3⟩, ok⟩ := h
  exact ⟨⟨dy, t1, t2, t3, s _ _ e st_ins, s.tup h1, s.tup h2, s.tup h3⟩, ok⟩
theorem doorR.nx {C : Addr} {H H' : Hp} (s : NX H H') (v : V) (d : DoorD) (h : doorR C H v d) : doorR C H' v d := let ⟨x, e, a⟩ := h; ⟨x, e, a.nx s⟩
theorem persR.nx {K : PySem.W.Frag} {C : Addr} {H H' : Hp} (s : NX H H') (v : V) (d : PersonD) (h : persR K C H v d) : persR K C H' v d := let ⟨x, e, a⟩ := h; ⟨x, e, a.nx s⟩
theorem BldAt.nx {K : PySem.W.Frag} {CD CP CB : Addr} {H H' : Hp} {x : Addr} {b : BldD} (h : BldAt K CD CP CB H x b) (s : NX H H') : BldAt K CD CP CB H' x b := by
  obtain ⟨⟨dx, r, k, dn, dd, pn, pd, ok, od, op, kvs, ds, ps, i⟩, hok⟩ := h
  exact ⟨⟨dx, r, k, dn, dd, pn, pd, ok, od, op, kvs, ds, ps, s _ _ i.ob st_ins, s.tup i.rooms, s _ _ i.keys st_frz, i.keysT, s.tup i.dn, s _ _ i.doors st_frz, i.doorsT.mono (doorR.nx s), s.tup i.pn, s _ _ i.people st_frz, i.peopleT.mono (persR.nx s)⟩, hok⟩
theorem paired_map {α β : Type} {R S : α → β → Prop} (h : ∀ a b, R a b → S a b) : ∀ {l : List α} {m : List β}, Paired R l m → Paired S l m
  | _, _, .nil => .nil
  | _, _, .cons r t => .cons (h _ _ r) (paired_map h t)
theorem paired_snoc {α β : Type} {R : α → β → Prop} {a : α} {b : β} (h : R a b) : ∀ {l : List α} {m : List β}, Paired R l m → Paired R (l ++ [a]) (m ++ [b])
  | _, _, .nil => .cons h .nil
  | _, _, .cons r t => .cons r (paired_snoc h t)
theorem paired_at {α β : Type} {R : α → β → Prop} : ∀ {l : List α} {m : List β}, Paired R l m → ∀ {i : Nat} {a : α}, l[i]? = some a → ∃ b, m[i]? = some b ∧ R a b
  | _, _, .nil, i, a, h => by simp at h
  | _, _, .cons r t, 0, a, h => by
    simp only [List.getElem?_cons_zero, Option.some.injEq] at h
    subst h
    exact ⟨_, rfl, r⟩
  | _, _, .cons r t, i + 1, a, h => by
    simp only [List.getElem?_cons_succ] at h ⊢
    exact paired_at t h
/-- [e for x in .. if p(x)]: what a turn makes is told by R, which lists' changes leave alone -/
theorem lc_R {J : It} {n : Nat} {G : Hp → Prop} {Y : Nat → Hp → V → Hp → Prop} (w : Walk J n G Y) {g : TG} {tt : TT} {te : TE} {vs : List Nat} {σ : L2.St} {H1 : Hp} {D : Addr} {Qd : Hp → Prop} {α : Type} (l : List α) (p : α → Bool) (R : Hp → α → V → Prop) (hR : ∀ H H' a v, NX H H' → R H a v → R H' a v)
    (hn : n = l.length) (nD : H1 D = none) (few : l.length ≤ 1000) (hG : ∀ H', Same H1 H' → G H')
    (hs : ∀ i a x H2 H' (Kt : VK) (Kf : Hp → Prop), l[i]? = some a → Same H1 H2 → Y i H2 x H' → (p a = true → ∀ H5 v, Same H2 H5 → R H5 a v → Kt v H5) → (p a = false → ∀ H5, Same H2 H5 → Kf H5) →
      g x (wipe σ vs) H' fun σ2 H3 => wipe σ2 vs = wipe σ vs ∧ tt σ2 H3 fun b H4 => if b = true then te σ2 H4 Kt else Kf H4)
    (hd : ∀ H2 xs, Same H1 H2 → H2 D = some (.lst xs) → Paired (R H2) (l.filter p) xs → Qd H2) :
    ∃ W : Nat → Nat → Hp → Prop, (∃ m, W 0 m (upd H1 D (.lst []))) ∧ ∀ i m H, W i m H → (J.stop i H ∧ Qd H) ∨ (J.go i H ∧ ∃ Nx : Hp → Prop, (∀ H', Nx H' → ∃ m', m' < m ∧ W (i + 1) m' H') ∧
      ∀ x H', J.yld i H x H' → g x (wipe σ vs) H' fun σ2 H2 => wipe σ2 vs = wipe σ vs ∧ tt σ2 H2 fun b H3 => if b = true then te σ2 H3 fun y H4 => ∃ acc, H4 D = some (.lst acc) ∧ acc.length < sizeLine ∧ Nx (upd H4 D (.lst (acc ++ [y]))) else Nx H3) := by
  refine lc_it w (fun i H' => ∃ xs, Paired (R H') ((l.take i).filter p) xs ∧ Grow H1 D xs H') ⟨[], .nil, grow0 nD⟩ (fun i H' _ hP => by obtain ⟨_, _, g⟩ := hP; exact hG H' g.1) (fun i x H2 H3 hi hP hY => ?_) (fun H2 hP => ?_)
  · obtain ⟨xs, pr, gr⟩ := hP
    have hl : i < l.length := hn ▸ hi
    have ha : l[i]? = some l[i] := List.getElem?_eq_getElem hl
    refine hs i l[i] x H2 H3 _ _ ha gr.1 hY (fun e H5 v s5 r5 => ?_) fun e H5 s5 => ?_
    · have eD := s5 _ _ gr.2
      have lx : xs.length < sizeLine := by
        rw [← Paired.length pr]
        refine Nat.lt_of_le_of_lt (Nat.le_trans (List.length_filter_le _ _) ?_) (small1000 few)
        rw [List.length_take]
        exact Nat.min_le_right _ _
      refine ⟨xs, eD, lx, xs ++ [v], ?_, Same.up (gr.1.trans s5) nD, by rw [upd_same]⟩
      rw [take_next1 ha, List.filter_append, List.filter_cons, if_pos e]
      exact paired_snoc (hR _ _ _ _ (NX.put eD) r5) (paired_map (fun a v r => hR _ _ _ _ ((NX.of s5).trans (NX.put eD)) r) pr)
    · refine ⟨xs, ?_, gr.more s5⟩
      rw [show (l.take (i + 1)).filter p = (l.take i).filter p from by rw [take_next1 ha, List.filter_append, List.filter_cons, if_neg (by rw [e]; exact Bool.false_ne_true)]; exact List.append_nil _]
      exact paired_map (fun a v r => hR _ _ _ _ (NX.of s5) r) pr
  · obtain ⟨xs, pr, sm, e⟩ := hP
    rw [hn, List.take_length] at pr
    exact hd H2 xs sm e pr
end Lk
set_option Elab.async false
set_option linter.all false
set_option maxRecDepth 100000
set_option maxHeartbeats 4000000
namespace Lk
open PySem PySem.Spec PyProof.Rows L2 TxS LkO LkG LamX LkS
theorem Fun.okC {P : Program} {w : World} {K : PySem.W.Frag} {mg : Str → Option Value} {base : Heap} {x qual : Str} {st : Stmt} {f c : Addr} {fd : FuncData} {N ps : List Str} {k : Nat} {sp : Sp} (F : Fun K x qual st f fd) (hc : fd.code = .ref c) (S : FnScope N ps (defScope st)) (len : ∀ vs H Q E, sp vs H Q E → vs.length = ps.length)
    (hbody : ∀ (A : Around) (outer : List Env) (s : Shared) (H : Hp) (vs : List V) (Q : VK) (E : XK), Room k (A.deeper (envOfC qual (defScope st) s.heap.objs.size f (.ref c))) → sp vs H Q E →
      ∃ t, PSs (cxOf CX0 P w K mg base N qual (defScope st) f (.ref c) A outer s H E).nox (defBody st) t ∧ t { nx := fun _ H' => Q .non H', rt := Q } (L2.start N vs) H) : FnOk P w K mg base CX0 (k + 1) f fd ps sp := by
  obtain ⟨oc, od, kV, doc, pm, an, cdv, ct, osl, rfl, lk, hcd⟩ := F.ex
  have e : cdv = .ref c := hc
  subst e
  refine fn_of lk hcd S len fun A outer s H vs Q E hr hsp => ?_
  obtain ⟨t, h, q⟩ := hbody A outer s H vs Q E hr hsp
  exact ⟨t, h.nox, q⟩
/-- all choices of the first n indices, as they are made -/
def choicesN : Nat → List (List Int)
  | 0 => [[]]
  | n + 1 => choicesN n ++ (choicesN n).map (· ++ [(n : Int)])
theorem choices_len : ∀ n, (choicesN n).length = 2 ^ n
  | 0 => rfl
  | n + 1 => by
    simp only [choicesN, List.length_append, List.length_map, choices_len n, Nat.pow_succ]
    omega
theorem choices_nil : ∀ n, ∃ r, choicesN n = [] :: r
  | 0 => ⟨[], rfl⟩
  | n + 1 => by
    obtain ⟨r, e⟩ := choices_nil n
    exact ⟨_, by unfold choicesN; rw [e]; rfl⟩
theorem choices_in : ∀ n, ∀ c ∈ choicesN n, ∀ i ∈ c, ∃ j : Nat, i = (j : Int) ∧ j < n
  | 0, c, hc, i, hi => by
    simp only [choicesN, List.mem_singleton] at hc
    subst hc
    cases hi
  | n + 1, c, hc, i, hi => by
    simp only [choicesN, List.mem_append, List.mem_map] at hc
    rcases hc with hc | ⟨d, hd, rfl⟩
    · obtain ⟨j, e, l⟩ := choices_in n c hc i hi
      exact ⟨j, e, by omega⟩
    · rcases List.mem_append.mp hi with hi | hi
      · obtain ⟨j, e, l⟩ := choices_in n d hd i hi
        exact ⟨j, e, by omega⟩
      · exact ⟨n, List.mem_singleton.mp hi, by omega⟩
theorem choices_few : ∀ n, ∀ c ∈ choicesN n, c.length ≤ n
  | 0, c, hc => by
    simp only [choicesN, List.mem_singleton] at hc
    subst hc
    exact Nat.le_refl _
  | n + 1, c, hc => by
    simp only [choicesN, List.mem_append, List.mem_map] at hc
    rcases hc with hc | ⟨d, hd, rfl⟩
    · exact Nat.le_succ_of_le (choices_few n c hc)
    · rw [List.length_append]
      exact Nat.succ_le_succ (choices_few n d hd)
def leI (a b : List Int) : Bool := decide (a ≤ b)
/-- the names at some indices -/
def pickN (ns : List Str) (c : List Int) : List Str := c.map fun i => (ns[i.toNat]?).getD ⟨#[]⟩
/-- all sets of doors (their names in the order of the alphabet), by their indices, then by their prices -/
def byIx (b : BldD) : List (List Str) := ((choicesN b.doors.length).mergeSort leI).map fun c => srt (pickN (b.doors.map (·.1)) c)
def byPrice (b : BldD) : List (List Str) := (byIx b).mergeSort (leBy (priceOf b))
theorem paired_refs {α β : Type} {S : Addr → β → Prop} {g : α → β} : ∀ {l : List α} {xs : List V}, Paired (fun a v => ∃ t, v = V.ref t ∧ S t (g a)) l xs → ∃ ps : List (Addr × β), xs = ps.map (fun p => V.ref p.1) ∧ ps.map (·.2) = l.map g ∧ ∀ p ∈ ps, S p.1 p.2
  | _, _, .nil => ⟨[], rfl, rfl, fun _ h => by cases h⟩
  | _, _, .cons (a := a) ⟨t, e, h⟩ r => by
    obtain ⟨ps, e1, e2, e3⟩ := paired_refs r
    refine ⟨(t, g a) :: ps, by rw [e, e1]; rfl, by rw [List.map_cons, List.map_cons, e2], fun p hp => ?_⟩
    rcases List.mem_cons.mp hp with z | z
    · rw [z]
      exact h
    · exact e3 p z
theorem cat_v {K : PySem.W.Frag} {H : Hp} {tl p1 : Addr} {xs ys : List V} {C : VK} (h1 : H tl = some (.tup xs)) (h2 : H p1 = some (.tup ys)) (few : xs.length + ys.length ≤ 1000) (h : ∀ H' t, Same H H' → H' t = some (.tup (xs ++ ys)) → C (.ref t) H') : rCatA K (.ref tl) (.ref p1) H C := by
  refine ⟨tl, p1, xs, ys, rfl, rfl, .inl (.inl h1), .inl (.inl h2), by rw [sizeLine_eq]; omega, fun e => ?_, fun _ e => ?_, fun _ _ p np => h _ _ (same_new np) upd_same⟩
  · subst e
    exact h _ _ (Same.refl _) h2
  · subst e
    rw [List.append_nil] at h
    exact h _ _ (Same.refl _) h1
theorem vstr_inj : ∀ {zs ws : List Str}, zs.map V.str = ws.map V.str → zs = ws
  | [], [], _ => rfl
  | [], _ :: _, h => by cases h
  | _ :: _, [], h => by cases h
  | z :: zs, w :: ws, h => by
    rw [List.map_cons, List.map_cons] at h
    injection h with h1 h2
    injection h1 with h1
    rw [h1, vstr_inj h2]
theorem LkAt.inj {C : Addr} {H : Hp} {a : Addr} {zs ws : List Str} (h : LkAt C H a zs) (k : LkAt C H a ws) : zs = ws := by
  obtain ⟨⟨dx, t, h1, h2⟩, _, _⟩ := h
  obtain ⟨⟨dy, u, k1, k2⟩, _, _⟩ := k
  rw [h1] at k1
  cases k1
  rw [h2] at k2
  have e := Option.some.inj k2
  injection e with e
  exact vstr_inj e
/-- a key by the place of a thing -/
def keyAt (zs : List (Addr × List Str)) (f : List Str → Int) (v : V) : Int := match zs.find? fun z => decide (v = V.ref z.1) with
  | some z => f z.2
  | none => 0
theorem keyAt_at {C : Addr} {H : Hp} {zs : List (Addr × List Str)} {f : List Str → Int} (h : ∀ z ∈ zs, LkAt C H z.1 z.2) {z : Addr × List Str} (hz : z ∈ zs) : keyAt zs f (V.ref z.1) = f z.2 := by
  unfold keyAt
  cases e : zs.find? fun y => decide (V.ref z.1 = V.ref y.1) with
  | none =>
    have := List.find?_eq_none.mp e z hz
    simp at this
  | some y =>
    have h1 := List.find?_some e
    have h2 := List.mem_of_find?_eq_some e
    have h3 : z.1 = y.1 := by
      have := of_decide_eq_true h1
      injection this
    show f y.2 = f z.2
    have a1 := h z hz
    rw [h3] at a1
    rw [a1.inj (h y h2)]
structure MkLt (P : Program) (w : World) (K : PySem.W.Frag) (mg : Str → Option Value) (base : Heap) (C : Addr) : Prop where
  ex : ∃ f, Mk K C f ∧ FnR P w K mg base CX0 2 f (spNew C)
section
variable {P : Program} {w : World} {K : PySem.W.Frag} {mg : Str → Option Value} {base : Heap} {CD CP CB CL : Addr}
/-! ### locks_at -/
def spLksAt (K : PySem.W.Frag) (CL : Addr) : Sp := fun vs H Q _ => ∃ (l t : Addr) (ns : List Str) (c : List Int), vs = [.ref l, .ref t] ∧ SqL K H l (ns.map V.str) ∧ SqT K H t (c.map V.int) ∧ c.length ≤ 8 ∧ (∀ i ∈ c, ∃ j : Nat, i = (j : Int) ∧ j < ns.length) ∧ (∀ z ∈ ns, isNm z = true) ∧
  ∀ H' z, Same H H' → LkAt CL H' z (srt (pickN ns c)) → Q (.ref z) H'
abbrev nLksAt : List Str := ["doors", "indices", "names", "at"]
theorem scLksAt : FnScope nLksAt ["doors", "indices"] (defScope s_locks_at) := ⟨rfl, rfl, rfl, by decide +kernel, rfl, by decide +kernel, by decide +kernel⟩
theorem ok_lksAt {f : Addr} {fd : FuncData} (F : Fun K "locks_at" "locks_at" s_locks_at f fd) (TL : LkC K mg CL) (ML : MkLt P w K mg base CL) : FnOk P w K mg base CX0 4 f fd ["doors", "indices"] (spLksAt K CL) := by
  obtain ⟨fI, M, GI⟩ := ML.ex
  refine F.ok scLksAt (fun vs H Q E h => ?_) (fun cdv A outer s H vs Q E hr h => ?_)
  · obtain ⟨l, t, ns, c, rfl, _⟩ := h
    rfl
  · obtain ⟨l, t, ns, c, rfl, hl, ht, few, ix, nm, q⟩ := h
    have hr3 := hr
    refine ⟨_, (pss_cons (ps_setLc (i := 2) (own := [("at", 3)]) (g := (gName 3)) (tt := tYes) (te := (tOp (rIxL K) (tVar 0) (tVar 3))) rfl scLksAt.nd rfl rfl (sw_true rfl rfl rfl (by decide +kernel)) (pi_tup (pv 1)) (blkOk_by (N := nLksAt) (sc := defScope s_locks_at) (by decide +kernel)) (fun _ _ _ _ _ => (pg_name (i := 3) scLksAt.nd rfl (Or.inl rfl))) (fun _ _ _ _ _ => pts_nil) (fun _ _ _ _ _ => (pe_ix ix_list (pv 0) (pv 3) (fun _ _ => rfl))))
      (pss_one (ps_ret (pe_makeS (E := E0) M GI hr3 (by rfl) TL.mgC pass0 (pv 2))))), ?_⟩
    refine ⟨.ref t, rfl, t, rfl, ⟨_, ht⟩, fun D nD => lc_m (walk_tup (xs := c.map V.int)) c (fun i => .str ((ns[i.toNat]?).getD ⟨#[]⟩)) (by rw [List.length_map]) nD (by omega) (fun H' s => Same.tup s ht) (fun i z x H2 H3 Kt hz s2 hY k => ?_) (fun H2 s2 e => ?_)⟩
    · obtain ⟨rfl, hx⟩ := hY
      rw [List.getElem?_map, hz] at hx
      cases hx
      obtain ⟨j, rfl, hj⟩ := ix z (List.mem_of_getElem? hz)
      have kk := k _ (Same.refl _)
      have ej : ns[(j : Int).toNat]? = some ns[j] := by rw [Int.toNat_natCast]; exact List.getElem?_eq_getElem hj
      rw [ej] at kk
      refine ⟨rfl, .ref l, rfl, .int j, rfl, l, _, j, .str ns[j], rfl, rfl, s2.seq hl, atI_nat ?_, kk⟩
      rw [List.getElem?_map, List.getElem?_eq_getElem hj]
      rfl
    · have eD : H2 D = some (.lst ((pickN ns c).map V.str)) := by rw [e]; unfold pickN; rw [List.map_map]; rfl
      have nm2 : ∀ z ∈ pickN ns c, isNm z = true := fun z hz => by
        obtain ⟨i, hi, rfl⟩ := List.mem_map.mp hz
        obtain ⟨j, rfl, hj⟩ := ix i hi
        rw [Int.toNat_natCast, List.getElem?_eq_getElem hj]
        exact nm _ (List.getElem_mem hj)
      have lp : (pickN ns c).length = c.length := List.length_map ..
      refine ⟨.ref D, rfl, D, _, rfl, .inr (.inl (.inl eD)), ?_⟩
      intro z dz nz ndz nez
      refine ⟨z, dz, pickN ns c, rfl, upd_same, nm2, by omega, fun H5 tz kp e1 e2 => ⟨rfl, ?_⟩⟩
      obtain ⟨s5, hc⟩ := made_at nz ndz nez nm2 kp e1 e2
      exact q _ z (s2.trans s5) hc
/-! ### sets_by_price -/
def qLam : Str := "sets_by_price.<locals>.<lambda>"
abbrev tabT (PT : Addr) : List (Addr × Str) := [(PT, qLam)]
def spBySets (K : PySem.W.Frag) (CD CP CB CL PT : Addr) : Sp := fun vs H Q _ => ∃ (x : Addr) (b : BldD), vs = [.ref x] ∧ BldAt K CD CP CB H x b ∧ Tabs (tabT PT) H ∧
  ∀ H' p (zs : List (Addr × List Str)), ExtN H H' → Tabs (tabT PT) H' → (∀ o, H p = some o → ∃ ps, o = .tbl ps) → H' p = some (.lst (zs.map fun z => V.ref z.1)) → (∀ z ∈ zs, LkAt CL H' z.1 z.2) → zs.map (·.2) = byPrice b → Q (.ref p) H'
abbrev nBySets : List Str := ["building", "doors", "choices", "at", "indices", "found"]
theorem scBySets : FnScope nBySets ["building"] (defScope s_sets_by_price) := ⟨rfl, rfl, rfl, by decide +kernel, rfl, by decide +kernel, by decide +kernel⟩
theorem lamBy : LamS1 (defScope s_sets_by_price) nBySets { kind := .function, names := [("locks", .local), ("building", .free)], isGenerator := false, isCoroutine := false } "locks" := ⟨rfl, rfl, rfl, rfl, by decide +kernel, by decide +kernel, by decide +kernel, by decide +kernel⟩
theorem ok_bySets {f cS PT : Addr} {fd : FuncData} (F : Fun K "sets_by_price" "sets_by_price" s_sets_by_price f fd) (hc : fd.code = .ref cS) (TB : TabB base mg cS PT) (B : Blt mg) (T : OwnC K mg CB "Building" bldF) (PD : Pr P w K mg base 1 CB "doors" (spBDoors K CD CP CB))
    (MPr : Mt P w K mg base 4 CB "price" ["self", "locks"] (spPrice K CD CP CB CL)) (GL : Fn P w K mg base 4 "locks_at" ["doors", "indices"] (spLksAt K CL)) : FnOk P w K mg base CX0 7 f fd ["building"] (spBySets K CD CP CB CL PT) := by
  refine Fun.okC F hc scBySets (fun vs H Q E h => ?_) (fun A outer s H vs Q E hr h => ?_)
  · obtain ⟨x, b, rfl, _⟩ := h
    rfl
  · obtain ⟨x, b, rfl, hb, hT, q⟩ := h
    have hr1 := hr.mono (show 1 ≤ 6 by decide)
    have hr2 := hr.mono (show 2 ≤ 6 by decide)
    have hr4 := hr.mono (show 4 ≤ 6 by decide)
    refine ⟨_, (pss_cons (ps_set (i := 1) scBySets.nd rfl (.inr rfl) (pe_pr PD hr2 T.cl (pv 0) rfl))
      (pss_cons (ps_set (i := 2) scBySets.nd rfl (.inl rfl) (pe_lst (pa_cons (pe_tup pa_nil) pa_nil)))
      (pss_cons (ps_for PassesOwn.never rfl (pi_range1 (by rfl) B.rng (pa_cons (pe_callB call_len_seq (by rfl) B.len PySem.boot_len (pa_cons (pv 1) pa_nil)) pa_nil)) (pg_name (i := 3) scBySets.nd rfl (Or.inr rfl)) (pss_one (ps_set (i := 2) scBySets.nd rfl (.inl rfl) (pe_op op_cat (pv 2) (pe_lc (own := [("indices", 4)]) (g := (gName 4)) (tt := tYes) (te := (tOp (rCatA K) (tVar 4) (tTup (tCons (tVar 3) tNil)))) rfl scBySets.nd  (pi_list (pv 2)) (blkOk_by (N := nBySets) (sc := defScope s_sets_by_price) (by decide +kernel)) (fun _ _ _ _ _ => (pg_name (i := 4) scBySets.nd rfl (Or.inl rfl))) (fun _ _ _ _ _ => pts_nil) (fun _ _ _ _ _ => (pe_op op_catA (pv 4) (pe_tup (pa_cons (pv 3) pa_nil)))))))))
      (pss_cons (ps_setLc (i := 5) (own := [("indices", 4)]) (g := (gName 4)) (tt := tYes) (te := (tCall _ [] E0 (tCons (tVar 1) (tCons (tVar 4) tNil)))) rfl scBySets.nd rfl rfl (sw_true rfl rfl rfl (by decide +kernel)) (pi_list (pe_callB (cr_sortedT hr.units) (by rfl) B.srt PyProof.Rows.boot_sorted (pa_cons (pv 2) pa_nil))) (blkOk_by (N := nBySets) (sc := defScope s_sets_by_price) (by decide +kernel)) (fun _ _ _ _ _ => (pg_name (i := 4) scBySets.nd rfl (Or.inl rfl))) (fun _ _ _ _ _ => pts_nil) (fun _ _ _ _ _ => (pe_fn GL hr4 (by rfl) (pa_cons (pv 1) (pa_cons (pv 4) pa_nil)))))
      (pss_one (ps_ret (pe_sortKey (T := tabT PT) (k := 4) (a := "locks") (tb := tMeth CB "price" (spPrice K CD CP CB CL) [] E0 (tVar 0) (tCons (tVar 6) tNil)) (by rfl) B.srt TB rfl (by exact List.mem_singleton.mpr rfl) (fun p hp _ => congrArg Prod.snd (List.mem_singleton.mp hp)) hr lamBy (by rfl) (fun _ _ _ _ _ _ => rfl) (pv 5) (fun A outer s H f c' hr' => pe_mt MPr hr' T.cl (pv 0) (pa_cons (pv 6) pa_nil))))))))), ?_⟩
    obtain ⟨⟨dx, r, k, dn, dd, pn, pd, ok, od, op, kvs, ds, ps, I⟩, bok⟩ := id hb
    have d8 := bok.d8
    have one : (1 : Nat) ≤ sizeLine := by rw [sizeLine_eq]; decide
    generalize ens : b.doors.map (·.1) = ns at *
    have nsl : ns.length = b.doors.length := by rw [← ens, List.length_map]
    have nmn : ∀ z ∈ ns, isNm z = true := fun z hz => by
      rw [← ens] at hz
      obtain ⟨q', hq', rfl⟩ := List.mem_map.mp hz
      exact (bok.doors q' hq').1
    refine ⟨.ref x, rfl, x, dx, _, rfl, I.ob, x, b, rfl, hb, fun l0 nl0 => ?_⟩
    rw [ens]
    have s1 := same_new (o := .lst (ns.map V.str)) nl0
    refine ⟨Nat.zero_le _, fun t0 nt0 => ⟨one, fun m0 nm0 => ?_⟩⟩
    have s2 := same_new (o := .tup []) nt0
    have s3 := same_new (o := .lst [.ref t0]) nm0
    have s13 := s1.trans (s2.trans s3)
    have s23 := s2.trans s3
    generalize eH3 : upd (upd (upd H l0 (.lst (ns.map V.str))) t0 (.tup [])) m0 (.lst [.ref t0]) = H3 at *
    have el0 : H3 l0 = some (.lst (ns.map V.str)) := s23 _ _ upd_same
    have et0 : H3 t0 = some (.tup []) := s3 _ _ upd_same
    have em0 : H3 m0 = some (.lst [.ref t0]) := by rw [← eH3]; exact upd_same
    refine ⟨.ref l0, rfl, l0, _, rfl, .inl (.inl (.inl el0)), (ns.map V.str).length, rfl, ?_, ?_, for_it walk_range (fun i σ H' => Same H3 H' ∧ ∃ (m : Addr) (cs : List Ixs) (y3 : Option V), H' m = some (.lst (cs.map fun c => V.ref c.1)) ∧ (∀ c ∈ cs, H' c.1 = some (.tup (c.2.map V.int))) ∧ cs.map (·.2) = choicesN i ∧ σ = [some (.ref x), some (.ref l0), some (.ref m), y3, none, none])
      ⟨Same.refl _, m0, [(t0, [])], none, em0, fun c hc => ?_, rfl, rfl⟩ (fun _ _ _ _ _ => trivial) (fun i v σ H4 H5 hi hP hY => ?_) (fun σ H4 hP => ?_)⟩
    · rw [List.length_map, nsl]
      omega
    · rw [List.length_map, nsl]
      omega
    · rw [List.mem_singleton.mp hc]
      exact et0
    · obtain ⟨rfl, rfl⟩ := hY
      obtain ⟨s4, m, cs, y3, em, each, ecs, rfl⟩ := hP
      have hi8 : i < 8 := by
        rw [List.length_map] at hi
        omega
      have lcs : cs.length ≤ 256 := by
        have := congrArg List.length ecs
        rw [List.length_map, choices_len] at this
        rw [this]
        exact Nat.le_trans (Nat.pow_le_pow_right (by decide) (Nat.le_of_lt hi8)) (by decide)
      have ei : (0 : Int) + (i : Nat) = (i : Int) := by omega
      refine ⟨.ref m, rfl, .ref m, rfl, m, rfl, ⟨_, .inl (.inl em)⟩, fun D nD => ?_⟩
      refine lc_R (walk_list (xs := cs.map fun c => V.ref c.1)) cs (fun _ => true) (fun H c v => ∃ t, v = V.ref t ∧ H t = some (.tup ((c.2 ++ [(i : Int)]).map V.int))) (fun H H' a v nx h => by obtain ⟨t, e, h⟩ := h; exact ⟨t, e, nx _ _ h st_tup⟩) (by rw [List.length_map]) nD (by omega) (fun H' s' => .inl (.inl (s' _ _ em))) (fun j c v H6 H7 Kt Kf hc s6 hY kt kf => ?_) (fun H6 xs s6 eD pr => ?_)
      · obtain ⟨rfl, hx⟩ := hY
        rw [List.getElem?_map, hc] at hx
        cases hx
        have hcm := List.mem_of_getElem? hc
        have lc8 : c.2.length ≤ 8 := by
          have := choices_few i c.2 (by rw [← ecs]; exact List.mem_map.mpr ⟨c, hcm, rfl⟩)
          omega
        refine ⟨rfl, .ref c.1, rfl, _, rfl, one, fun t1 nt1 => ?_⟩
        have s71 := same_new (o := .tup [.int (0 + (i : Nat))]) nt1
        refine cat_v (s71 _ _ (s6 _ _ (each c hcm))) upd_same (by rw [List.length_map, List.length_singleton]; omega) fun H9 tn s9 etn => kt rfl _ _ (s71.trans s9) ⟨tn, rfl, ?_⟩
        have ei2 : V.int (0 + ((i : Nat) : Int)) = V.int (i : Int) := by rw [ei]
        rw [etn, List.map_append]
        show some (HO.tup (List.map V.int c.2 ++ [V.int (0 + ((i : Nat) : Int))])) = _
        rw [ei2]
        rfl
      · rw [List.filter_eq_self.mpr fun _ _ => rfl] at pr
        obtain ⟨us, e1, e2, e3⟩ := paired_refs (S := fun t (c : List Int) => H6 t = some (.tup (c.map V.int))) (g := fun c : Ixs => c.2 ++ [(i : Int)]) pr
        subst e1
        have lus : us.length = cs.length := by
          have := congrArg List.length e2
          rw [List.length_map, List.length_map] at this
          exact this
        refine ⟨m, D, _, _, rfl, rfl, s6 _ _ em, eD, by rw [List.length_map, List.length_map, sizeLine_eq]; omega, fun m2 nm2 => ?_⟩
        have s8 := same_new (o := .lst (cs.map (fun c => V.ref c.1) ++ us.map fun c => V.ref c.1)) nm2
        refine ⟨s4.trans (s6.trans s8), m2, cs ++ us, _, by rw [upd_same, List.map_append], fun c hc => ?_, ?_, rfl⟩
        · rcases List.mem_append.mp hc with h | h
          · exact s8 _ _ (s6 _ _ (each c h))
          · exact s8 _ _ (e3 c h)
        · rw [List.map_append, ecs, e2]
          show choicesN i ++ cs.map (fun c => c.2 ++ [(i : Int)]) = choicesN i ++ (choicesN i).map (· ++ [(i : Int)])
          rw [← ecs, List.map_map]
          rfl
    · obtain ⟨s4, m, cs, y3, em, each, ecs, rfl⟩ := hP
      have en : ((ns.map V.str).length : Int).toNat = b.doors.length := by
        rw [Int.toNat_natCast, List.length_map, nsl]
      rw [en] at ecs
      obtain ⟨rn, ern⟩ := choices_nil b.doors.length
      have hcs0 : ∃ t r, cs = (t, []) :: r := by
        rw [ern] at ecs
        cases cs with
        | nil => cases ecs
        | cons c r =>
          rw [List.map_cons] at ecs
          injection ecs with h1 h2
          obtain ⟨t, c2⟩ := c
          have h1 : c2 = [] := h1
          rw [h1]
          exact ⟨t, r, rfl⟩
      have lcs : cs.length ≤ 256 := by
        have := congrArg List.length ecs
        rw [List.length_map, choices_len] at this
        rw [this]
        exact Nat.le_trans (Nat.pow_le_pow_right (by decide) d8) (by decide)
      refine ⟨.ref m, rfl, m, cs, rfl, .inl (.inl em), each, hcs0, fun m5 nm5 => ⟨m5, rfl, ⟨_, .inl (.inl upd_same)⟩, fun D nD => ?_⟩⟩
      have s5 := same_new (o := .lst ((cs.mergeSort ixLe).map fun c => V.ref c.1)) nm5
      have s35 := s4.trans s5
      have mem2 : ∀ c ∈ cs.mergeSort ixLe, c ∈ cs := fun c hc => (List.mergeSort_perm cs ixLe).mem_iff.mp hc
      have mem3 : ∀ c ∈ cs, c.2 ∈ choicesN b.doors.length := fun c hc => by
        rw [← ecs]
        exact List.mem_map.mpr ⟨c, hc, rfl⟩
      have len2 : (cs.mergeSort ixLe).length ≤ 1000 := by rw [List.length_mergeSort]; omega
      refine lc_R (walk_list (xs := (cs.mergeSort ixLe).map fun c => V.ref c.1)) (cs.mergeSort ixLe) (fun _ => true) (fun H c v => ∃ t, v = V.ref t ∧ LkAt CL H t (srt (pickN ns c.2))) (fun H H' a v nx h => by obtain ⟨t, e, h⟩ := h; exact ⟨t, e, h.nx nx⟩) (by rw [List.length_map]) nD len2 (fun H' s' => .inl (.inl (s' _ _ upd_same))) (fun j c v H6 H7 Kt Kf hc s6 hY kt kf => ?_) (fun H6 xs s6 eD pr => ?_)
      · obtain ⟨rfl, hx⟩ := hY
        rw [List.getElem?_map, hc] at hx
        cases hx
        have hcm := mem2 c (List.mem_of_getElem? hc)
        have h3 := mem3 c hcm
        have few := choices_few _ _ h3
        refine ⟨rfl, .ref l0, rfl, .ref c.1, rfl, l0, c.1, ns, c.2, rfl, .inl (.inl (s6 _ _ (s35 _ _ el0))), .inl (.inl (s6 _ _ (s5 _ _ (each c hcm)))), by omega, fun i hi => ?_, nmn, fun H8 z s8 hz => kt rfl _ _ s8 ⟨z, rfl, hz⟩⟩
        rw [nsl]
        exact choices_in _ _ h3 i hi
      · rw [List.filter_eq_self.mpr fun _ _ => rfl] at pr
        obtain ⟨zs, e1, e2, e3⟩ := paired_refs (S := fun t (c : List Str) => LkAt CL H6 t c) (g := fun c : Ixs => srt (pickN ns c.2)) pr
        subst e1
        have s06 := s13.trans (s35.trans s6)
        have ezs : zs.map (·.2) = byIx b := by
          rw [e2]
          unfold byIx
          rw [ens, ← ecs, ← List.map_mergeSort (r := ixLe) (s := leI) (f := fun c : Ixs => c.2) (l := cs) fun a _ c _ => rfl, List.map_map]
          rfl
        have okz : ∀ z ∈ zs, z.2.length ≤ 1000 ∧ ∀ y ∈ z.2, y ∈ b.doors.map (·.1) := fun z hz => by
          have hm : z.2 ∈ (cs.mergeSort ixLe).map fun c : Ixs => srt (pickN ns c.2) := by
            rw [← e2]
            exact List.mem_map.mpr ⟨z, hz, rfl⟩
          obtain ⟨c, hc, ec⟩ := List.mem_map.mp hm
          have h3 := mem3 c (mem2 c hc)
          have few := choices_few _ _ h3
          rw [← ec]
          refine ⟨Nat.le_trans (len_srt _) ?_, fun y hy => ?_⟩
          · unfold pickN
            rw [List.length_map]
            omega
          · obtain ⟨i, hi, ei⟩ := List.mem_map.mp ((mem_srt _ _).1 hy)
            obtain ⟨j, rfl, hj⟩ := choices_in _ _ h3 i hi
            have hj' : j < ns.length := by rw [nsl]; exact hj
            rw [Int.toNat_natCast, List.getElem?_eq_getElem hj'] at ei
            rw [ens, ← ei]
            exact List.getElem_mem hj'
        refine ⟨.ref D, rfl, D, _, keyAt zs (priceOf b), rfl, .inl (.inl eD), hT.ext s06, fun H7 eN T7 => ⟨fun v hv H8 s8 => ?_, fun H8 p s8 np => ?_⟩⟩
        · obtain ⟨z, hz, rfl⟩ := List.mem_map.mp hv
          have nx8 : NX H6 H8 := (NX.ofT eN).trans (NX.of s8)
          have hb8 := (hb.same s06).nx nx8
          refine ⟨.ref x, rfl, x, dx, _, rfl, nx8 _ _ (s06 _ _ I.ob) st_ins, rfl, .ref z.1, rfl, x, z.1, b, z.2, rfl, hb8, (e3 z hz).nx nx8, (okz z hz).1, (okz z hz).2, fun H9 s9 => ⟨?_, s9⟩⟩
          rw [keyAt_at e3 hz]
        · have emp : (zs.map fun z => V.ref z.1).mergeSort (leBy (keyAt zs (priceOf b))) = (zs.mergeSort fun a c => leBy (priceOf b) a.2 c.2).map fun z => V.ref z.1 := by
            refine (List.map_mergeSort fun a ha c hc => ?_).symm
            unfold leBy
            rw [keyAt_at e3 ha, keyAt_at e3 hc]
          rw [emp]
          have s9 := same_new (o := .lst ((zs.mergeSort fun a c => leBy (priceOf b) a.2 c.2).map fun z => V.ref z.1)) np
          have nx9 : NX H6 (upd H8 p (.lst ((zs.mergeSort fun a c => leBy (priceOf b) a.2 c.2).map fun z => V.ref z.1))) := (NX.ofT eN).trans ((NX.of s8).trans (NX.of s9))
          have eN9 : ExtN H (upd H8 p (.lst ((zs.mergeSort fun a c => leBy (priceOf b) a.2 c.2).map fun z => V.ref z.1))) := (ExtN.of s06).trans (eN.trans ((ExtN.of s8).trans (ExtN.of s9)))
          have hp : ∀ o, H p = some o → ∃ ps, o = .tbl ps := fun o e => by
            by_cases ht : ∃ ps, o = .tbl ps
            · exact ht
            · have := (((ExtN.of s06).trans eN).trans (ExtN.of s8)) _ _ e fun ps z => ht ⟨ps, z⟩
              rw [np] at this
              cases this
          refine q _ p (zs.mergeSort fun a c => leBy (priceOf b) a.2 c.2) eN9 ((T7.ext s8).ext s9) hp upd_same (fun z hz => (e3 z ((List.mergeSort_perm _ _).mem_iff.mp hz)).nx nx9) ?_
          rw [List.map_mergeSort (r := fun a c => leBy (priceOf b) a.2 c.2) (s := leBy (priceOf b)) (f := fun z : Addr × List Str => z.2) fun a _ c _ => rfl, ezs]
          rfl
end
end Lk
set_option Elab.async false
set_option linter.all false
set_option maxRecDepth 100000
set_option maxHeartbeats 4000000
namespace Lk
open PySem PySem.Spec PyProof.Rows L2 TxS LkO LkG
section
variable {P : Program} {w : World} {K : PySem.W.Frag} {mg : Str → Option Value} {base : Heap} {CD CP CB CL : Addr}
/-! ### check_building -/
def spChkB (CB : Addr) : Sp := fun vs H Q _ => ∃ (a dx : Addr) (fs : List (Str × V)), vs = [.ref a] ∧ H a = some (.ins CB dx fs) ∧ Q .non H
theorem scChkB : FnScope ["building"] ["building"] (defScope s_check_building) := ⟨rfl, rfl, rfl, by decide +kernel, rfl, by decide +kernel, by decide +kernel⟩
theorem ok_chkB {f : Addr} {fd : FuncData} {k : Nat} (F : Fun K "check_building" "check_building" s_check_building f fd) (B : Blt mg) (T : OwnC K mg CB "Building" bldF) : FnOk P w K mg base CX0 (k + 1) f fd ["building"] (spChkB CB) := by
  refine F.ok scChkB (fun vs H Q E h => ?_) (fun cdv A outer s H vs Q E hr h => ?_)
  · obtain ⟨a, dx, fs, rfl, _⟩ := h
    rfl
  · obtain ⟨a, dx, fs, rfl, ha, q⟩ := h
    refine ⟨_, pss_one (ps_if (pt_not (pt_val (pe_callB call_isi (by rfl) B.isi PyProof.Rows.boot_isinstance (pa_cons (pv 0) (pa_cons (pe_glob (v := .ref CB) (by rfl) T.mgC rfl) pa_nil))))) (pss_one ps_never) pss_nil), ?_⟩
    exact ⟨.ref a, rfl, .ref a, .ref CB, _, _, true, rfl, .own CB, .base (.ins ha T.cl T.tyc T.tyg T.tyt T.tym), T.kit, true, rfl, iteF q⟩
end
end Lk
set_option Elab.async false
set_option linter.all false
set_option maxRecDepth 100000
set_option maxHeartbeats 4000000
namespace Lk
open PySem PySem.Spec PyProof.Rows L2 TxS LkO LkG
section
variable {P : Program} {w : World} {K : PySem.W.Frag} {mg : Str → Option Value} {base : Heap} {CD CP CB CL : Addr}
/-! ### are_doors_of -/
def areDoors (b : BldD) (zs : List Str) : Bool := zs.all fun z => isNm z && decide (z ∈ b.doors.map (·.1))
def spDoorsOf (K : PySem.W.Frag) (CD CP CB : Addr) : Sp := fun vs H Q _ => ∃ (x t : Addr) (b : BldD) (zs : List Str), vs = [.ref x, .ref t] ∧ BldAt K CD CP CB H x b ∧ SqT K H t (zs.map V.str) ∧ zs.length ≤ 1000 ∧ (∀ z ∈ zs, z.length ≤ sizeLine) ∧ ∀ H', Same H H' → Q (.bl (areDoors b zs)) H'
theorem areDoors_yes {b : BldD} (ok : b.ok) {zs : List Str} (h : ∀ z ∈ zs, z ∈ b.doors.map (·.1)) : areDoors b zs = true := by
  unfold areDoors
  refine List.all_eq_true.mpr fun z hz => ?_
  obtain ⟨q, hq, rfl⟩ := List.mem_map.mp (h z hz)
  rw [(ok.doors _ hq).1, decide_eq_true (h _ hz)]
  rfl
theorem door_line {b : BldD} (ok : b.ok) {zs : List Str} (h : ∀ z ∈ zs, z ∈ b.doors.map (·.1)) : ∀ z ∈ zs, z.length ≤ sizeLine := fun z hz => by
  obtain ⟨q, hq, rfl⟩ := List.mem_map.mp (h z hz)
  exact nm_line (ok.doors _ hq).1
theorem scDoorsOf : FnScope ["building", "names", "name"] ["building", "names"] (defScope s_are_doors_of) := ⟨rfl, rfl, rfl, by decide +kernel, rfl, by decide +kernel, by decide +kernel⟩
theorem ok_doorsOf {f : Addr} {fd : FuncData} (F : Fun K "are_doors_of" "are_doors_of" s_are_doors_of f fd) (B : Blt mg) (T : OwnC K mg CB "Building" bldF) (GN : Fn P w K mg base 1 "is_name" ["value"] spName)
    (PD : Pr P w K mg base 1 CB "doors" (spBDoors K CD CP CB)) : FnOk P w K mg base CX0 3 f fd ["building", "names"] (spDoorsOf K CD CP CB) := by
  refine F.ok scDoorsOf (fun vs H Q E h => ?_) (fun cdv A outer s H vs Q E hr h => ?_)
  · obtain ⟨x, t, b, zs, rfl, _⟩ := h
    rfl
  · obtain ⟨x, t, b, zs, rfl, hb, ht, few, lens, q⟩ := h
    obtain ⟨⟨dx, r, k, dn, dd, pn, pd, ok, od, op, kvs, ds, ps, I⟩, bok⟩ := id hb
    refine ⟨_, pss_one (ps_ret (pe_and (pe_callB call_isi (by rfl) B.isi PyProof.Rows.boot_isinstance (pa_cons (pv 1) (pa_cons (pe_bltn (v := .ty "tuple") (by rfl) B.tup PyProof.Rows.boot_tuple rfl) pa_nil)))
      (pe_one (pe_callB (cr_all rfl) (by rfl) B.all PyProof.Rows.boot_all (pa_cons (pe_lc (own := [("name", 2)]) (g := gName 2) (tt := tYes) (te := tAndV (tCall spName [] E0 (tCons (tVar 2) tNil)) (tOp (rIn K false) (tVar 2) (tProp CB (spBDoors K CD CP CB) [] E0 (tVar 0)))) rfl scDoorsOf.nd (pi_tup (pv 1)) (blkOk_by (N := ["building", "names", "name"]) (sc := defScope s_are_doors_of) (by decide +kernel))
        (fun _ _ _ _ _ => pg_name (i := 2) scDoorsOf.nd rfl (Or.inl rfl)) (fun _ _ _ _ _ => pts_nil) (fun _ _ _ _ _ => pe_and (pe_fn GN (hr.mono (by decide)) (by rfl) (pa_cons (pv 2) pa_nil)) (pe_one (pe_cmpR (r := rIn K false) op_in_seq (pv 2) (pe_pr PD hr T.cl (pv 0) rfl) rfl)))) pa_nil))))), ?_⟩
    refine ⟨.ref t, rfl, .ref t, .ty "tuple", _, _, true, rfl, .ty _, ty_tup ht, kit_ty (by decide +kernel), true, rfl, iteT ?_⟩
    refine ⟨.ref t, rfl, t, rfl, ⟨_, ht⟩, fun D nD => lc_m (walk_tup (xs := zs.map V.str)) zs (fun z => .bl (isNm z && decide (z ∈ b.doors.map (·.1)))) (by rw [List.length_map]) nD few (fun H' s => Same.tup s ht) (fun i z v H2 H3 Kt hz s2 hY k => ?_) (fun H2 s2 e => ?_)⟩
    · obtain ⟨rfl, hx⟩ := hY
      rw [List.getElem?_map, hz] at hx
      cases hx
      refine ⟨rfl, .str z, rfl, z, rfl, lens z (List.mem_of_getElem? hz), fun H4 s4 => ⟨_, rfl, ite2 (fun t1 => ?_) (fun t1 => ?_)⟩⟩
      · have s24 := s2.trans s4
        refine ⟨.str z, rfl, .ref x, rfl, x, dx, _, rfl, s24 _ _ I.ob, x, b, rfl, hb.same s24, fun l nl => ⟨l, _, rfl, .inl (.inl (.inl upd_same)), rfl, flat_strs _, ?_⟩⟩
        rw [inV_str]
        have k2 := k _ (s4.trans (same_new (o := .lst ((b.doors.map (·.1)).map V.str)) nl))
        rw [t1, Bool.true_and] at k2
        exact k2
      · have k2 := k _ s4
        rw [Bool.eq_false_iff.mpr t1, Bool.false_and] at k2
        exact k2
    · refine ⟨D, zs.map fun z => isNm z && decide (z ∈ b.doors.map (·.1)), rfl, .inl (.inl (by rw [List.map_map]; exact e)), ?_⟩
      rw [List.all_map]
      exact q _ s2
end
end Lk
set_option Elab.async false
set_option linter.all false
set_option maxRecDepth 100000
set_option maxHeartbeats 4000000
namespace Lk
open PySem PySem.Spec PyProof.Rows L2 TxS LkO LkG
/-! ### the reach as a list -/
def reachL (b : BldD) (p : PersonD) (ls : List Str) : List Str := (roomsOf b p ls (trailOf b p ls)).getD []
theorem mem_reachL {b : BldD} (ok : b.ok) {p : PersonD} {ls : List Str} {z : Str} : z ∈ reachL b p ls ↔ Rch b p ls z := by
  obtain ⟨R, e, by0⟩ := trail_rooms (p := p) (ls := ls) ok 6 [p.a] (left_le b ok _)
  have hP := path_of _ _ Path.one e
  unfold reachL
  rw [show roomsOf b p ls (trailOf b p ls) = some R from e]
  exact ⟨hP.rch z, beyond_done hP.st by0⟩
/-! ### doubts -/
def wordOf (th : Bool) : Str := if th = true then "through" else "shut"
def thrOf (b : BldD) (p : PersonD) (tr : List Str) : Bool := match roomsOf b p [] tr with
  | none => false
  | some R => R.any fun z => decide (z ∈ p.shuns)
def inOrder (b : BldD) (tr : List Str) : List Str := (b.doors.map (·.1)).filter fun z => decide (z ∈ tr)
def shutOf (b : BldD) (p : PersonD) (tr : List Str) : Bool := decide (tr = inOrder b tr) && !(p.needs.all fun z => decide (z ∈ reachL b p (srt tr)))
def dbtOf (b : BldD) (p : PersonD) (th : Bool) (tr : List Str) : Bool := if th = true then thrOf b p tr else shutOf b p tr
def strikeOf (th : Bool) (tr ls : List Str) : Bool := if th = true then !(tr.any fun z => decide (z ∈ ls)) else tr.all fun z => decide (z ∈ ls)
/-- a tuple in the form of a doubt -/
structure DbtAt (K : PySem.W.Frag) (H : Hp) (x : Addr) (th : Bool) (n : Str) (tr : List Str) : Prop where
  ex : ∃ t, SqT K H x [.str (wordOf th), .str n, .ref t] ∧ SqT K H t (tr.map V.str)
theorem DbtAt.same {K : PySem.W.Frag} {H H' : Hp} {x : Addr} {th : Bool} {n : Str} {tr : List Str} (h : DbtAt K H x th n tr) (s : Same H H') : DbtAt K H' x th n tr := let ⟨t, h1, h2⟩ := h.ex; ⟨t, Same.tup s h1, Same.tup s h2⟩
structure Words (mg : Str → Option Value) : Prop where
  th : ∃ t, mg "THROUGH" = some (.str "through" t)
  sh : ∃ t, mg "SHUT" = some (.str "shut" t)
structure MkLs (P : Program) (w : World) (K : PySem.W.Frag) (mg : Str → Option Value) (base : Heap) (C : Addr) : Prop where
  ex : ∃ f, Mk K C f ∧ FnR P w K mg base CX0 2 f (spNew C)
section
variable {P : Program} {w : World} {K : PySem.W.Frag} {mg : Str → Option Value} {base : Heap} {CD CP CB CL : Addr}
/-! ### has_doubt_form, check_doubt -/
def OkDbt (b : BldD) (n : Str) (p : PersonD) (tr : List Str) : Prop := b.people.lookup n = some p ∧ tr.length ≤ 1000 ∧ ∀ z ∈ tr, z ∈ b.doors.map (·.1)
def spForm (K : PySem.W.Frag) (CD CP CB : Addr) : Sp := fun vs H Q _ => ∃ (x d : Addr) (b : BldD) (th : Bool) (n : Str) (p : PersonD) (tr : List Str), vs = [.ref x, .ref d] ∧ BldAt K CD CP CB H x b ∧ DbtAt K H d th n tr ∧ OkDbt b n p tr ∧ ∀ H', Same H H' → Q (.bl true) H'
abbrev nForm : List Str := ["building", "doubt"]
theorem scForm : FnScope nForm ["building", "doubt"] (defScope s_has_doubt_form) := ⟨rfl, rfl, rfl, by decide +kernel, rfl, by decide +kernel, by decide +kernel⟩
theorem ok_form {f : Addr} {fd : FuncData} (F : Fun K "has_doubt_form" "has_doubt_form" s_has_doubt_form f fd) (B : Blt mg) (W : Words mg) (T : OwnC K mg CB "Building" bldF) (GN : Fn P w K mg base 1 "is_name" ["value"] spName)
    (PP : Pr P w K mg base 1 CB "people" (spBPeople K CD CP CB)) (GD : Fn P w K mg base 3 "are_doors_of" ["building", "names"] (spDoorsOf K CD CP CB)) : FnOk P w K mg base CX0 4 f fd ["building", "doubt"] (spForm K CD CP CB) := by
  obtain ⟨tt, eT⟩ := W.th
  obtain ⟨ts, eS⟩ := W.sh
  refine F.ok scForm (fun vs H Q E h => ?_) (fun cdv A outer s H vs Q E hr h => ?_)
  · obtain ⟨x, d, b, th, n, p, tr, rfl, _⟩ := h
    rfl
  · obtain ⟨x, d, b, th, n, p, tr, rfl, hb, hd, ⟨hn, few, sub⟩, q⟩ := h
    have hr1 := hr.mono (show 1 ≤ 3 by decide)
    have hr2 := hr.mono (show 2 ≤ 3 by decide)
    refine ⟨_, (pss_one (ps_ret (pe_and (pe_callB call_isi (by rfl) B.isi PyProof.Rows.boot_isinstance (pa_cons (pv 1) (pa_cons (pe_bltn (v := .ty "tuple") (by rfl) B.tup PyProof.Rows.boot_tuple rfl) pa_nil))) (pe_and (pe_cmpR op_eq (pe_callB call_len_seq (by rfl) B.len PySem.boot_len (pa_cons (pv 1) pa_nil)) pe_int (nomark _)) (pe_and (pe_callB call_isi (by rfl) B.isi PyProof.Rows.boot_isinstance (pa_cons (pe_ix ix_tup (pv 1) pe_int (fun _ _ => rfl)) (pa_cons (pe_bltn (v := .ty "str") (by rfl) B.str PyProof.Rows.boot_str rfl) pa_nil))) (pe_and (pe_cmpR (r := (rIn K false)) op_in_seq (pe_ix ix_tup (pv 1) pe_int (fun _ _ => rfl)) (pe_tup (pa_cons (pe_glob (v := .str "through") (by rfl) eT ⟨_, rfl⟩) (pa_cons (pe_glob (v := .str "shut") (by rfl) eS ⟨_, rfl⟩) pa_nil))) rfl) (pe_and (pe_fn GN hr1 (by rfl) (pa_cons (pe_ix ix_tup (pv 1) pe_int (fun _ _ => rfl)) pa_nil)) (pe_and (pe_cmpR (r := (rIn K false)) op_in_seq (pe_ix ix_tup (pv 1) pe_int (fun _ _ => rfl)) (pe_pr PP hr2 T.cl (pv 0) rfl) rfl) (pe_one (pe_fn GD hr (by rfl) (pa_cons (pv 0) (pa_cons (pe_ix ix_tup (pv 1) pe_int (fun _ _ => rfl)) pa_nil)))))))))))), ?_⟩
    obtain ⟨⟨dx, r, k, dn, dd, pn, pd, ok, od, op, kvs, ds, ps, I⟩, bok⟩ := id hb
    obtain ⟨t, h1, h2⟩ := hd.ex
    have nm : isNm n = true := (bok.people _ (look_mem hn)).1
    refine ⟨.ref d, rfl, .ref d, .ty "tuple", _, _, true, rfl, .ty _, ty_tup h1, kit_ty (by decide +kernel), true, rfl, iteT ?_⟩
    refine ⟨.ref d, rfl, d, _, rfl, .inr h1, rfl, true, rfl, iteT ?_⟩
    refine ⟨.ref d, rfl, d, _, 0, _, rfl, rfl, h1, rfl, .str (wordOf th), .ty "str", _, _, true, rfl, .ty _, .base (.str _), kit_ty (by decide +kernel), true, rfl, iteT ?_⟩
    refine ⟨.ref d, rfl, d, _, 0, _, rfl, rfl, h1, rfl, by show 2 ≤ sizeLine; rw [sizeLine_eq]; decide, fun t2 nt2 => ?_⟩
    have s1 := same_new (o := .tup [.str "through", .str "shut"]) nt2
    refine ⟨t2, _, rfl, .inr (.inl (.inl upd_same)), rfl, rfl, true, ?_, iteT ?_⟩
    · cases th <;> rfl
    have h11 := Same.tup s1 h1
    refine ⟨.ref d, rfl, d, _, 1, _, rfl, rfl, h11, rfl, n, rfl, nm_line nm, fun H2 s2 => ⟨true, by rw [nm], iteT ?_⟩⟩
    have s12 := s1.trans s2
    have h12 := Same.tup s12 h1
    refine ⟨.ref d, rfl, d, _, 1, _, rfl, rfl, h12, rfl, .ref x, rfl, x, dx, _, rfl, s12 _ _ I.ob, x, b, rfl, hb.same s12, fun l nl => ⟨l, _, rfl, .inl (.inl (.inl upd_same)), rfl, flat_strs _, true, ?_, iteT ?_⟩⟩
    · have hin : n ∈ b.people.map (·.1) := List.mem_map.mpr ⟨(n, p), look_mem hn, rfl⟩
      show V.bl (inV (.str n) _) = _
      rw [inV_str, decide_eq_true hin]
    have s13 := s12.trans (same_new (o := .lst ((b.people.map (·.1)).map V.str)) nl)
    refine ⟨.ref x, rfl, .ref d, rfl, d, _, 2, _, rfl, rfl, Same.tup s13 h1, rfl, x, t, b, tr, rfl, hb.same s13, Same.tup s13 h2, few, door_line bok sub, fun H4 s4 => ?_⟩
    rw [areDoors_yes bok sub]
    exact q _ (s13.trans s4)
def spChkD (K : PySem.W.Frag) (CD CP CB : Addr) : Sp := fun vs H Q _ => ∃ (x d : Addr) (b : BldD) (th : Bool) (n : Str) (p : PersonD) (tr : List Str), vs = [.ref x, .ref d] ∧ BldAt K CD CP CB H x b ∧ DbtAt K H d th n tr ∧ OkDbt b n p tr ∧ ∀ H', Same H H' → Q .non H'
abbrev nChkD : List Str := ["building", "doubt"]
theorem scChkD : FnScope nChkD ["building", "doubt"] (defScope s_check_doubt) := ⟨rfl, rfl, rfl, by decide +kernel, rfl, by decide +kernel, by decide +kernel⟩
theorem ok_chkD {f : Addr} {fd : FuncData} (F : Fun K "check_doubt" "check_doubt" s_check_doubt f fd) (GF : Fn P w K mg base 4 "has_doubt_form" ["building", "doubt"] (spForm K CD CP CB)) : FnOk P w K mg base CX0 5 f fd ["building", "doubt"] (spChkD K CD CP CB) := by
  refine F.ok scChkD (fun vs H Q E h => ?_) (fun cdv A outer s H vs Q E hr h => ?_)
  · obtain ⟨x, d, b, th, n, p, tr, rfl, _⟩ := h
    rfl
  · obtain ⟨x, d, b, th, n, p, tr, rfl, hb, hd, ho, q⟩ := h
    refine ⟨_, (pss_one (ps_if (pt_not (pt_val (pe_fn GF hr (by rfl) (pa_cons (pv 0) (pa_cons (pv 1) pa_nil))))) (pss_one ps_never) pss_nil)), ?_⟩
    exact ⟨.ref x, rfl, .ref d, rfl, x, d, b, th, n, p, tr, rfl, hb, hd, ho, fun H1 s1 => ⟨true, rfl, iteF (q _ s1)⟩⟩
/-! ### leads_to_shunned -/
def spLeads (K : PySem.W.Frag) (CD CP CB : Addr) : Sp := fun vs H Q _ => ∃ (x y t : Addr) (b : BldD) (p : PersonD) (tr : List Str), vs = [.ref x, .ref y, .ref t] ∧ BldAt K CD CP CB H x b ∧ PersonAt K CP H y p ∧ SqT K H t (tr.map V.str) ∧ tr.length ≤ 1000 ∧ (∀ z ∈ tr, z ∈ b.doors.map (·.1)) ∧ ∀ H', Same H H' → Q (.bl (thrOf b p tr)) H'
abbrev nLeads : List Str := ["building", "person", "trail", "rooms", "room"]
theorem scLeads : FnScope nLeads ["building", "person", "trail"] (defScope s_leads_to_shunned) := ⟨rfl, rfl, rfl, by decide +kernel, rfl, by decide +kernel, by decide +kernel⟩
theorem rooms_len : ∀ (tr rooms : List Str) {b : BldD} {p : PersonD} {ls R : List Str}, roomsFrom b p ls rooms tr = some R → R.length = rooms.length + tr.length
  | [], _, _, _, _, _, e => by
    cases e
    rfl
  | n :: r, rooms, b, p, ls, R, e => by
    have e : (match b.doors.lookup n with | none => none | some d => match addOf b p ls rooms (n, d) with | none => none | some e => roomsFrom b p ls (rooms ++ [e]) r) = some R := e
    cases hl : b.doors.lookup n with
    | none =>
      rw [hl] at e
      cases e
    | some d =>
      rw [hl] at e
      have e : (match addOf b p ls rooms (n, d) with | none => none | some e => roomsFrom b p ls (rooms ++ [e]) r) = some R := e
      cases ha : addOf b p ls rooms (n, d) with
      | none =>
        rw [ha] at e
        cases e
      | some z =>
        rw [ha] at e
        have := rooms_len r _ e
        rw [List.length_append, List.length_singleton] at this
        rw [List.length_cons]
        omega
theorem ok_leads {f : Addr} {fd : FuncData} (F : Fun K "leads_to_shunned" "leads_to_shunned" s_leads_to_shunned f fd) (B : Blt mg) (TL : LkC K mg CL) (TP : PersT P w K mg base CP) (ML : MkLs P w K mg base CL)
    (GR : Fn P w K mg base 6 "rooms_of" ["building", "person", "locks", "trail"] (spRoomsOf K CD CP CB CL)) : FnOk P w K mg base CX0 7 f fd ["building", "person", "trail"] (spLeads K CD CP CB) := by
  obtain ⟨fI, M, GI⟩ := ML.ex
  refine F.ok scLeads (fun vs H Q E h => ?_) (fun cdv A outer s H vs Q E hr h => ?_)
  · obtain ⟨x, y, t, b, p, tr, rfl, _⟩ := h
    rfl
  · obtain ⟨x, y, t, b, p, tr, rfl, hb, hp, ht, few, sub, q⟩ := h
    have hr2 := hr.mono (show 2 ≤ 6 by decide)
    have hr3 := hr.mono (show 3 ≤ 6 by decide)
    refine ⟨_, (pss_cons (ps_set (i := 3) scLeads.nd rfl (.inl rfl) (pe_fn GR hr (by rfl) (pa_cons (pv 0) (pa_cons (pv 1) (pa_cons (pe_makeR0 (E := E0) M GI hr3 (by rfl) TL.mgC pass0) (pa_cons (pv 2) pa_nil))))))
      (pss_one (ps_ret (pe_and (pe_cmp (pc_notN (pv 3))) (pe_one (pe_callB (cr_any rfl) (by rfl) B.any PyProof.Rows.boot_any (pa_cons (pe_lc (own := [("room", 4)]) (g := (gName 4)) (tt := tYes) (te := (tOp (rIn K false) (tVar 4) (tProp CP (getSp CP "kept_shuns") [] E0 (tVar 1)))) rfl scLeads.nd  (pi_list (pv 3)) (blkOk_by (N := nLeads) (sc := defScope s_leads_to_shunned) (by decide +kernel)) (fun _ _ _ _ _ => (pg_name (i := 4) scLeads.nd rfl (Or.inl rfl))) (fun _ _ _ _ _ => pts_nil) (fun _ _ _ _ _ => (pe_cmpR (r := (rIn K false)) op_in_seq (pv 4) (pe_pr TP.shuns hr2 TP.c.cl (pv 1) rfl) rfl))) pa_nil))))))), ?_⟩
    obtain ⟨⟨dy, t1, t2, t3, h0, h1, h2, h3⟩, pok⟩ := id hp
    refine ⟨.ref x, rfl, .ref y, rfl, ?_⟩
    intro c dc nc ndc nec
    have nm0 : ∀ z ∈ ([] : List Str), isNm z = true := fun _ z => by cases z
    refine ⟨c, dc, [], rfl, upd_same, nm0, by decide, fun H1 tz kp e1 e2 => ⟨rfl, ?_⟩⟩
    obtain ⟨s1, hc⟩ := made_at nc ndc nec nm0 kp e1 e2
    refine ⟨.ref t, rfl, x, y, c, t, b, p, [], tr, rfl, hb.same s1, hp.same s1, hc, Same.tup s1 ht, few, sub, fun e H2 s2 => ?_, fun R e H2 m s2 nm em => ?_⟩
    · have q2 := q _ (s1.trans s2)
      unfold thrOf at q2
      rw [e] at q2
      exact ⟨.non, rfl, false, rfl, iteF q2⟩
    · have s12 := s1.trans s2
      refine ⟨.ref m, rfl, true, rfl, iteT ?_⟩
      have lR := rooms_len tr _ e
      rw [List.length_singleton] at lR
      refine ⟨.ref m, rfl, m, rfl, ⟨_, .inl (.inl em)⟩, fun D nD => lc_it (walk_list (xs := R.map V.str)) (fun i H' => Grow H2 D ((R.map fun z => V.bl (decide (z ∈ p.shuns))).take i) H') (grow0 nD) (fun i H' _ hP => .inl (.inl (hP.1 _ _ em))) (fun i v H3 H4 hi hP hY => ?_) (fun H3 hP => ?_)⟩
      · obtain ⟨rfl, hx⟩ := hY
        obtain ⟨z, hz, rfl⟩ := at_map hx
        have s3 := s12.trans hP.1
        refine ⟨rfl, .str z, rfl, .ref y, rfl, y, dy, _, rfl, s3 _ _ h0, y, dy, _, _, rfl, s3 _ _ h0, (look_person p.a t1 t2 t3).2.2.2, t3, _, rfl, .inr (Same.tup s3 h3), rfl, flat_strs _, ?_⟩
        rw [inV_str]
        refine grow1 nD hP ?_ (take_next hz)
        rw [List.length_take, List.length_map, sizeLine_eq]
        omega
      · obtain ⟨s3, eD⟩ := hP
        rw [List.length_map, List.take_of_length_le (by rw [List.length_map]; exact Nat.le_refl _)] at eD
        refine ⟨D, R.map fun z => decide (z ∈ p.shuns), rfl, .inl (.inl (by rw [List.map_map]; exact eD)), ?_⟩
        have q2 := q _ (s12.trans s3)
        unfold thrOf at q2
        rw [e] at q2
        rw [List.any_map]
        exact q2
/-! ### shuts_out -/
def spShuts (K : PySem.W.Frag) (CD CP CB : Addr) : Sp := fun vs H Q _ => ∃ (x t : Addr) (b : BldD) (n : Str) (p : PersonD) (tr : List Str), vs = [.ref x, .str n, .ref t] ∧ BldAt K CD CP CB H x b ∧ b.people.lookup n = some p ∧ SqT K H t (tr.map V.str) ∧ tr.length ≤ 60 ∧ (∀ z ∈ tr, z ∈ b.doors.map (·.1)) ∧ ∀ H', Same H H' → Q (.bl (shutOf b p tr)) H'
abbrev nShuts : List Str := ["building", "name", "doors", "door"]
theorem scShuts : FnScope nShuts ["building", "name", "doors"] (defScope s_shuts_out) := ⟨rfl, rfl, rfl, by decide +kernel, rfl, by decide +kernel, by decide +kernel⟩
theorem eqv_lists (zs ws : List Str) : PyData.eqv (.list (zs.map PyData.str)) (.list (ws.map PyData.str)) = decide (zs = ws) := by
  rw [PyData.eqv]
  exact eqvAll_strs zs ws
theorem door_nm {b : BldD} (ok : b.ok) {zs : List Str} (h : ∀ z ∈ zs, z ∈ b.doors.map (·.1)) : ∀ z ∈ zs, isNm z = true := fun z hz => by
  obtain ⟨q, hq, rfl⟩ := List.mem_map.mp (h z hz)
  exact (ok.doors _ hq).1
theorem ok_shuts {f : Addr} {fd : FuncData} (F : Fun K "shuts_out" "shuts_out" s_shuts_out f fd) (B : Blt mg) (TL : LkC K mg CL) (T : OwnC K mg CB "Building" bldF) (TP : PersT P w K mg base CP) (ML : MkLs P w K mg base CL)
    (PD : Pr P w K mg base 1 CB "doors" (spBDoors K CD CP CB)) (GI' : Fn P w K mg base 1 "all_in" ["names", "known"] (spAllIn K)) (MP : Mt P w K mg base 2 CB "person" ["self", "name"] (spPersOf K CD CP CB)) (MR : Mt P w K mg base 7 CB "reach" ["self", "name", "locks"] (spReach K CD CP CB CL)) :
    FnOk P w K mg base CX0 8 f fd ["building", "name", "doors"] (spShuts K CD CP CB) := by
  obtain ⟨fI, M, GI⟩ := ML.ex
  refine F.ok scShuts (fun vs H Q E h => ?_) (fun cdv A outer s H vs Q E hr h => ?_)
  · obtain ⟨x, t, b, n, p, tr, rfl, _⟩ := h
    rfl
  · obtain ⟨x, t, b, n, p, tr, rfl, hb, hn, ht, few, sub, q⟩ := h
    have hr1 := hr.mono (show 1 ≤ 7 by decide)
    have hr2 := hr.mono (show 2 ≤ 7 by decide)
    have hr3 := hr.mono (show 3 ≤ 7 by decide)
    refine ⟨_, (pss_cons (ps_if (pt_cmpR (op_neD hr.units) (pe_callTy call_list_of (by rfl) B.lst PyProof.Rows.boot_list (pa_cons (pv 2) pa_nil)) (pe_lc (own := [("door", 3)]) (g := (gName 3)) (tt := (tTest (tOp (rIn K false) (tVar 3) (tVar 2)))) (te := (tVar 3)) rfl scShuts.nd  (pi_list (pe_pr PD hr2 T.cl (pv 0) rfl)) (blkOk_by (N := nShuts) (sc := defScope s_shuts_out) (by decide +kernel)) (fun _ _ _ _ _ => (pg_name (i := 3) scShuts.nd rfl (Or.inl rfl))) (fun _ _ _ _ _ => (pts_one (pt_cmpR (r := (rIn K false)) op_in_seq (pv 3) (pv 2) rfl))) (fun _ _ _ _ _ => (pv 3))) (nomark _)) (pss_one (ps_ret pe_bl)) pss_nil)
      (pss_one (ps_ret (pe_not (pe_fn GI' hr1 (by rfl) (pa_cons (pe_pr TP.needs hr2 TP.c.cl (pe_mt MP hr2 T.cl (pv 0) (pa_cons (pv 1) pa_nil)) rfl) (pa_cons (pe_mt MR hr T.cl (pv 0) (pa_cons (pv 1) (pa_cons (pe_makeS (E := E0) M GI hr3 (by rfl) TL.mgC pass0 (pv 2)) pa_nil))) pa_nil))))))), ?_⟩
    obtain ⟨⟨dx, r, k, dn, dd, pn, pd, ok, od, op, kvs, ds, ps, I⟩, bok⟩ := id hb
    have nmt := door_nm bok sub
    refine ⟨.ref t, rfl, t, _, rfl, .inr ht, fun l0 nl0 => ?_⟩
    have s0 := same_new (o := .lst (tr.map V.str)) nl0
    refine ⟨.ref x, rfl, x, dx, _, rfl, s0 _ _ I.ob, x, b, rfl, hb.same s0, fun l1 nl1 => ?_⟩
    have s1 := same_new (o := .lst ((b.doors.map (·.1)).map V.str)) nl1
    have s01 := s0.trans s1
    refine ⟨l1, rfl, ⟨_, .inl (.inl upd_same)⟩, fun D nD => lc_mf (walk_list (xs := (b.doors.map (·.1)).map V.str)) (b.doors.map (·.1)) (fun z => decide (z ∈ tr)) V.str (by rw [List.length_map]) nD (by rw [List.length_map]; have := bok.d8; omega) (fun H' s' => .inl (.inl (s' _ _ upd_same))) (fun i u v H3 H4 Kt Kf hz s3 hY kt kf => ?_) (fun H3 s3 eD => ?_)⟩
    · obtain ⟨rfl, hx⟩ := hY
      rw [List.getElem?_map, hz] at hx
      cases hx
      refine ⟨rfl, .str u, rfl, .ref t, rfl, t, _, rfl, .inr (Same.tup (s01.trans s3) ht), rfl, flat_strs tr, _, rfl, ?_⟩
      rw [inV_str]
      exact ite2 (fun e => ⟨.str u, rfl, kt e _ (Same.refl _)⟩) (fun e => kf (Bool.eq_false_iff.mpr e) _ (Same.refl _))
    · have s03 := s01.trans s3
      have eD' : H3 D = some (.lst ((inOrder b tr).map V.str)) := eD
      refine ⟨_, _, .lst (.inl (.inl (s3 _ _ (s1 _ _ upd_same)))) (dp_strs _), .lst (.inl (.inl eD')) (dp_strs _), shaped_strsL fun z hz => nm_ok (nmt z hz), shaped_strsL (fun z hz => nm_ok (nmt z (of_decide_eq_true (List.mem_filter.mp hz).2))), _, rfl, ?_⟩
      rw [eqv_lists]
      by_cases eo : tr = inOrder b tr
      · rw [decide_eq_true eo]
        refine iteF ?_
        refine ⟨.ref x, rfl, x, dx, _, rfl, s03 _ _ I.ob, rfl, .str n, rfl, x, b, n, p, rfl, hb.same s03, hn, fun H4 y s4 hy => ?_⟩
        obtain ⟨⟨dy, t1, t2, t3, h0, h1, h2, h3⟩, pok⟩ := id hy
        have s04 := s03.trans s4
        refine ⟨y, dy, _, rfl, h0, y, dy, _, _, rfl, h0, (look_person p.a t1 t2 t3).2.2.1, ?_⟩
        refine ⟨.ref x, rfl, x, dx, _, rfl, s04 _ _ I.ob, rfl, .str n, rfl, .ref t, rfl, t, _, rfl, .inl (Same.tup s04 ht), ?_⟩
        intro c dc nc ndc nec
        refine ⟨c, dc, tr, rfl, upd_same, nmt, by omega, fun H5 tz kp e1 e2 => ⟨rfl, ?_⟩⟩
        obtain ⟨s5, hc⟩ := made_at nc ndc nec nmt kp e1 e2
        have s05 := s04.trans s5
        refine ⟨x, c, b, n, p, srt tr, rfl, hb.same s05, hn, hc, Nat.le_trans (len_srt tr) (by omega), fun z hz => sub z ((mem_srt tr z).1 hz), fun H6 m g s6 nm hg em => ?_⟩
        have s56 := s5.trans s6
        refine ⟨t2, m, p.needs, b.rooms.filter g, rfl, by have := pok.few2; omega, Same.tup s56 h2, .inl (.inl (.inl em)), fun H7 s7 => ?_⟩
        have q2 := q _ ((s05.trans s6).trans s7)
        unfold shutOf at q2
        rw [decide_eq_true eo, Bool.true_and] at q2
        have e3 : (p.needs.all fun z => decide (z ∈ b.rooms.filter g)) = p.needs.all fun z => decide (z ∈ reachL b p (srt tr)) := by
          rw [Bool.eq_iff_iff, List.all_eq_true, List.all_eq_true]
          refine forall_congr' fun z => forall_congr' fun _ => ?_
          rw [decide_eq_true_eq, decide_eq_true_eq, List.mem_filter, hg z, mem_reachL bok]
          exact ⟨fun h => h.2, fun h => ⟨rch_in bok (look_mem hn) h, h⟩⟩
        rw [← e3] at q2
        exact ⟨_, rfl, q2⟩
      · rw [decide_eq_false eo]
        have q2 := q _ s03
        unfold shutOf at q2
        rw [decide_eq_false eo, Bool.false_and] at q2
        exact iteT q2
end
end Lk
set_option Elab.async false
set_option linter.all false
set_option maxRecDepth 100000
set_option maxHeartbeats 4000000
namespace Lk
open PySem PySem.Spec PyProof.Rows L2 TxS LkO LkG
section
variable {P : Program} {w : World} {K : PySem.W.Frag} {mg : Str → Option Value} {base : Heap} {CD CP CB CL : Addr}
/-! ### all_in of names and a set -/
def spAllInK (K : PySem.W.Frag) (CL : Addr) : Sp := fun vs H Q _ => ∃ (a c : Addr) (zs ls : List Str), vs = [.ref a, .ref c] ∧ zs.length ≤ 1000 ∧ SqT K H a (zs.map V.str) ∧ LkAt CL H c ls ∧ ∀ H', Same H H' → Q (.bl (zs.all fun z => decide (z ∈ ls))) H'
abbrev nAllK : List Str := ["names", "known", "name"]
theorem ok_allInK {f : Addr} {fd : FuncData} (F : Fun K "all_in" "all_in" s_all_in f fd) (B : Blt mg) (HL : Has P w K mg base CL) : FnOk P w K mg base CX0 2 f fd ["names", "known"] (spAllInK K CL) := by
  obtain ⟨fH, fdH, mH, bH, FH⟩ := HL.ex
  refine F.ok scAllIn (fun vs H Q E h => ?_) (fun cdv A outer s H vs Q E hr h => ?_)
  · obtain ⟨a, b, zs, ws, rfl, _⟩ := h
    rfl
  · obtain ⟨a, c, zs, ls, rfl, len, ha, hc, q⟩ := h
    refine ⟨_, pss_one (ps_ret (pe_callB (cr_all rfl) (by rfl) B.all PyProof.Rows.boot_all (pa_cons (pe_lc (own := [("name", 2)]) (g := gName 2) (tt := tYes) (te := tOp (rOwnIn CL (spHas CL) E0 false) (tVar 2) (tVar 1)) rfl scAllIn.nd (pi_tup (pv 0))
      (blkOk_by (N := nAllK) (sc := defScope s_all_in) (by decide +kernel)) (fun _ _ _ _ _ => pg_name (i := 2) scAllIn.nd rfl (Or.inl rfl)) (fun _ _ _ _ _ => pts_nil) (fun _ _ _ _ _ => pe_cmpR (op_ownIn (E := E0) mH FH hr bH pass0) (pv 2) (pv 1) rfl)) pa_nil))), ?_⟩
    obtain ⟨⟨dz, tz, hz1, hz2⟩, za, zn⟩ := id hc
    refine ⟨.ref a, rfl, a, rfl, ⟨_, ha⟩, fun D nD => lc_m (walk_tup (xs := zs.map V.str)) zs (fun z => .bl (decide (z ∈ ls))) (by rw [List.length_map]) nD len (fun H' s => Same.tup s ha) (fun i z x H2 H3 Kt hz s2 hY k => ?_) (fun H2 s2 e => ?_)⟩
    · obtain ⟨rfl, hx⟩ := hY
      rw [List.getElem?_map, hz] at hx
      cases hx
      exact ⟨rfl, .str z, rfl, .ref c, rfl, c, dz, _, rfl, s2 _ _ hz1, c, ls, z, rfl, hc.same s2, _, rfl, k _ (Same.refl _)⟩
    · refine ⟨D, zs.map fun z => decide (z ∈ ls), rfl, .inl (.inl (by rw [List.map_map]; exact e)), ?_⟩
      rw [List.all_map]
      exact q _ s2
/-! ### strikes -/
def spStrikes (K : PySem.W.Frag) (CL : Addr) : Sp := fun vs H Q _ => ∃ (d c : Addr) (th : Bool) (n : Str) (tr ls : List Str), vs = [.ref d, .ref c] ∧ DbtAt K H d th n tr ∧ tr.length ≤ 1000 ∧ LkAt CL H c ls ∧ ∀ H', Same H H' → Q (.bl (strikeOf th tr ls)) H'
abbrev nStrikes : List Str := ["doubt", "locks", "form", "name", "doors", "door"]
theorem scStrikes : FnScope nStrikes ["doubt", "locks"] (defScope s_strikes) := ⟨rfl, rfl, rfl, by decide +kernel, rfl, by decide +kernel, by decide +kernel⟩
theorem word_dec (th : Bool) : decide (V.str (wordOf th) = V.str "through") = th := by cases th <;> rfl
theorem ok_strikes {f : Addr} {fd : FuncData} (F : Fun K "strikes" "strikes" s_strikes f fd) (B : Blt mg) (W : Words mg) (HL : Has P w K mg base CL) (GA : Fn P w K mg base 2 "all_in" ["names", "known"] (spAllInK K CL)) : FnOk P w K mg base CX0 3 f fd ["doubt", "locks"] (spStrikes K CL) := by
  obtain ⟨tt, eT⟩ := W.th
  obtain ⟨fH, fdH, mH, bH, FH⟩ := HL.ex
  refine F.ok scStrikes (fun vs H Q E h => ?_) (fun cdv A outer s H vs Q E hr h => ?_)
  · obtain ⟨d, c, th, n, tr, ls, rfl, _⟩ := h
    rfl
  · obtain ⟨d, c, th, n, tr, ls, rfl, hd, few, hc, q⟩ := h
    have hr1 := hr.mono (show 1 ≤ 2 by decide)
    refine ⟨_, pss_cons (ps_asg (pv 0) (pg_tup rfl (pgs_cons (pg_name (i := 2) scStrikes.nd rfl (Or.inl rfl)) (pgs_cons (pg_name (i := 3) scStrikes.nd rfl (Or.inl rfl)) (pgs_cons (pg_name (i := 4) scStrikes.nd rfl (Or.inl rfl)) pgs_nil)))))
      (pss_cons (ps_if (pt_cmpR op_eq (pv 2) (pe_glob (v := .str "through") (by rfl) eT ⟨_, rfl⟩) (nomark _)) (pss_one (ps_ret (pe_not (pe_callB (cr_any rfl) (by rfl) B.any PyProof.Rows.boot_any (pa_cons (pe_lc (own := [("door", 5)]) (g := gName 5) (tt := tYes) (te := tOp (rOwnIn CL (spHas CL) E0 false) (tVar 5) (tVar 1)) rfl scStrikes.nd (pi_tup (pv 4))
        (blkOk_by (N := nStrikes) (sc := defScope s_strikes) (by decide +kernel)) (fun _ _ _ _ _ => pg_name (i := 5) scStrikes.nd rfl (Or.inl rfl)) (fun _ _ _ _ _ => pts_nil) (fun _ _ _ _ _ => pe_cmpR (op_ownIn (E := E0) mH FH hr1 bH pass0) (pv 5) (pv 1) rfl)) pa_nil))))) pss_nil)
      (pss_one (ps_ret (pe_fn GA hr (by rfl) (pa_cons (pv 4) (pa_cons (pv 1) pa_nil)))))), ?_⟩
    obtain ⟨t, h1, h2⟩ := hd.ex
    obtain ⟨⟨dz, tz, hz1, hz2⟩, za, zn⟩ := id hc
    refine ⟨.ref d, rfl, d, _, rfl, h1, rfl, _, _, rfl, _, _, rfl, _, _, rfl, rfl, ?_⟩
    refine ⟨_, rfl, rfl, _, rfl, ?_⟩
    rw [word_dec]
    cases th with
    | true =>
      refine iteT ?_
      refine ⟨.ref t, rfl, t, rfl, ⟨_, h2⟩, fun D nD => lc_m (walk_tup (xs := tr.map V.str)) tr (fun z => .bl (decide (z ∈ ls))) (by rw [List.length_map]) nD few (fun H' s => Same.tup s h2) (fun i z x H2 H3 Kt hz s2 hY k => ?_) (fun H2 s2 e => ?_)⟩
      · obtain ⟨rfl, hx⟩ := hY
        rw [List.getElem?_map, hz] at hx
        cases hx
        exact ⟨rfl, .str z, rfl, .ref c, rfl, c, dz, _, rfl, s2 _ _ hz1, c, ls, z, rfl, hc.same s2, _, rfl, k _ (Same.refl _)⟩
      · refine ⟨D, tr.map fun z => decide (z ∈ ls), rfl, .inl (.inl (by rw [List.map_map]; exact e)), _, rfl, ?_⟩
        rw [List.any_map]
        exact q _ s2
    | false =>
      exact iteF ⟨.ref t, rfl, .ref c, rfl, t, c, tr, ls, rfl, few, h2, hc, q⟩
/-! ### is_doubt -/
def spIsDbt (K : PySem.W.Frag) (CD CP CB : Addr) : Sp := fun vs H Q _ => ∃ (x d : Addr) (b : BldD) (th : Bool) (n : Str) (p : PersonD) (tr : List Str), vs = [.ref x, .ref d] ∧ BldAt K CD CP CB H x b ∧ DbtAt K H d th n tr ∧ OkDbt b n p tr ∧ tr.length ≤ 60 ∧ ∀ H', Same H H' → Q (.bl (dbtOf b p th tr)) H'
abbrev nIsDbt : List Str := ["building", "doubt", "form", "name", "doors"]
theorem scIsDbt : FnScope nIsDbt ["building", "doubt"] (defScope s_is_doubt) := ⟨rfl, rfl, rfl, by decide +kernel, rfl, by decide +kernel, by decide +kernel⟩
theorem ok_isDbt {f : Addr} {fd : FuncData} (F : Fun K "is_doubt" "is_doubt" s_is_doubt f fd) (W : Words mg) (T : OwnC K mg CB "Building" bldF) (GB : Fn P w K mg base 1 "check_building" ["building"] (spChkB CB)) (GC : Fn P w K mg base 5 "check_doubt" ["building", "doubt"] (spChkD K CD CP CB))
    (MP : Mt P w K mg base 2 CB "person" ["self", "name"] (spPersOf K CD CP CB)) (GL : Fn P w K mg base 7 "leads_to_shunned" ["building", "person", "trail"] (spLeads K CD CP CB)) (GS : Fn P w K mg base 8 "shuts_out" ["building", "name", "doors"] (spShuts K CD CP CB)) :
    FnOk P w K mg base CX0 9 f fd ["building", "doubt"] (spIsDbt K CD CP CB) := by
  obtain ⟨tt, eT⟩ := W.th
  refine F.ok scIsDbt (fun vs H Q E h => ?_) (fun cdv A outer s H vs Q E hr h => ?_)
  · obtain ⟨x, d, b, th, n, p, tr, rfl, _⟩ := h
    rfl
  · obtain ⟨x, d, b, th, n, p, tr, rfl, hb, hd, ho, l60, q⟩ := h
    have hr1 := hr.mono (show 1 ≤ 8 by decide)
    have hr2 := hr.mono (show 2 ≤ 8 by decide)
    have hr5 := hr.mono (show 5 ≤ 8 by decide)
    have hr7 := hr.mono (show 7 ≤ 8 by decide)
    refine ⟨_, (pss_cons (ps_expr (pe_fn GB hr1 (by rfl) (pa_cons (pv 0) pa_nil)))
      (pss_cons (ps_expr (pe_fn GC hr5 (by rfl) (pa_cons (pv 0) (pa_cons (pv 1) pa_nil))))
      (pss_cons (ps_asg (pv 1) (pg_tup rfl (pgs_cons (pg_name (i := 2) scIsDbt.nd rfl (Or.inl rfl)) (pgs_cons (pg_name (i := 3) scIsDbt.nd rfl (Or.inl rfl)) (pgs_cons (pg_name (i := 4) scIsDbt.nd rfl (Or.inl rfl)) pgs_nil)))))
      (pss_cons (ps_if (pt_cmpR op_eq (pv 2) (pe_glob (v := .str "through") (by rfl) eT ⟨_, rfl⟩) (nomark _)) (pss_one (ps_ret (pe_fn GL hr7 (by rfl) (pa_cons (pv 0) (pa_cons (pe_mt MP hr2 T.cl (pv 0) (pa_cons (pv 3) pa_nil)) (pa_cons (pv 4) pa_nil)))))) pss_nil)
      (pss_one (ps_ret (pe_fn GS hr (by rfl) (pa_cons (pv 0) (pa_cons (pv 3) (pa_cons (pv 4) pa_nil)))))))))), ?_⟩
    obtain ⟨⟨dx, r, k, dn, dd, pn, pd, ok, od, op, kvs, ds, ps, I⟩, bok⟩ := id hb
    refine ⟨.ref x, rfl, x, dx, _, rfl, I.ob, ?_⟩
    refine ⟨.ref x, rfl, .ref d, rfl, x, d, b, th, n, p, tr, rfl, hb, hd, ho, fun H1 s1 => ?_⟩
    obtain ⟨t, h1, h2⟩ := (hd.same s1).ex
    obtain ⟨hn, few, sub⟩ := ho
    refine ⟨.ref d, rfl, d, _, rfl, h1, rfl, _, _, rfl, _, _, rfl, _, _, rfl, rfl, ?_⟩
    refine ⟨_, rfl, rfl, _, rfl, ?_⟩
    rw [word_dec]
    cases th with
    | true =>
      refine iteT ⟨.ref x, rfl, .ref x, rfl, x, dx, _, rfl, s1 _ _ I.ob, rfl, .str n, rfl, x, b, n, p, rfl, hb.same s1, hn, fun H2 y s2 hy => ?_⟩
      exact ⟨.ref t, rfl, x, y, t, b, p, tr, rfl, (hb.same s1).same s2, hy, Same.tup s2 h2, few, sub, fun H3 s3 => q _ (s1.trans (s2.trans s3))⟩
    | false => exact iteF ⟨.ref x, rfl, .str n, rfl, .ref t, rfl, x, t, b, n, p, tr, rfl, hb.same s1, hn, h2, l60, sub, fun H3 s3 => q _ (s1.trans s3)⟩
end
end Lk
set_option Elab.async false
set_option linter.all false
set_option maxRecDepth 100000
set_option maxHeartbeats 4000000
namespace Lk
open PySem PySem.Spec PyProof.Rows L2 TxS LkO LkG LamX LkS
theorem DbtAt.nx {K : PySem.W.Frag} {H H' : Hp} {x : Addr} {th : Bool} {n : Str} {tr : List Str} (h : DbtAt K H x th n tr) (s : NX H H') : DbtAt K H' x th n tr := let ⟨t, h1, h2⟩ := h.ex; ⟨t, s.tup h1, s.tup h2⟩
/-- a doubt, or a tuple in its form: its form, its person, its doors -/
abbrev Dv := Bool × Str × List Str
def strV (ls : List Str) (d : Dv) : Bool := strikeOf d.1 d.2.2 ls
def dbtV (b : BldD) (d : Dv) : Bool := match b.people.lookup d.2.1 with
  | some p => dbtOf b p d.1 d.2.2
  | none => false
/-- a doubt about a set -/
def doubtOf (b : BldD) (ls : List Str) : Option Dv := b.people.findSome? fun q => match intoOf b q.2 ls q.2.shuns with
  | some tr => some (true, q.1, tr)
  | none => if (q.2.needs.all fun z => decide (z ∈ reachL b q.2 ls)) = true then none else some (false, q.1, inOrder b ls)
section
variable {P : Program} {w : World} {K : PySem.W.Frag} {mg : Str → Option Value} {base : Heap} {CD CP CB CL : Addr}
abbrev DbtA (K : PySem.W.Frag) (H : Hp) (d : Addr × Dv) : Prop := DbtAt K H d.1 d.2.1 d.2.2.1 d.2.2.2
/-! ### is_struck -/
def spStruck (K : PySem.W.Frag) (CL : Addr) : Sp := fun vs H Q _ => ∃ (l z : Addr) (ds : List (Addr × Dv)) (ls : List Str), vs = [.ref l, .ref z] ∧ SqL K H l (ds.map fun d => V.ref d.1) ∧ ds.length ≤ 1000 ∧ (∀ d ∈ ds, DbtA K H d ∧ d.2.2.2.length ≤ 1000) ∧ LkAt CL H z ls ∧
  ∀ H', Same H H' → Q (.bl (ds.any fun d => strV ls d.2)) H'
abbrev nStruck : List Str := ["doubts", "locks", "doubt"]
theorem scStruck : FnScope nStruck ["doubts", "locks"] (defScope s_is_struck) := ⟨rfl, rfl, rfl, by decide +kernel, rfl, by decide +kernel, by decide +kernel⟩
theorem ok_struck {f : Addr} {fd : FuncData} (F : Fun K "is_struck" "is_struck" s_is_struck f fd) (B : Blt mg) (GS : Fn P w K mg base 3 "strikes" ["doubt", "locks"] (spStrikes K CL)) : FnOk P w K mg base CX0 4 f fd ["doubts", "locks"] (spStruck K CL) := by
  refine F.ok scStruck (fun vs H Q E h => ?_) (fun cdv A outer s H vs Q E hr h => ?_)
  · obtain ⟨l, z, ds, ls, rfl, _⟩ := h
    rfl
  · obtain ⟨l, z, ds, ls, rfl, hl, few, each, hz, q⟩ := h
    refine ⟨_, (pss_one (ps_ret (pe_callB (cr_any rfl) (by rfl) B.any PyProof.Rows.boot_any (pa_cons (pe_lc (own := [("doubt", 2)]) (g := (gName 2)) (tt := tYes) (te := (tCall (spStrikes K CL) [] E0 (tCons (tVar 2) (tCons (tVar 1) tNil)))) rfl scStruck.nd  (pi_list (pv 0)) (blkOk_by (N := nStruck) (sc := defScope s_is_struck) (by decide +kernel)) (fun _ _ _ _ _ => (pg_name (i := 2) scStruck.nd rfl (Or.inl rfl))) (fun _ _ _ _ _ => pts_nil) (fun _ _ _ _ _ => (pe_fn GS hr (by rfl) (pa_cons (pv 2) (pa_cons (pv 1) pa_nil))))) pa_nil)))), ?_⟩
    refine ⟨.ref l, rfl, l, rfl, ⟨_, hl⟩, fun D nD => lc_m (walk_list (xs := ds.map fun d : Addr × Dv => V.ref d.1)) ds (fun d => .bl (strV ls d.2)) (by rw [List.length_map]) nD few (fun H' s => s.seq hl) (fun i d x H2 H3 Kt hd s2 hY k => ?_) (fun H2 s2 e => ?_)⟩
    · obtain ⟨rfl, hx⟩ := hY
      rw [List.getElem?_map, hd] at hx
      cases hx
      obtain ⟨h1, h2⟩ := each d (List.mem_of_getElem? hd)
      exact ⟨rfl, .ref d.1, rfl, .ref z, rfl, d.1, z, d.2.1, d.2.2.1, d.2.2.2, ls, rfl, h1.same s2, h2, hz.same s2, fun H4 s4 => k _ s4⟩
    · refine ⟨D, ds.map fun d => strV ls d.2, rfl, .inl (.inl (by rw [List.map_map]; exact e)), ?_⟩
      rw [List.any_map]
      exact q _ s2
/-! ### are_doubts -/
def OkV (b : BldD) (d : Dv) : Prop := ∃ p, OkDbt b d.2.1 p d.2.2 ∧ d.2.2.length ≤ 60
def spAreD (K : PySem.W.Frag) (CD CP CB : Addr) : Sp := fun vs H Q _ => ∃ (x l : Addr) (b : BldD) (ds : List (Addr × Dv)), vs = [.ref x, .ref l] ∧ BldAt K CD CP CB H x b ∧ SqL K H l (ds.map fun d => V.ref d.1) ∧ ds.length ≤ 1000 ∧ (∀ d ∈ ds, DbtA K H d ∧ OkV b d.2) ∧
  ∀ H', Same H H' → Q (.bl (ds.all fun d => dbtV b d.2)) H'
abbrev nAreD : List Str := ["building", "doubts", "doubt"]
theorem scAreD : FnScope nAreD ["building", "doubts"] (defScope s_are_doubts) := ⟨rfl, rfl, rfl, by decide +kernel, rfl, by decide +kernel, by decide +kernel⟩
theorem ok_areD {f : Addr} {fd : FuncData} (F : Fun K "are_doubts" "are_doubts" s_are_doubts f fd) (B : Blt mg) (GI : Fn P w K mg base 9 "is_doubt" ["building", "doubt"] (spIsDbt K CD CP CB)) : FnOk P w K mg base CX0 10 f fd ["building", "doubts"] (spAreD K CD CP CB) := by
  refine F.ok scAreD (fun vs H Q E h => ?_) (fun cdv A outer s H vs Q E hr h => ?_)
  · obtain ⟨x, l, b, ds, rfl, _⟩ := h
    rfl
  · obtain ⟨x, l, b, ds, rfl, hb, hl, few, each, q⟩ := h
    refine ⟨_, (pss_one (ps_ret (pe_callB (cr_all rfl) (by rfl) B.all PyProof.Rows.boot_all (pa_cons (pe_lc (own := [("doubt", 2)]) (g := (gName 2)) (tt := tYes) (te := (tCall (spIsDbt K CD CP CB) [] E0 (tCons (tVar 0) (tCons (tVar 2) tNil)))) rfl scAreD.nd  (pi_list (pv 1)) (blkOk_by (N := nAreD) (sc := defScope s_are_doubts) (by decide +kernel)) (fun _ _ _ _ _ => (pg_name (i := 2) scAreD.nd rfl (Or.inl rfl))) (fun _ _ _ _ _ => pts_nil) (fun _ _ _ _ _ => (pe_fn GI hr (by rfl) (pa_cons (pv 0) (pa_cons (pv 2) pa_nil))))) pa_nil)))), ?_⟩
    refine ⟨.ref l, rfl, l, rfl, ⟨_, hl⟩, fun D nD => lc_m (walk_list (xs := ds.map fun d : Addr × Dv => V.ref d.1)) ds (fun d => .bl (dbtV b d.2)) (by rw [List.length_map]) nD few (fun H' s => s.seq hl) (fun i d v H2 H3 Kt hd s2 hY k => ?_) (fun H2 s2 e => ?_)⟩
    · obtain ⟨rfl, hx⟩ := hY
      rw [List.getElem?_map, hd] at hx
      cases hx
      obtain ⟨h1, p, h2, h3⟩ := each d (List.mem_of_getElem? hd)
      refine ⟨rfl, .ref x, rfl, .ref d.1, rfl, x, d.1, b, d.2.1, d.2.2.1, p, d.2.2.2, rfl, hb.same s2, h1.same s2, h2, h3, fun H4 s4 => ?_⟩
      have kk := k _ s4
      unfold dbtV at kk
      rw [h2.1] at kk
      exact kk
    · refine ⟨D, ds.map fun d => dbtV b d.2, rfl, .inl (.inl (by rw [List.map_map]; exact e)), ?_⟩
      rw [List.all_map]
      exact q _ s2
/-! ### doubt_about -/
def spAbout (K : PySem.W.Frag) (CD CP CB CL : Addr) : Sp := fun vs H Q _ => ∃ (x z : Addr) (b : BldD) (ls : List Str), vs = [.ref x, .ref z] ∧ BldAt K CD CP CB H x b ∧ LkAt CL H z ls ∧ ls.length ≤ 1000 ∧ (∀ z ∈ ls, z ∈ b.doors.map (·.1)) ∧
  (doubtOf b ls = none → ∀ H', Same H H' → Q .non H') ∧ ∀ d : Dv, doubtOf b ls = some d → ∀ H' a, Same H H' → DbtA K H' (a, d) → Q (.ref a) H'
abbrev nAbout : List Str := ["building", "locks", "name", "person", "trail", "door"]
theorem scAbout : FnScope nAbout ["building", "locks"] (defScope s_doubt_about) := ⟨rfl, rfl, rfl, by decide +kernel, rfl, by decide +kernel, by decide +kernel⟩
theorem ok_about {f : Addr} {fd : FuncData} (F : Fun K "doubt_about" "doubt_about" s_doubt_about f fd) (B : Blt mg) (W : Words mg) (T : OwnC K mg CB "Building" bldF) (TP : PersT P w K mg base CP) (HL : Has P w K mg base CL) (PD : Pr P w K mg base 1 CB "doors" (spBDoors K CD CP CB)) (PP : Pr P w K mg base 1 CB "people" (spBPeople K CD CP CB))
    (MP : Mt P w K mg base 2 CB "person" ["self", "name"] (spPersOf K CD CP CB)) (MR : Mt P w K mg base 7 CB "reach" ["self", "name", "locks"] (spReach K CD CP CB CL)) (GA : Fn P w K mg base 1 "all_in" ["names", "known"] (spAllIn K)) (GT : Fn P w K mg base 8 "trail_into" ["building", "name", "locks", "wanted"] (spInto K CD CP CB CL)) :
    FnOk P w K mg base CX0 9 f fd ["building", "locks"] (spAbout K CD CP CB CL) := by
  obtain ⟨tt, eT⟩ := W.th
  obtain ⟨ts, eS⟩ := W.sh
  obtain ⟨fH, fdH, mH, bH, FH⟩ := HL.ex
  refine F.ok scAbout (fun vs H Q E h => ?_) (fun cdv A outer s H vs Q E hr h => ?_)
  · obtain ⟨x, z, b, ls, rfl, _⟩ := h
    rfl
  · obtain ⟨x, z, b, ls, rfl, hb, hz, few, sub, q0, q1⟩ := h
    have hr1 := hr.mono (show 1 ≤ 8 by decide)
    have hr2 := hr.mono (show 2 ≤ 8 by decide)
    have hr7 := hr.mono (show 7 ≤ 8 by decide)
    refine ⟨_, (pss_cons (ps_for PassesOwn.never rfl (pi_list (pe_pr PP hr2 T.cl (pv 0) rfl)) (pg_name (i := 2) scAbout.nd rfl (Or.inl rfl)) (pss_cons (ps_set (i := 3) scAbout.nd rfl (.inl rfl) (pe_mt MP hr2 T.cl (pv 0) (pa_cons (pv 2) pa_nil)))
      (pss_cons (ps_set (i := 4) scAbout.nd rfl (.inl rfl) (pe_fn GT hr (by rfl) (pa_cons (pv 0) (pa_cons (pv 2) (pa_cons (pv 1) (pa_cons (pe_pr TP.shuns hr2 TP.c.cl (pv 3) rfl) pa_nil))))))
      (pss_cons (ps_if (pt_cmp (pc_notN (pv 4))) (pss_one (ps_ret (pe_tup (pa_cons (pe_glob (v := .str "through") (by rfl) eT ⟨_, rfl⟩) (pa_cons (pv 2) (pa_cons (pv 4) pa_nil)))))) pss_nil)
      (pss_one (ps_if (pt_not (pt_val (pe_fn GA hr1 (by rfl) (pa_cons (pe_pr TP.needs hr2 TP.c.cl (pv 3) rfl) (pa_cons (pe_mt MR hr7 T.cl (pv 0) (pa_cons (pv 2) (pa_cons (pv 1) pa_nil))) pa_nil))))) (pss_one (ps_ret (pe_tup (pa_cons (pe_glob (v := .str "shut") (by rfl) eS ⟨_, rfl⟩) (pa_cons (pv 2) (pa_cons (pe_callTy call_tuple_of (by rfl) B.tup PyProof.Rows.boot_tuple (pa_cons (pe_lc (own := [("door", 5)]) (g := (gName 5)) (tt := (tTest (tOp _ (tVar 5) (tVar 1)))) (te := (tVar 5)) rfl scAbout.nd  (pi_list (pe_pr PD hr2 T.cl (pv 0) rfl)) (blkOk_by (N := nAbout) (sc := defScope s_doubt_about) (by decide +kernel)) (fun _ _ _ _ _ => (pg_name (i := 5) scAbout.nd rfl (Or.inl rfl))) (fun _ _ _ _ _ => (pts_one (pt_cmpR (r := rOwnIn CL (spHas CL) E0 false) (op_ownIn (E := E0) mH FH hr1 bH pass0) (pv 5) (pv 1) rfl))) (fun _ _ _ _ _ => (pv 5))) pa_nil)) pa_nil)))))) pss_nil))))))
      (pss_one (ps_ret pe_non))), ?_⟩
    obtain ⟨⟨dx, r, k, dn, dd, pn, pd, ok, od, op, kvs, ds, ps, I⟩, bok⟩ := id hb
    have three : (3 : Nat) ≤ sizeLine := by rw [sizeLine_eq]; decide
    refine ⟨.ref x, rfl, x, dx, _, rfl, I.ob, x, b, rfl, hb, fun pl npl => ⟨pl, rfl, ⟨_, .inl (.inl upd_same)⟩, ?_⟩⟩
    generalize eone : (fun q : Str × PersonD => (match intoOf b q.2 ls q.2.shuns with
      | some tr => some (true, q.1, tr)
      | none => if (q.2.needs.all fun z => decide (z ∈ reachL b q.2 ls)) = true then none else some (false, q.1, inOrder b ls) : Option Dv)) = one
    have edo : doubtOf b ls = b.people.findSome? one := by rw [← eone]; rfl
    have found : ∀ (i : Nat) (q : Str × PersonD) (d : Dv), (∀ q ∈ b.people.take i, one q = none) → b.people[i]? = some q → one q = some d → doubtOf b ls = some d := fun i q d no hq hd => by
      rw [edo, ← List.take_append_drop i b.people, List.findSome?_append, List.findSome?_eq_none_iff.mpr no]
      have hlt := List.getElem?_eq_some_iff.mp hq
      have e2 : b.people.drop i = q :: b.people.drop (i + 1) := by
        rw [← hlt.2]
        exact List.drop_eq_getElem_cons hlt.1
      rw [e2, List.findSome?_cons, hd]
      rfl
    refine for_it (walk_list (xs := (b.people.map fun q : Str × PersonD => q.1).map V.str)) (fun i σ H' => Same H H' ∧ H' pl = some (.lst ((b.people.map fun q : Str × PersonD => q.1).map V.str)) ∧ (∀ q ∈ b.people.take i, one q = none) ∧ ∃ y2 y3 y4, σ = [some (.ref x), some (.ref z), y2, y3, y4, none])
      ⟨same_new npl, upd_same, fun _ h => by simp at h, none, none, none, rfl⟩ (fun i σ H' _ hP => .inl (.inl hP.2.1)) (fun i v σ H4 H5 hi hP hY => ?_) (fun σ H4 hP => ?_)
    · obtain ⟨rfl, hv⟩ := hY
      obtain ⟨s4, epl, no, y2, y3, y4, rfl⟩ := hP
      rw [List.map_map] at hv
      obtain ⟨⟨n, p⟩, hq, rfl⟩ := at_map hv
      have hmem := List.mem_of_getElem? hq
      have hn : b.people.lookup n = some p := look_at bok.pnd hmem
      refine ⟨.ref x, rfl, x, dx, _, rfl, s4 _ _ I.ob, rfl, .str n, rfl, x, b, n, p, rfl, hb.same s4, hn, fun H6 y s6 hy => ?_⟩
      have s46 := s4.trans s6
      obtain ⟨⟨dy, t1, t2, t3, h0, h1, h2, h3⟩, pok⟩ := id hy
      refine ⟨.ref x, rfl, .str n, rfl, .ref z, rfl, .ref y, rfl, y, dy, _, rfl, h0, y, dy, _, _, rfl, h0, (look_person p.a t1 t2 t3).2.2.2, x, z, t3, b, n, p, ls, p.shuns, rfl, hb.same s46, hn, hz.same s46, few, sub, h3, fun ei H7 s7 => ?_, fun tr ei H7 t s7 ht => ?_⟩
      · have s47 := s46.trans s7
        refine ⟨.non, rfl, false, rfl, iteF ?_⟩
        refine ⟨.ref y, rfl, y, dy, _, rfl, s7 _ _ h0, y, dy, _, _, rfl, s7 _ _ h0, (look_person p.a t1 t2 t3).2.2.1, .ref x, rfl, x, dx, _, rfl, s47 _ _ I.ob, rfl, .str n, rfl, .ref z, rfl, x, z, b, n, p, ls, rfl, hb.same s47, hn, hz.same s47, few, sub, fun H8 m g s8 nm hg em => ?_⟩
        refine ⟨t2, m, p.needs, b.rooms.filter g, rfl, by have := pok.few2; omega, Same.tup (s7.trans s8) h2, .inl (.inl (.inl em)), fun H9 s9 => ⟨_, rfl, ?_⟩⟩
        have s49 := s47.trans (s8.trans s9)
        have e3 : (p.needs.all fun z => decide (z ∈ b.rooms.filter g)) = p.needs.all fun z => decide (z ∈ reachL b p ls) := by
          rw [Bool.eq_iff_iff, List.all_eq_true, List.all_eq_true]
          refine forall_congr' fun z => forall_congr' fun _ => ?_
          rw [decide_eq_true_eq, decide_eq_true_eq, List.mem_filter, hg z, mem_reachL bok]
          exact ⟨fun h => h.2, fun h => ⟨rch_in bok (look_mem hn) h, h⟩⟩
        rw [e3]
        by_cases ea : (p.needs.all fun z => decide (z ∈ reachL b p ls)) = true
        · rw [ea]
          have e0 : one (n, p) = none := by
            rw [← eone]
            show (match intoOf b p ls p.shuns with | some tr => some (true, n, tr) | none => if (p.needs.all fun z => decide (z ∈ reachL b p ls)) = true then none else some (false, n, inOrder b ls)) = none
            rw [ei]
            show (if (p.needs.all fun z => decide (z ∈ reachL b p ls)) = true then none else some (false, n, inOrder b ls)) = none
            rw [if_pos ea]
          refine iteF ⟨s49, s9 _ _ (s8 _ _ (s7 _ _ (s6 _ _ epl))), fun q hq' => ?_, _, _, _, rfl⟩
          rw [take_next1 hq] at hq'
          rcases List.mem_append.mp hq' with h | h
          · exact no q h
          · rw [List.mem_singleton.mp h]
            exact e0
        · rw [Bool.eq_false_iff.mpr ea]
          have e0 : one (n, p) = some (false, n, inOrder b ls) := by
            rw [← eone]
            show (match intoOf b p ls p.shuns with | some tr => some (true, n, tr) | none => if (p.needs.all fun z => decide (z ∈ reachL b p ls)) = true then none else some (false, n, inOrder b ls)) = _
            rw [ei]
            show (if (p.needs.all fun z => decide (z ∈ reachL b p ls)) = true then none else some (false, n, inOrder b ls)) = _
            rw [if_neg ea]
          refine iteT ?_
          refine ⟨.str n, rfl, .ref x, rfl, x, dx, _, rfl, s49 _ _ I.ob, x, b, rfl, hb.same s49, fun l1 nl1 => ?_⟩
          have s1 := same_new (o := .lst ((b.doors.map (·.1)).map V.str)) nl1
          have s410 := s49.trans s1
          obtain ⟨⟨dz, tz, hz1, hz2⟩, za, zn⟩ := id (hz.same s410)
          refine ⟨l1, rfl, ⟨_, .inl (.inl upd_same)⟩, fun D nD => lc_mf (walk_list (xs := (b.doors.map (·.1)).map V.str)) (b.doors.map (·.1)) (fun z => decide (z ∈ ls)) V.str (by rw [List.length_map]) nD (by rw [List.length_map]; have := bok.d8; omega) (fun H' s' => .inl (.inl (s' _ _ upd_same))) (fun i u v H3 H4 Kt Kf hu s3 hY kt kf => ?_) (fun H3 s3 eD => ?_)⟩
          · obtain ⟨rfl, hx⟩ := hY
            rw [List.getElem?_map, hu] at hx
            cases hx
            refine ⟨rfl, .str u, rfl, .ref z, rfl, z, dz, _, rfl, s3 _ _ hz1, z, ls, u, rfl, hz.same (s410.trans s3), _, rfl, _, rfl, ?_⟩
            exact ite2 (fun e => ⟨.str u, rfl, kt e _ (Same.refl _)⟩) (fun e => kf (Bool.eq_false_iff.mpr e) _ (Same.refl _))
          · have s413 := s410.trans s3
            refine ⟨D, _, rfl, .inl ⟨.inl (.inl eD), fun tq ntq => ⟨three, fun dq ndq => ?_⟩⟩⟩
            have s5 := same_new (o := .tup ((inOrder b ls).map V.str)) ntq
            have s6' := same_new (o := .tup [.str "shut", .str n, .ref tq]) ndq
            exact q1 _ (found i (n, p) _ no hq e0) _ dq (s413.trans (s5.trans s6')) ⟨tq, .inl (.inl upd_same), .inl (.inl (s6' _ _ upd_same))⟩
      · have s47 := s46.trans s7
        have e0 : one (n, p) = some (true, n, tr) := by
          rw [← eone]
          show (match intoOf b p ls p.shuns with | some tr => some (true, n, tr) | none => if (p.needs.all fun z => decide (z ∈ reachL b p ls)) = true then none else some (false, n, inOrder b ls)) = _
          rw [ei]
        refine ⟨.ref t, rfl, true, rfl, iteT ?_⟩
        refine ⟨.str n, rfl, .ref t, rfl, three, fun dq ndq => ?_⟩
        have s6' := same_new (o := .tup [.str "through", .str n, .ref t]) ndq
        exact q1 _ (found i (n, p) _ no hq e0) _ dq (s47.trans s6') ⟨t, .inl (.inl upd_same), Same.tup s6' ht⟩
    · obtain ⟨s4, epl, no, y2, y3, y4, rfl⟩ := hP
      rw [List.length_map, List.length_map, List.take_length] at no
      exact q0 (by rw [edo]; exact List.findSome?_eq_none_iff.mpr no) _ s4
end
end Lk
set_option Elab.async false
set_option linter.all false
set_option maxRecDepth 100000
set_option maxHeartbeats 4000000
/-! What doubts are good for. -/
namespace Ld
open PySem PySem.Spec PyProof.Rows L2 TxS LkO Lk LkG
def RightS (b : BldD) (ls : List Str) : Prop := ∀ q ∈ b.people, (∀ u ∈ q.2.needs, Rch b q.2 ls u) ∧ ∀ u ∈ q.2.shuns, ¬ Rch b q.2 ls u
theorem rch_le {b : BldD} {p : PersonD} {ls ms : List Str} (h : ∀ z, z ∈ ms → z ∈ ls) {z : Str} (r : Rch b p ls z) : Rch b p ms z := by
  induction r with
  | start => exact .start
  | free a n k w _ ih => exact .free a (fun e => n (h _ e)) k w ih
  | got a n k c w _ ih => exact .got a (fun e => n (h _ e)) k c w ih
  | found a n k l w _ _ ih1 ih2 => exact .found a (fun e => n (h _ e)) k l w ih1 ih2
theorem rch_same {b : BldD} {p : PersonD} {ls ms : List Str} (h : ∀ z, z ∈ ls ↔ z ∈ ms) {z : Str} : Rch b p ls z ↔ Rch b p ms z := ⟨rch_le fun z => (h z).2, rch_le fun z => (h z).1⟩
theorem add_less {b : BldD} {p : PersonD} {ls ms rs : List Str} (h : ∀ z ∈ ms, z ∈ ls) {q : Str × DoorD} {e : Str} (ha : addOf b p ls rs q = some e) : addOf b p ms rs q = some e := by
  obtain ⟨n, d⟩ := q
  obtain ⟨h1, h2, h3⟩ := add_iff.mp ha
  exact add_iff.mpr ⟨fun z => h1 (h _ z), h2, h3⟩
theorem rooms_less {b : BldD} {p : PersonD} {ls ms : List Str} (h : ∀ z ∈ ms, z ∈ ls) : ∀ (tr rs : List Str) {R : List Str}, roomsFrom b p ls rs tr = some R → roomsFrom b p ms rs tr = some R
  | [], _, _, e => e
  | n :: r, rs, R, e => by
    have e : (match b.doors.lookup n with | none => none | some d => match addOf b p ls rs (n, d) with | none => none | some e => roomsFrom b p ls (rs ++ [e]) r) = some R := e
    show (match b.doors.lookup n with | none => none | some d => match addOf b p ms rs (n, d) with | none => none | some e => roomsFrom b p ms (rs ++ [e]) r) = some R
    cases hl : b.doors.lookup n with
    | none =>
      rw [hl] at e
      cases e
    | some d =>
      rw [hl] at e
      have e : (match addOf b p ls rs (n, d) with | none => none | some e => roomsFrom b p ls (rs ++ [e]) r) = some R := e
      show (match addOf b p ms rs (n, d) with | none => none | some e => roomsFrom b p ms (rs ++ [e]) r) = some R
      cases ha : addOf b p ls rs (n, d) with
      | none =>
        rw [ha] at e
        cases e
      | some z =>
        rw [ha] at e
        rw [add_less h ha]
        exact rooms_less h r _ e
/-- a trail with no locked doors, none of whose doors is locked, is one with these doors locked -/
theorem rooms_more {b : BldD} {p : PersonD} {ls : List Str} : ∀ (tr rs : List Str) {R : List Str}, (∀ z ∈ tr, z ∉ ls) → roomsFrom b p [] rs tr = some R → roomsFrom b p ls rs tr = some R
  | [], _, _, _, e => e
  | n :: r, rs, R, hn, e => by
    have e : (match b.doors.lookup n with | none => none | some d => match addOf b p [] rs (n, d) with | none => none | some e => roomsFrom b p [] (rs ++ [e]) r) = some R := e
    show (match b.doors.lookup n with | none => none | some d => match addOf b p ls rs (n, d) with | none => none | some e => roomsFrom b p ls (rs ++ [e]) r) = some R
    cases hl : b.doors.lookup n with
    | none =>
      rw [hl] at e
      cases e
    | some d =>
      rw [hl] at e
      have e : (match addOf b p [] rs (n, d) with | none => none | some e => roomsFrom b p [] (rs ++ [e]) r) = some R := e
      show (match addOf b p ls rs (n, d) with | none => none | some e => roomsFrom b p ls (rs ++ [e]) r) = some R
      cases ha : addOf b p [] rs (n, d) with
      | none =>
        rw [ha] at e
        cases e
      | some z =>
        rw [ha] at e
        obtain ⟨_, h2, h3⟩ := add_iff.mp ha
        rw [add_iff.mpr ⟨hn n List.mem_cons_self, h2, h3⟩]
        exact rooms_more r _ (fun y hy => hn y (List.mem_cons_of_mem _ hy)) e
/-- the doors of a trail are not locked -/
theorem rooms_open {b : BldD} {p : PersonD} {ls : List Str} : ∀ (tr rs : List Str) {R : List Str}, roomsFrom b p ls rs tr = some R → ∀ z ∈ tr, z ∉ ls
  | [], _, _, _ => fun _ h => by cases h
  | n :: r, rs, R, e => by
    have e : (match b.doors.lookup n with | none => none | some d => match addOf b p ls rs (n, d) with | none => none | some e => roomsFrom b p ls (rs ++ [e]) r) = some R := e
    cases hl : b.doors.lookup n with
    | none =>
      rw [hl] at e
      cases e
    | some d =>
      rw [hl] at e
      have e : (match addOf b p ls rs (n, d) with | none => none | some e => roomsFrom b p ls (rs ++ [e]) r) = some R := e
      cases ha : addOf b p ls rs (n, d) with
      | none =>
        rw [ha] at e
        cases e
      | some z =>
        rw [ha] at e
        intro y hy
        rcases List.mem_cons.mp hy with c | c
        · rw [c]
          exact (add_iff.mp ha).1
        · exact rooms_open r _ e y c
theorem shut_iff {b : BldD} (ok : b.ok) {p : PersonD} {tr : List Str} : shutOf b p tr = true ↔ tr = inOrder b tr ∧ ∃ u ∈ p.needs, ¬ Rch b p tr u := by
  unfold shutOf
  rw [Bool.and_eq_true, decide_eq_true_eq]
  refine and_congr Iff.rfl ?_
  rw [Bool.not_eq_eq_eq_not, Bool.not_true, ← Bool.not_eq_true, List.all_eq_true]
  constructor
  · intro h
    refine Classical.byContradiction fun hn => h fun u hu => decide_eq_true ((mem_reachL ok).2 ?_)
    refine Classical.byContradiction fun hr => hn ⟨u, hu, fun hr2 => hr ((rch_same fun z => (mem_srt tr z)).2 hr2)⟩
  · rintro ⟨u, hu, hr⟩ h
    exact hr ((rch_same fun z => (mem_srt tr z)).1 ((mem_reachL ok).1 (of_decide_eq_true (h u hu))))
theorem thr_iff {b : BldD} {p : PersonD} {tr : List Str} : thrOf b p tr = true ↔ ∃ R, roomsOf b p [] tr = some R ∧ ∃ z ∈ R, z ∈ p.shuns := by
  unfold thrOf
  cases h : roomsOf b p [] tr with
  | none => simp
  | some R =>
    show (R.any fun z => decide (z ∈ p.shuns)) = true ↔ _
    rw [List.any_eq_true]
    constructor
    · rintro ⟨z, hz, hd⟩
      exact ⟨R, rfl, z, hz, of_decide_eq_true hd⟩
    · rintro ⟨R', e, z, hz, hs⟩
      cases e
      exact ⟨z, hz, decide_eq_true hs⟩
/-- a set that is ruled out is not right -/
theorem out_wrong {b : BldD} (ok : b.ok) {n : Str} {p : PersonD} (hp : (n, p) ∈ b.people) {th : Bool} {tr ws : List Str} (hd : dbtOf b p th tr = true) (hs : strikeOf th tr ws = true) (hr : RightS b ws) : False := by
  obtain ⟨h1, h2⟩ := hr (n, p) hp
  cases th with
  | true =>
    obtain ⟨R, e, z, hz, hsh⟩ := thr_iff.mp (show thrOf b p tr = true from hd)
    have hs : (!(tr.any fun z => decide (z ∈ ws))) = true := hs
    have ho : ∀ z ∈ tr, z ∉ ws := fun y hy hyw => by
      have : (tr.any fun z => decide (z ∈ ws)) = true := List.any_eq_true.mpr ⟨y, hy, decide_eq_true hyw⟩
      rw [this] at hs
      cases hs
    exact h2 z hsh ((path_of tr _ Path.one (rooms_more tr _ ho e)).rch z hz)
  | false =>
    obtain ⟨_, u, hu, hn⟩ := (shut_iff ok).mp (show shutOf b p tr = true from hd)
    have hs : (tr.all fun z => decide (z ∈ ws)) = true := hs
    exact hn (rch_le (fun z hz => of_decide_eq_true (List.all_eq_true.mp hs z hz)) (h1 u hu))
/-- the trail of first doors to a room that must not be reached -/
theorem made_thr {b : BldD} (ok : b.ok) {p : PersonD} {ws : List Str} {z : Str} (hz : z ∈ p.shuns) (hr : Rch b p ws z) : dbtOf b p true (trailOf b p ws) = true ∧ strikeOf true (trailOf b p ws) ws = true := by
  obtain ⟨R, e, by0⟩ := trail_rooms (p := p) (ls := ws) ok 6 [p.a] (left_le b ok _)
  have hP := path_of _ _ Path.one e
  refine ⟨thr_iff.mpr ⟨R, rooms_less (ls := ws) (fun _ h => by cases h) _ _ e, z, beyond_done hP.st by0 hr, hz⟩, ?_⟩
  show (!((trailOf b p ws).any fun z => decide (z ∈ ws))) = true
  rw [Bool.not_eq_eq_eq_not, Bool.not_true, ← Bool.not_eq_true, List.any_eq_true]
  rintro ⟨y, hy, hd⟩
  exact rooms_open _ _ e y hy (of_decide_eq_true hd)
theorem in_order {b : BldD} (ok : b.ok) {ws : List Str} (h : ws.Sublist (b.doors.map (·.1))) : ws = inOrder b ws := by
  unfold inOrder
  have nd := ok.dnd
  generalize b.doors.map (·.1) = l at h nd
  induction h with
  | slnil => rfl
  | @cons l1 l2 a h ih =>
    have nd2 := List.nodup_cons.mp nd
    rw [List.filter_cons, if_neg (by
      intro e
      exact nd2.1 (h.subset (of_decide_eq_true e)))]
    exact ih nd2.2
  | @cons_cons l1 l2 a h ih =>
    have nd2 := List.nodup_cons.mp nd
    rw [List.filter_cons, if_pos (decide_eq_true List.mem_cons_self)]
    refine congrArg (a :: ·) ?_
    refine (ih nd2.2).trans (List.filter_congr fun z hz => ?_)
    refine decide_eq_decide.mpr ⟨List.mem_cons_of_mem _, fun hm => ?_⟩
    rcases List.mem_cons.mp hm with c | c
    · rw [c] at hz
      exact absurd hz nd2.1
    · exact c
theorem made_shut {b : BldD} (ok : b.ok) {p : PersonD} {ws : List Str} (sub : ws.Sublist (b.doors.map (·.1))) {u : Str} (hu : u ∈ p.needs) (hr : ¬ Rch b p ws u) : dbtOf b p false ws = true ∧ strikeOf false ws ws = true :=
  ⟨(shut_iff ok).mpr ⟨in_order ok sub, u, hu, hr⟩, List.all_eq_true.mpr fun z hz => decide_eq_true hz⟩
theorem any_swap (l m : List Str) : (l.any fun z => decide (z ∈ m)) = m.any fun z => decide (z ∈ l) := by
  rw [Bool.eq_iff_iff, List.any_eq_true, List.any_eq_true]
  exact ⟨fun ⟨z, h1, h2⟩ => ⟨z, of_decide_eq_true h2, decide_eq_true h1⟩, fun ⟨z, h1, h2⟩ => ⟨z, of_decide_eq_true h2, decide_eq_true h1⟩⟩
theorem right_same {b : BldD} {ls ms : List Str} (h : ∀ z, z ∈ ls ↔ z ∈ ms) : RightS b ls ↔ RightS b ms := by
  unfold RightS
  refine forall_congr' fun q => forall_congr' fun _ => and_congr (forall_congr' fun u => forall_congr' fun _ => rch_same h) (forall_congr' fun u => forall_congr' fun _ => not_congr (rch_same h))
theorem rooms_len {b : BldD} {p : PersonD} {ls : List Str} : ∀ (tr rs : List Str) {R : List Str}, roomsFrom b p ls rs tr = some R → ∃ S, R = rs ++ S ∧ S.length = tr.length
  | [], rs, R, e => ⟨[], by cases e; simp, rfl⟩
  | n :: r, rs, R, e => by
    have e : (match b.doors.lookup n with | none => none | some d => match addOf b p ls rs (n, d) with | none => none | some e => roomsFrom b p ls (rs ++ [e]) r) = some R := e
    cases hl : b.doors.lookup n with
    | none =>
      rw [hl] at e
      cases e
    | some d =>
      rw [hl] at e
      have e : (match addOf b p ls rs (n, d) with | none => none | some e => roomsFrom b p ls (rs ++ [e]) r) = some R := e
      cases ha : addOf b p ls rs (n, d) with
      | none =>
        rw [ha] at e
        cases e
      | some z =>
        rw [ha] at e
        obtain ⟨S, e1, e2⟩ := rooms_len r _ e
        exact ⟨z :: S, by rw [e1]; simp, by simp [e2]⟩
theorem rooms_take {b : BldD} {p : PersonD} {ls tr rs R : List Str} (e : roomsFrom b p ls rs tr = some R) {i : Nat} (hi : i ≤ tr.length) : roomsFrom b p ls rs (tr.take i) = some (R.take (rs.length + i)) := by
  have e2 := e
  rw [← List.take_append_drop i tr, rooms_app] at e2
  cases h : roomsFrom b p ls rs (tr.take i) with
  | none =>
    rw [h] at e2
    cases e2
  | some R' =>
    rw [h] at e2
    obtain ⟨S, h1, h2⟩ := rooms_len _ _ h
    obtain ⟨S2, h3, h4⟩ := rooms_len _ _ (show roomsFrom b p ls R' (tr.drop i) = some R from e2)
    have hl : R'.length = rs.length + i := by
      rw [h1, List.length_append, h2, List.length_take, Nat.min_eq_left hi]
    rw [h3, ← hl, List.take_left]
theorem into_none {b : BldD} (ok : b.ok) {p : PersonD} {ls ws : List Str} : intoOf b p ls ws = none ↔ ∀ z ∈ ws, ¬ Rch b p ls z := by
  obtain ⟨R, hR, _⟩ := trail_comp ok p ls
  have hL : reachL b p ls = R := by unfold reachL; rw [hR]; rfl
  unfold intoOf
  rw [hR]
  show (R.findIdx? fun r => decide (r ∈ ws)).map _ = none ↔ _
  rw [Option.map_eq_none_iff, List.findIdx?_eq_none_iff]
  constructor
  · intro h z hz hr
    have := h z (by rw [← hL]; exact (mem_reachL ok).2 hr)
    exact (of_decide_eq_false this) hz
  · intro h z hz
    refine decide_eq_false fun hw => h z hw ((mem_reachL ok).1 (by rw [hL]; exact hz))
theorem into_some {b : BldD} (ok : b.ok) {p : PersonD} {ls ws tr : List Str} (h : intoOf b p ls ws = some tr) : ∃ R, roomsOf b p ls tr = some R ∧ (∃ z ∈ R, z ∈ ws) ∧ tr.length ≤ 6 ∧ (∀ z ∈ tr, z ∈ b.doors.map (·.1)) ∧ ∀ z ∈ tr, z ∉ ls := by
  obtain ⟨R, hR, _⟩ := trail_comp ok p ls
  have tl := trail_sub (b := b) (p := p) (ls := ls) 6 [p.a]
  unfold intoOf at h
  rw [hR] at h
  have h : (R.findIdx? fun r => decide (r ∈ ws)).map (fun i => (trailOf b p ls).take i) = some tr := h
  obtain ⟨i, hi, rfl⟩ := Option.map_eq_some_iff.mp h
  obtain ⟨hlt, hin, _⟩ := List.findIdx?_eq_some_iff_getElem.mp hi
  obtain ⟨S, e1, e2⟩ := rooms_len _ _ hR
  have hl : R.length = 1 + (trailOf b p ls).length := by rw [e1, List.length_append, e2]; rfl
  have ht := rooms_take hR (i := i) (by omega)
  refine ⟨_, ht, ⟨R[i], ?_, of_decide_eq_true hin⟩, Nat.le_trans (List.length_take_le' _ _) ?_, fun z hz => tl.2 z (List.mem_of_mem_take hz), fun z hz => rooms_open _ _ ht z hz⟩
  · refine List.mem_take_iff_getElem.mpr ⟨i, ?_, rfl⟩
    show i < min ([p.a].length + i) R.length
    simp only [List.length_singleton]
    omega
  · exact tl.1
theorem doubt_none {b : BldD} (ok : b.ok) {ls : List Str} : doubtOf b ls = none ↔ RightS b ls := by
  unfold doubtOf
  rw [List.findSome?_eq_none_iff]
  unfold RightS
  refine forall_congr' fun q => forall_congr' fun hq => ?_
  cases hi : intoOf b q.2 ls q.2.shuns with
  | some tr =>
    show (some (true, q.1, tr) : Option Dv) = none ↔ _
    refine ⟨fun h => (by cases h), fun h => ?_⟩
    have := (into_none ok).2 h.2
    rw [hi] at this
    cases this
  | none =>
    show (if (q.2.needs.all fun z => decide (z ∈ reachL b q.2 ls)) = true then (none : Option Dv) else some (false, q.1, inOrder b ls)) = none ↔ _
    have h0 := (into_none ok).1 hi
    constructor
    · intro h
      by_cases ha : (q.2.needs.all fun z => decide (z ∈ reachL b q.2 ls)) = true
      · exact ⟨fun u hu => (mem_reachL ok).1 (of_decide_eq_true (List.all_eq_true.mp ha u hu)), h0⟩
      · rw [if_neg ha] at h
        cases h
    · intro h
      rw [if_pos (List.all_eq_true.mpr fun u hu => decide_eq_true ((mem_reachL ok).2 (h.1 u hu)))]
theorem mem_inOrder {b : BldD} {ls : List Str} (sub : ∀ z ∈ ls, z ∈ b.doors.map (·.1)) (z : Str) : z ∈ inOrder b ls ↔ z ∈ ls := by
  unfold inOrder
  rw [List.mem_filter, decide_eq_true_eq]
  exact ⟨fun h => h.2, fun h => ⟨sub z h, h⟩⟩
theorem doubt_some {b : BldD} (ok : b.ok) {ls : List Str} (sub : ∀ z ∈ ls, z ∈ b.doors.map (·.1)) {d : Dv} (h : doubtOf b ls = some d) : OkV b d ∧ dbtV b d = true ∧ strV ls d = true := by
  unfold doubtOf at h
  obtain ⟨q, hq, h⟩ := List.exists_of_findSome?_eq_some h
  obtain ⟨n, p⟩ := q
  have hn : b.people.lookup n = some p := look_at ok.pnd hq
  cases hi : intoOf b p ls p.shuns with
  | some tr =>
    have h : (match intoOf b p ls p.shuns with | some tr => some (true, n, tr) | none => if (p.needs.all fun z => decide (z ∈ reachL b p ls)) = true then none else some (false, n, inOrder b ls)) = some d := h
    rw [hi] at h
    cases h
    obtain ⟨R, hR, ⟨z, hz, hs⟩, l6, sub2, opn⟩ := into_some ok hi
    refine ⟨⟨p, ⟨hn, by show tr.length ≤ 1000; omega, sub2⟩, by show tr.length ≤ 60; omega⟩, ?_, ?_⟩
    · unfold dbtV
      rw [hn]
      exact thr_iff.mpr ⟨R, rooms_less (ls := ls) (fun _ h => by cases h) _ _ hR, z, hz, hs⟩
    · show (!(tr.any fun z => decide (z ∈ ls))) = true
      rw [Bool.not_eq_eq_eq_not, Bool.not_true, ← Bool.not_eq_true, List.any_eq_true]
      rintro ⟨y, hy, hd⟩
      exact opn y hy (of_decide_eq_true hd)
  | none =>
    have h : (match intoOf b p ls p.shuns with | some tr => some (true, n, tr) | none => if (p.needs.all fun z => decide (z ∈ reachL b p ls)) = true then none else some (false, n, inOrder b ls)) = some d := h
    rw [hi] at h
    have h : (if (p.needs.all fun z => decide (z ∈ reachL b p ls)) = true then none else some (false, n, inOrder b ls)) = some d := h
    by_cases ha : (p.needs.all fun z => decide (z ∈ reachL b p ls)) = true
    · rw [if_pos ha] at h
      cases h
    · rw [if_neg ha] at h
      cases h
      have d8 := ok.d8
      have l8 : (inOrder b ls).length ≤ 8 := by
        unfold inOrder
        refine Nat.le_trans (List.length_filter_le _ _) ?_
        rw [List.length_map]
        exact d8
      have subO : (inOrder b ls).Sublist (b.doors.map (·.1)) := List.filter_sublist
      have hu : ∃ u ∈ p.needs, ¬ Rch b p (inOrder b ls) u := by
        refine Classical.byContradiction fun hn => ha (List.all_eq_true.mpr fun u hu => decide_eq_true ((mem_reachL ok).2 ?_))
        refine Classical.byContradiction fun hr => hn ⟨u, hu, fun hr2 => hr ((rch_same fun z => mem_inOrder sub z).1 hr2)⟩
      obtain ⟨u, hu1, hu2⟩ := hu
      refine ⟨⟨p, ⟨hn, by show (inOrder b ls).length ≤ 1000; omega, fun z hz => subO.subset hz⟩, by show (inOrder b ls).length ≤ 60; omega⟩, ?_, ?_⟩
      · unfold dbtV
        rw [hn]
        exact (shut_iff ok).mpr ⟨in_order ok subO, u, hu1, hu2⟩
      · exact List.all_eq_true.mpr fun z hz => decide_eq_true ((mem_inOrder sub z).1 hz)
/-- a set that a doubt rules out is not right -/
theorem struck_wrong {b : BldD} (ok : b.ok) {d : Dv} {ls : List Str} (hd : dbtV b d = true) (hs : strV ls d = true) : ¬ RightS b ls := fun hr => by
  unfold dbtV at hd
  cases hl : b.people.lookup d.2.1 with
  | none =>
    rw [hl] at hd
    cases hd
  | some p =>
    rw [hl] at hd
    exact out_wrong ok (look_mem hl) hd hs hr
end Ld
set_option Elab.async false
set_option linter.all false
set_option maxRecDepth 100000
set_option maxHeartbeats 4000000
namespace Lk
open PySem PySem.Spec PyProof.Rows L2 TxS LkO LkG LamX LkS Ld
/-- tuples stay -/
def TU (H H' : Hp) : Prop := ∀ K a xs, SqT K H a xs → SqT K H' a xs
theorem TU.of {H H' : Hp} (s : NX H H') : TU H H' := fun _ _ _ h => s.tup h
theorem TU.trans {H H1 H2 : Hp} (a : TU H H1) (b : TU H1 H2) : TU H H2 := fun _ _ _ h => b _ _ _ (a _ _ _ h)
theorem TU.putD {H : Hp} {d : Addr} {kvs : List (Key × V)} {o : HO} (h : H d = some (.dK kvs)) : TU H (upd H d o) := fun K a xs q => by
  rcases q with (q | ⟨ob, q⟩) | q
  · exact .inl (.inl (by rw [upd_ne (fun z => by rw [z, h] at q; cases q)]; exact q))
  · exact .inl (.inr ⟨ob, by rw [upd_ne (fun z => by rw [z, h] at q; cases q)]; exact q⟩)
  · exact .inr q
/-- {k(x): e for x in ..}, the keys differ; what a turn makes is told by R, which the dict's change leaves alone -/
theorem dc_R {J : It} {n : Nat} {G : Hp → Prop} {Y : Nat → Hp → V → Hp → Prop} (w : Walk J n G Y) {g : TG} {tk tv : TE} {vs : List Nat} {σ : L2.St} {H1 : Hp} {D : Addr} {Qd : Hp → Prop} {α β : Type} (l : List α) (kf : α → Str) (ff : α → β) (R : Hp → V → β → Prop) (hR : ∀ H H' v a, TU H H' → R H v a → R H' v a)
    (hn : n = l.length) (nd : (l.map kf).Nodup) (nD : H1 D = none) (few : l.length ≤ 1000) (hG : ∀ H', Same H1 H' → G H')
    (hs : ∀ i a x H2 H' (Kt : V → V → Hp → Prop), l[i]? = some a → Same H1 H2 → Y i H2 x H' → (∀ H5 v, Same H2 H5 → R H5 v (ff a) → Kt (.str (kf a)) v H5) → g x (wipe σ vs) H' fun σ2 H3 => wipe σ2 vs = wipe σ vs ∧ tk σ2 H3 fun y H4 => tv σ2 H4 fun z H5 => Kt y z H5)
    (hd : ∀ H2 kvs, Same H1 H2 → H2 D = some (.dK kvs) → Tab (R H2) kvs (l.map fun a => (kf a, ff a)) → Qd H2) :
    ∃ W : Nat → Nat → Hp → Prop, (∃ m, W 0 m (upd H1 D (.dK []))) ∧ ∀ i m H, W i m H → (J.stop i H ∧ Qd H) ∨ (J.go i H ∧ ∃ Nx : Hp → Prop, (∀ H', Nx H' → ∃ m', m' < m ∧ W (i + 1) m' H') ∧
      ∀ x H', J.yld i H x H' → g x (wipe σ vs) H' fun σ2 H2 => wipe σ2 vs = wipe σ vs ∧ tYes σ2 H2 fun b H3 => if b = true then tk σ2 H3 fun y H4 => tv σ2 H4 fun z H5 => ∃ kvs k, y = kV k ∧ H5 D = some (.dK kvs) ∧ kvs.length < sizeLine ∧ Nx (upd H5 D (.dK (putK kvs k z))) else Nx H3) := by
  refine ⟨fun i m H => m = n - i ∧ i ≤ n ∧ Same H1 H ∧ ∃ kvs, H D = some (.dK kvs) ∧ Tab (R H) kvs ((l.take i).map fun a => (kf a, ff a)), ⟨n, by simp, Nat.zero_le _, same_new nD, [], upd_same, .nil⟩, ?_⟩
  rintro i m H ⟨rfl, hi, sm, kvs, eD, tb⟩
  by_cases lt : i < n
  · have hl : i < l.length := hn ▸ lt
    have ha : l[i]? = some l[i] := List.getElem?_eq_getElem hl
    refine .inr ⟨w.goes i H lt (hG H sm), fun H' => Same H1 H' ∧ ∃ kvs, H' D = some (.dK kvs) ∧ Tab (R H') kvs ((l.take (i + 1)).map fun a => (kf a, ff a)), fun H' z => ⟨n - (i + 1), by omega, rfl, lt, z⟩, fun x H' y => ?_⟩
    refine hs i l[i] x H H' _ ha sm (w.yields i H x H' lt (hG H sm) y) fun H5 v s5 r5 => ?_
    have eD5 := s5 _ _ eD
    have ek := tb.keys
    have nk : (Sum.inr (kf l[i]) : Key) ∉ kvs.map (·.1) := fun hm => by
      rw [ek, List.map_map] at hm
      have hm2 : kf l[i] ∈ (l.take i).map kf := by
        obtain ⟨p, hp, ep⟩ := List.mem_map.mp hm
        obtain ⟨a, ha2, rfl⟩ := List.mem_map.mp hp
        injection ep with ep
        exact List.mem_map.mpr ⟨a, ha2, ep⟩
      have nd2 : ((l.take (i + 1)).map kf).Nodup := by
        rw [List.map_take]
        exact nd.sublist (List.take_sublist _ _)
      rw [take_next1 ha, List.map_append, List.nodup_append] at nd2
      exact nd2.2.2 _ hm2 _ (by simp) rfl
    refine ⟨kvs, .inr (kf l[i]), rfl, eD5, ?_, Same.up (sm.trans s5) nD, kvs ++ [(.inr (kf l[i]), v)], by rw [upd_same, putK_new nk], ?_⟩
    · rw [tb.len, List.length_map, List.length_take]
      exact Nat.lt_of_le_of_lt (Nat.min_le_right _ _) (small1000 few)
    · rw [take_next1 ha, List.map_append]
      have t5 : TU H5 (upd H5 D (.dK (putK kvs (.inr (kf l[i])) v))) := TU.putD eD5
      exact Paired.snoc (tb.mono fun v a r => hR _ _ _ _ ((TU.of (NX.of s5)).trans t5) r) ⟨rfl, hR _ _ _ _ t5 r5⟩
  · have e : i = n := Nat.le_antisymm hi (Nat.le_of_not_lt lt)
    subst e
    refine .inl ⟨w.stops H (hG H sm), hd H kvs sm eD ?_⟩
    rw [hn, List.take_length] at tb
    exact tb
section
variable {P : Program} {w : World} {K : PySem.W.Frag} {mg : Str → Option Value} {base : Heap} {CD CP CB CL CK CN : Addr}
abbrev trR (K : PySem.W.Frag) (H : Hp) (v : V) (tr : List Str) : Prop := ∃ t, v = V.ref t ∧ SqT K H t (tr.map V.str)
abbrev lkgF : List Str := ["locks", "trails", "doubts"]
abbrev noF : List Str := ["doubts"]
def lkgFs (z t l : Addr) : List (Str × V) := [("locks", .ref z), ("trails", .ref t), ("doubts", .ref l)]
/-- a Locking -/
structure LkgAt (K : PySem.W.Frag) (CK CL : Addr) (H : Hp) (x : Addr) (ls : List Str) (trs : List (Str × List Str)) (ds : List (Addr × Dv)) : Prop where
  ex : ∃ dx z t l kvs, H x = some (.ins CK dx (lkgFs z t l)) ∧ LkAt CL H z ls ∧ H t = some (.dK kvs) ∧ Tab (trR K H) kvs trs ∧ H l = some (.lst (ds.map fun d => V.ref d.1))
  dbt : ∀ d ∈ ds, DbtA K H d
/-- a NoLocking -/
structure NoAt (K : PySem.W.Frag) (CN : Addr) (H : Hp) (x : Addr) (ds : List (Addr × Dv)) : Prop where
  ex : ∃ dx l, H x = some (.ins CN dx [("doubts", .ref l)]) ∧ H l = some (.lst (ds.map fun d => V.ref d.1))
  dbt : ∀ d ∈ ds, DbtA K H d
/-! ### Locking.__init__, NoLocking.__init__ -/
def spKIn (K : PySem.W.Frag) (CK : Addr) : Sp := fun vs H Q _ => ∃ (x dx z t l : Addr) (kvs : List (Key × V)) (xs : List V), vs = [.ref x, .ref z, .ref t, .ref l] ∧ H x = some (.ins CK dx []) ∧ Rd H t (.dK kvs) ∧ SqL K H l xs ∧
  ∀ H' t' l', But x H H' → H' x = some (.ins CK dx (lkgFs z t' l')) → H' t' = some (.dK kvs) → H' l' = some (.lst xs) → H t' = none → H l' = none → Q .non H'
theorem scKIn : FnScope ["self", "locks", "trails", "doubts"] ["self", "locks", "trails", "doubts"] (defScope s_Locking___init__) := ⟨rfl, rfl, rfl, by decide +kernel, rfl, by decide +kernel, by decide +kernel⟩
abbrev nKIn : List Str := ["self", "locks", "trails", "doubts"]
theorem ok_kIn {f : Addr} {fd : FuncData} (F : Fun K "__init__" "Locking.__init__" s_Locking___init__ f fd) (B : Blt mg) (T : OwnC K mg CK "Locking" lkgF) : FnOk P w K mg base CX0 1 f fd ["self", "locks", "trails", "doubts"] (spKIn K CK) := by
  refine F.ok scKIn (fun vs H Q E h => ?_) (fun cdv A outer s H vs Q E hr h => ?_)
  · obtain ⟨x, dx, z, t, l, kvs, xs, rfl, _⟩ := h
    rfl
  · obtain ⟨x, dx, z, t, l, kvs, xs, rfl, hx, ht, hl, q⟩ := h
    have nK := T.nK
    refine ⟨_, pss_cons (ps_fld (pv 0) (pv 1) rfl) (pss_cons (ps_fld (pv 0) (pe_callTy call_dictD (by rfl) B.dct PyProof.Rows.boot_dict (pa_cons (pv 2) pa_nil)) rfl) (pss_one (ps_fld (pv 0) (pe_callTy call_list_of (by rfl) B.lst PyProof.Rows.boot_list (pa_cons (pv 3) pa_nil)) rfl))), ?_⟩
    refine ⟨.ref z, rfl, .ref x, rfl, x, CK, dx, [], rfl, hx, T.cl, nK _ (by simp), by show 0 < 1000; decide, ?_⟩
    have b1 : But x H (upd H x (.ins CK dx (putF "locks" (.ref z) []))) := But.put
    refine ⟨.ref t, rfl, t, kvs, rfl, ?_, fun t' nt' => ?_⟩
    · rcases ht with h | ⟨o, h⟩
      · exact .inl (b1 _ _ h (ne_of h hx (by intro z; cases z)))
      · exact .inr ⟨o, b1 _ _ h (ne_of h hx (by intro z; cases z))⟩
    have nx : t' ≠ x := fun e => by rw [e, upd_same] at nt'; cases nt'
    have nHt : H t' = none := by rw [upd_ne nx] at nt'; exact nt'
    refine ⟨.ref x, rfl, x, CK, dx, _, rfl, by rw [upd_ne (Ne.symm nx)]; exact upd_same, T.cl, nK _ (by simp), by show 1 < 1000; decide, ?_⟩
    refine ⟨.ref l, rfl, l, xs, rfl, .inl ?_, fun l' nl' => ?_⟩
    · have b2 : But x H (upd (upd (upd H x (.ins CK dx (putF "locks" (.ref z) []))) t' (.dK kvs)) x (.ins CK dx (putF "trails" (.ref t') (putF "locks" (.ref z) [])))) := (b1.trans (But.new nt')).trans But.put
      rcases hl with (h | ⟨o, h⟩) | h
      · exact .inl (.inl (b2 _ _ h (ne_of h hx (by intro z; cases z))))
      · exact .inl (.inr ⟨o, b2 _ _ h (ne_of h hx (by intro z; cases z))⟩)
      · exact .inr h
    have nx2 : l' ≠ x := fun e => by rw [e, upd_same] at nl'; cases nl'
    have nt2 : l' ≠ t' := fun e => by rw [e, upd_ne nx, upd_same] at nl'; cases nl'
    have nHl : H l' = none := by rw [upd_ne nx2, upd_ne nt2, upd_ne nx2] at nl'; exact nl'
    refine ⟨.ref x, rfl, x, CK, dx, _, rfl, by rw [upd_ne (Ne.symm nx2)]; exact upd_same, T.cl, nK _ (by simp), by show 2 < 1000; decide, ?_⟩
    refine q _ t' l' (fun b o e hb => ?_) upd_same ?_ ?_ nHt nHl
    · rw [upd_ne hb, upd_ne (ne_of_none e nHl), upd_ne hb, upd_ne (ne_of_none e nHt), upd_ne hb]
      exact e
    · rw [upd_ne nx, upd_ne (Ne.symm nt2), upd_ne nx, upd_same]
    · rw [upd_ne nx2, upd_same]
def spNIn (K : PySem.W.Frag) (CN : Addr) : Sp := fun vs H Q _ => ∃ (x dx l : Addr) (xs : List V), vs = [.ref x, .ref l] ∧ H x = some (.ins CN dx []) ∧ SqL K H l xs ∧
  ∀ H' l', But x H H' → H' x = some (.ins CN dx [("doubts", .ref l')]) → H' l' = some (.lst xs) → H l' = none → Q .non H'
theorem scNIn : FnScope ["self", "doubts"] ["self", "doubts"] (defScope s_NoLocking___init__) := ⟨rfl, rfl, rfl, by decide +kernel, rfl, by decide +kernel, by decide +kernel⟩
theorem ok_nIn {f : Addr} {fd : FuncData} (F : Fun K "__init__" "NoLocking.__init__" s_NoLocking___init__ f fd) (B : Blt mg) (T : OwnC K mg CN "NoLocking" noF) : FnOk P w K mg base CX0 1 f fd ["self", "doubts"] (spNIn K CN) := by
  refine F.ok scNIn (fun vs H Q E h => ?_) (fun cdv A outer s H vs Q E hr h => ?_)
  · obtain ⟨x, dx, l, xs, rfl, _⟩ := h
    rfl
  · obtain ⟨x, dx, l, xs, rfl, hx, hl, q⟩ := h
    have nK := T.nK
    refine ⟨_, pss_one (ps_fld (pv 0) (pe_callTy call_list_of (by rfl) B.lst PyProof.Rows.boot_list (pa_cons (pv 1) pa_nil)) rfl), ?_⟩
    refine ⟨.ref l, rfl, l, xs, rfl, .inl hl, fun l' nl' => ?_⟩
    have nx2 : l' ≠ x := fun e => by rw [e, hx] at nl'; cases nl'
    refine ⟨.ref x, rfl, x, CN, dx, [], rfl, by rw [upd_ne (Ne.symm nx2)]; exact hx, T.cl, nK _ (by simp), by show 0 < 1000; decide, ?_⟩
    refine q _ l' (fun b o e hb => ?_) upd_same ?_ nl'
    · rw [upd_ne hb, upd_ne (ne_of_none e nl')]
      exact e
    · rw [upd_ne nx2, upd_same]
/-- a class of ours and its maker -/
structure MkO (P : Program) (w : World) (K : PySem.W.Frag) (mg : Str → Option Value) (base : Heap) (C : Addr) (k : Nat) (ps : List Str) (sp : Sp) : Prop where
  ex : ∃ f fd, Mk K C f ∧ Binds K fd ps [] ∧ FnOk P w K mg base CX0 k f fd ps sp
end
end Lk
set_option Elab.async false
set_option linter.all false
set_option maxRecDepth 100000
set_option maxHeartbeats 4000000
/-! x = {k: v for ..}, x a local name -/
namespace LkO
open PySem PySem.Spec PyProof.Rows L2
section
variable {X : Cx}
theorem ps_setDc {i : Nat} {y : Str} {py : Pos} {kx vx tg iter : Expr} {ifs : List Expr} {scope : Scope} {own : List (Str × Nat)} {pos spos : Pos} {wi : TI} {g : TG} {tt : TT} {tk tv : TE} (hc : X.calm = true) (hN : X.N.Nodup) (hy : X.N[i]? = some y) (hyl : X.env.scope.names.lookup y = some .local)
    (hsw : swapsWith (.DictComp kx vx [⟨tg, iter, ifs, 0⟩] scope pos) (some (.Name y py)) spos.line X.env = pure true) (hi : PI X tg iter wi) (ok : BlkOk X.N X.env.scope scope own)
    (hg : ∀ (s : Shared) (H : Hp) (C : Addr) (cl : List (Str × Addr)) (fp : List Addr), PG (X.blk s H scope (compEnvC scope cl C X.env) fp) tg g) (ht : ∀ (s : Shared) (H : Hp) (C : Addr) (cl : List (Str × Addr)) (fp : List Addr), PTs (X.blk s H scope (compEnvC scope cl C X.env) fp) ifs tt)
    (hk : ∀ (s : Shared) (H : Hp) (C : Addr) (cl : List (Str × Addr)) (fp : List Addr), PE (X.blk s H scope (compEnvC scope cl C X.env) fp) kx tk)
    (he : ∀ (s : Shared) (H : Hp) (C : Addr) (cl : List (Str × Addr)) (fp : List Addr), PE (X.blk s H scope (compEnvC scope cl C X.env) fp) vx tv) (hs : ∀ x, foldedSetIterable iter X.env x = pure x := by intro _; rfl) :
    PS X (.Assign [.Name y py] (.DictComp kx vx [⟨tg, iter, ifs, 0⟩] scope pos) spos) (tAsg (tDc wi g tt tk tv (own.map (·.2))) (gName i)) := by
  refine ⟨fun pins s σ H D I h => ?_⟩
  rw [exec_Assign_Name_used _ _ _ _ hsw]
  refine wpAny_bind (wpAny_standAt (wpAny_bind ?_))
  show wpAny _ X.A (do let _ ← comprehension (.DictComp kx vx [⟨tg, iter, ifs, 0⟩] scope pos) scope X.env (firstIterPos [⟨tg, iter, ifs, 0⟩] pos) newDict false (eval iter X.env) (some (assign (.Name y py) X.env))) _ _ s
  have h : tDc wi g tt tk tv (own.map (·.2)) σ H (fun x H1 => gName i x σ H1 D.nx) := h
  refine wpAny_bind (thn (dc_core (Qf := fun _ s' => SP X pins D .next s') hc hN I hi ok hg ht hk he hs h fun L C s' m H' I' q hn f => ?_) fun _ s' hq => wpAny_pure (wpAny_pure hq))
  show wpAny _ _ (assign (.Name y py) X.env (.ref L)) _ _ _
  refine wpAny_assign_Name (store_ok2 (v := V.ref L) I' hN hy (.inl hyl) rfl (fun s2 I2 ⟨a, sb, ha⟩ => ?_) (.inr hyl))
  obtain ⟨f0, f1, f2, f3, f4, f5⟩ := f
  have haC : C ≠ a := by
    rcases ha with z | z
    · rw [z]; exact f1
    · exact fun e => f4 y a z e.symm
  refine ⟨m, hn.sameBut sb haC, fun h3 sb3 => ?_⟩
  exact ⟨_, H', I2.turned (t' := s2.toks) (fun b o hb e => (sb3.2 b hb).trans e) f0 f1 f3 f4 f5, q⟩
theorem sw_trueD {kx vx : Expr} {gs : List Comprehension} {scope : Scope} {pos py : Pos} {y : Str} {l : Nat} {env : Env} (hk : env.scope.kind = .function) (hy : env.scope.names.lookup y = some .local) (hl : (py.line == pos.line) = true)
    (ha : (scope.names.any fun (n, k) => n == y && (k == .local || k == .cell)) = false) : swapsWith (.DictComp kx vx gs scope pos) (some (.Name y py)) l env = pure true := by
  have ky : env.kindOf y = some .local := hy
  have hb : env.blockKind = .function := by unfold Env.blockKind; rw [hk]; rfl
  unfold swapsWith
  simp only [hb, ky, ha, Expr.pos, hl]
  rfl
end
end LkO
set_option Elab.async false
set_option linter.all false
set_option maxRecDepth 100000
set_option maxHeartbeats 4000000
namespace Lk
open PySem PySem.Spec PyProof.Rows L2 TxS LkO LkG LamX LkS Ld
theorem But.nx {H H' : Hp} {d : Addr} {ys : List V} (b : But d H H') (h : H d = some (.lst ys)) : NX H H' := fun a o e n => b a o e fun z => by
  rw [z, h] at e
  exact n.1 ys (Option.some.inj e).symm
theorem Tabs.but {T : List (Addr × Str)} {H H' : Hp} {d : Addr} {ys : List V} (t : Tabs T H) (b : But d H H') (h : H d = some (.lst ys)) : Tabs T H' := fun p hp => by
  obtain ⟨ps, h1, h2, h3⟩ := t p hp
  have ne : ∀ {a : Addr} {o : HO}, H a = some o → (∀ xs, o ≠ .lst xs) → a ≠ d := fun e n z => by
    rw [z, h] at e
    exact n ys (Option.some.inj e).symm
  refine ⟨ps, b _ _ h1 (ne h1 fun xs z => by cases z), h2, fun pos cv hc => ?_⟩
  obtain ⟨c, e1, e2⟩ := h3 pos cv hc
  exact ⟨c, e1, b _ _ e2 (ne e2 fun xs z => by unfold CodeO at z; cases z)⟩
theorem LkgAt.same {K : PySem.W.Frag} {CK CL x : Addr} {H H' : Hp} {ls : List Str} {trs : List (Str × List Str)} {ds : List (Addr × Dv)} (h : LkgAt K CK CL H x ls trs ds) (s : Same H H') : LkgAt K CK CL H' x ls trs ds := by
  obtain ⟨⟨dx, z, t, l, kvs, h1, h2, h3, h4, h5⟩, h6⟩ := h
  exact ⟨⟨dx, z, t, l, kvs, s _ _ h1, h2.same s, s _ _ h3, h4.mono (fun v a ⟨u, e, q⟩ => ⟨u, e, Same.tup s q⟩), s _ _ h5⟩, fun d hd => (h6 d hd).same s⟩
theorem NoAt.same {K : PySem.W.Frag} {CN x : Addr} {H H' : Hp} {ds : List (Addr × Dv)} (h : NoAt K CN H x ds) (s : Same H H') : NoAt K CN H' x ds := by
  obtain ⟨⟨dx, l, h1, h5⟩, h6⟩ := h
  exact ⟨⟨dx, l, s _ _ h1, s _ _ h5⟩, fun d hd => (h6 d hd).same s⟩
/-- doubts, indeed -/
def GoodDs (b : BldD) (ds : List (Addr × Dv)) : Prop := ds.length ≤ 256 ∧ ∀ d ∈ ds, OkV b d.2 ∧ dbtV b d.2 = true
theorem byIx_len (b : BldD) : (byIx b).length = 2 ^ b.doors.length := by
  unfold byIx
  rw [List.length_map, List.length_mergeSort, choices_len]
theorem byPrice_len (b : BldD) : (byPrice b).length = 2 ^ b.doors.length := by
  unfold byPrice
  rw [List.length_mergeSort, byIx_len]
theorem byPrice_256 {b : BldD} (ok : b.ok) : (byPrice b).length ≤ 256 := by
  rw [byPrice_len]
  exact Nat.le_trans (Nat.pow_le_pow_right (by decide) ok.d8) (by decide)
theorem byPrice_ok {b : BldD} (ok : b.ok) {ls : List Str} (h : ls ∈ byPrice b) : ls.length ≤ 8 ∧ ∀ y ∈ ls, y ∈ b.doors.map (·.1) := by
  unfold byPrice at h
  have h := (List.mergeSort_perm _ _).mem_iff.mp h
  unfold byIx at h
  obtain ⟨c, hc, rfl⟩ := List.mem_map.mp h
  have h3 := (List.mergeSort_perm _ _).mem_iff.mp hc
  have few := choices_few _ _ h3
  have d8 := ok.d8
  refine ⟨Nat.le_trans (len_srt _) ?_, fun y hy => ?_⟩
  · unfold pickN
    rw [List.length_map]
    omega
  · obtain ⟨i, hi, ei⟩ := List.mem_map.mp ((mem_srt _ _).1 hy)
    obtain ⟨j, rfl, hj⟩ := choices_in _ _ h3 i hi
    have hj' : j < (b.doors.map (·.1)).length := by rw [List.length_map]; exact hj
    rw [Int.toNat_natCast, List.getElem?_eq_getElem hj'] at ei
    rw [← ei]
    exact List.getElem_mem hj'
section
variable {P : Program} {w : World} {K : PySem.W.Frag} {mg : Str → Option Value} {base : Heap} {CD CP CB CL CK CN : Addr}
/-! ### cheapest -/
def spCheap (K : PySem.W.Frag) (CD CP CB CL CK CN PT : Addr) : Sp := fun vs H Q _ => ∃ (x : Addr) (b : BldD), vs = [.ref x] ∧ BldAt K CD CP CB H x b ∧ Tabs (tabT PT) H ∧
  (∀ H' y (i : Nat) ls ds, ExtN H H' → Tabs (tabT PT) H' → LkgAt K CK CL H' y ls (b.people.map fun q => (q.1, trailOf b q.2 ls)) ds → (byPrice b)[i]? = some ls → RightS b ls → GoodDs b ds → (∀ l ∈ (byPrice b).take i, (ds.any fun d => strV l d.2) = true) → Q (.ref y) H') ∧
  ∀ H' y ds, ExtN H H' → Tabs (tabT PT) H' → NoAt K CN H' y ds → GoodDs b ds → (∀ l ∈ byPrice b, (ds.any fun d => strV l d.2) = true) → Q (.ref y) H'
abbrev nCheap : List Str := ["building", "doubts", "locks", "doubt", "trails", "name"]
theorem scCheap : FnScope nCheap ["building"] (defScope s_cheapest) := ⟨rfl, rfl, rfl, by decide +kernel, rfl, by decide +kernel, by decide +kernel⟩
theorem ok_cheap {f PT : Addr} {fd : FuncData} (F : Fun K "cheapest" "cheapest" s_cheapest f fd) (T : OwnC K mg CB "Building" bldF) (TK : OwnC K mg CK "Locking" lkgF) (TN : OwnC K mg CN "NoLocking" noF) (PP : Pr P w K mg base 1 CB "people" (spBPeople K CD CP CB))
    (GB : Fn P w K mg base 1 "check_building" ["building"] (spChkB CB)) (GS : Fn P w K mg base 7 "sets_by_price" ["building"] (spBySets K CD CP CB CL PT)) (GU : Fn P w K mg base 4 "is_struck" ["doubts", "locks"] (spStruck K CL))
    (GA : Fn P w K mg base 9 "doubt_about" ["building", "locks"] (spAbout K CD CP CB CL)) (GT : Fn P w K mg base 7 "trail_of" ["building", "name", "locks"] (spTrailOf K CD CP CB CL))
    (OK : MkO P w K mg base CK 1 ["self", "locks", "trails", "doubts"] (spKIn K CK)) (ON : MkO P w K mg base CN 1 ["self", "doubts"] (spNIn K CN)) : FnOk P w K mg base CX0 10 f fd ["building"] (spCheap K CD CP CB CL CK CN PT) := by
  obtain ⟨fK, fdK, MK, bK, FK⟩ := OK.ex
  obtain ⟨fN, fdN, MN, bN, FN⟩ := ON.ex
  refine F.ok scCheap (fun vs H Q E h => ?_) (fun cdv A outer s H vs Q E hr h => ?_)
  · obtain ⟨x, b, rfl, _⟩ := h
    rfl
  · obtain ⟨x, b, rfl, hb, hT, q1, q2⟩ := h
    have hr1 := hr.mono (show 1 ≤ 9 by decide)
    have hr2 := hr.mono (show 2 ≤ 9 by decide)
    have hr4 := hr.mono (show 4 ≤ 9 by decide)
    have hr7 := hr.mono (show 7 ≤ 9 by decide)
    refine ⟨_, (pss_cons (ps_expr (pe_fn GB hr1 (by rfl) (pa_cons (pv 0) pa_nil)))
      (pss_cons (ps_set (i := 1) scCheap.nd rfl (.inl rfl) (pe_lst pa_nil))
      (pss_cons (ps_for PassesOwn.never rfl (pi_list (pe_fn GS hr7 (by rfl) (pa_cons (pv 0) pa_nil))) (pg_name (i := 2) scCheap.nd rfl (Or.inr rfl)) (pss_one (ps_if (pt_not (pt_val (pe_fn GU hr4 (by rfl) (pa_cons (pv 1) (pa_cons (pv 2) pa_nil))))) (pss_cons (ps_set (i := 3) scCheap.nd rfl (.inl rfl) (pe_fn GA hr (by rfl) (pa_cons (pv 0) (pa_cons (pv 2) pa_nil))))
      (pss_cons (ps_if (pt_cmp (pc_isN (pv 3))) (pss_cons (ps_setDc (i := 4) (own := [("name", 5)]) (g := (gName 5)) (tt := tYes) (tk := (tVar 5)) (tv := (tCall (spTrailOf K CD CP CB CL) [] E0 (tCons (tVar 0) (tCons (tVar 5) (tCons (tVar 2) tNil))))) rfl scCheap.nd rfl rfl (sw_trueD rfl rfl rfl (by decide +kernel)) (pi_list (pe_pr PP hr2 T.cl (pv 0) rfl)) (blkOk_by (N := nCheap) (sc := defScope s_cheapest) (by decide +kernel)) (fun _ _ _ _ _ => (pg_name (i := 5) scCheap.nd rfl (Or.inl rfl))) (fun _ _ _ _ _ => pts_nil) (fun _ _ _ _ _ => (pv 5)) (fun _ _ _ _ _ => (pe_fn GT hr7 (by rfl) (pa_cons (pv 0) (pa_cons (pv 5) (pa_cons (pv 2) pa_nil))))))
      (pss_one (ps_ret (pe_make (E := E0) MK FK hr2 (by rfl) TK.mgC bK .nil pass0 (pa_cons (pv 2) (pa_cons (pv 4) (pa_cons (pv 1) pa_nil))))))) pss_nil)
      (pss_one (ps_expr (pe_bm PySem.F.plainAttrs_list PySem.F.slot_list_append PySem.F.type_list_append mt_append (pv 1) (pa_cons (pv 3) pa_nil)))))) pss_nil)))
      (pss_one (ps_ret (pe_make (E := E0) MN FN hr2 (by rfl) TN.mgC bN .nil pass0 (pa_cons (pv 1) pa_nil))))))), ?_⟩
    obtain ⟨⟨dx, r, k, dn, dd, pn, pd, ok, od, op, kvs, dvs, pvs, I⟩, bok⟩ := id hb
    refine ⟨.ref x, rfl, x, dx, _, rfl, I.ob, ?_⟩
    refine ⟨Nat.zero_le _, fun dl ndl => ?_⟩
    have s1 := same_new (o := .lst []) ndl
    refine ⟨.ref x, rfl, x, b, rfl, hb.same s1, hT.ext s1, fun H2 p zs eN T2 np ep ez ebp => ?_⟩
    have edl : H2 dl = some (.lst []) := eN _ _ upd_same fun ps z => by cases z
    have hpd : p ≠ dl := fun z => by
      obtain ⟨ps, e⟩ := np _ (by rw [z]; exact upd_same)
      cases e
    have hb2 := (hb.same s1).nx (NX.ofT eN)
    have zl : zs.length = (byPrice b).length := by rw [← ebp, List.length_map]
    have z256 : zs.length ≤ 256 := by rw [zl]; exact byPrice_256 bok
    refine ⟨p, rfl, ⟨_, .inl (.inl ep)⟩, for_it (walk_list (xs := zs.map fun z : Addr × List Str => V.ref z.1)) (fun i σ H' => But dl H2 H' ∧ ∃ (ds : List (Addr × Dv)) (y2 y3 y4 : Option V), H' dl = some (.lst (ds.map fun d => V.ref d.1)) ∧ ds.length ≤ i ∧ (∀ d ∈ ds, DbtA K H' d ∧ OkV b d.2 ∧ dbtV b d.2 = true) ∧ (∀ l ∈ (byPrice b).take i, (ds.any fun d => strV l d.2) = true) ∧ σ = [some (.ref x), some (.ref dl), y2, y3, y4, none])
      ⟨But.of (Same.refl _), [], none, none, none, edl, Nat.le_refl _, (fun d hd => by cases hd), (fun l hl => by simp at hl), rfl⟩ (fun i σ H' _ hP => .inl (.inl (hP.1 _ _ ep hpd))) (fun i v σ H4 H5 hi hP hY => ?_) (fun σ H4 hP => ?_)⟩
    · obtain ⟨rfl, hv⟩ := hY
      obtain ⟨bt, ds, y2, y3, y4, ed, ld, each, str, rfl⟩ := hP
      obtain ⟨z, hz, rfl⟩ := at_map hv
      have hzm := List.mem_of_getElem? hz
      have hzl : (byPrice b)[i]? = some z.2 := by rw [← ebp, List.getElem?_map, hz]; rfl
      have hok := byPrice_ok bok (List.mem_of_getElem? hzl)
      have hi256 : i < 256 := by
        rw [List.length_map] at hi
        omega
      have nx := bt.nx edl
      have hz5 := (ez z hzm).nx nx
      have hb5 := hb2.nx nx
      refine ⟨.ref dl, rfl, .ref z.1, rfl, dl, z.1, ds, z.2, rfl, .inl (.inl ed), by omega, fun d hd => ⟨(each d hd).1, ?_⟩, hz5, fun H6 s6 => ⟨_, rfl, ?_⟩⟩
      · obtain ⟨_, ⟨pp, _, h60⟩, _⟩ := each d hd
        omega
      have stepE : ∀ {H7 : Hp} {es : List (Addr × Dv)}, True := fun {_ _} => trivial
      by_cases hst : (ds.any fun d => strV z.2 d.2) = true
      · rw [hst]
        refine iteF ⟨bt.trans (But.of s6), ds, _, _, _, s6 _ _ ed, Nat.le_succ_of_le ld, fun d hd => ⟨(each d hd).1.same s6, (each d hd).2⟩, fun l hl => ?_, rfl⟩
        rw [take_next1 hzl] at hl
        rcases List.mem_append.mp hl with h | h
        · exact str l h
        · rw [List.mem_singleton.mp h]
          exact hst
      · rw [Bool.eq_false_iff.mpr hst]
        refine iteT ?_
        refine ⟨.ref x, rfl, .ref z.1, rfl, x, z.1, b, z.2, rfl, hb5.same s6, hz5.same s6, by omega, hok.2, fun e0 H7 s7 => ?_, fun d e0 H7 a s7 ha => ?_⟩
        · have s67 := s6.trans s7
          refine ⟨.non, rfl, true, rfl, iteT ?_⟩
          have hb7 := hb5.same s67
          obtain ⟨⟨dx7, r7, k7, dn7, dd7, pn7, pd7, ok7, od7, op7, kvs7, ds7, ps7, I7⟩, _⟩ := id hb7
          refine ⟨.ref x, rfl, x, dx7, _, rfl, I7.ob, x, b, rfl, hb7, fun pl npl => ⟨pl, rfl, ⟨_, .inl (.inl upd_same)⟩, fun D nD => ?_⟩⟩
          have s8 := same_new (o := .lst ((b.people.map (·.1)).map V.str)) npl
          have s68 := s67.trans s8
          refine dc_R (walk_list (xs := (b.people.map fun q : Str × PersonD => q.1).map V.str)) b.people (fun q => q.1) (fun q => trailOf b q.2 z.2) (fun H v tr => trR K H v tr) (fun H H' v a t h => by obtain ⟨u, e, h⟩ := h; exact ⟨u, e, t _ _ _ h⟩) (by rw [List.length_map, List.length_map]) bok.pnd nD (by have := bok.p4; omega) (fun H' s' => .inl (.inl (s' _ _ upd_same))) (fun j q v H9 H10 Kt hq s9 hY kt => ?_) (fun H9 kvs9 s9 eD tb => ?_)
          · obtain ⟨rfl, hx⟩ := hY
            rw [List.getElem?_map, List.getElem?_map, hq] at hx
            cases hx
            obtain ⟨n, pp⟩ := q
            have hn : b.people.lookup n = some pp := look_at bok.pnd (List.mem_of_getElem? hq)
            refine ⟨rfl, .str n, rfl, .ref x, rfl, .str n, rfl, .ref z.1, rfl, x, z.1, b, n, pp, z.2, rfl, hb7.same (s8.trans s9), hn, hz5.same (s68.trans s9), by omega, hok.2, fun H11 t s11 ht => kt _ _ s11 ⟨t, rfl, ht⟩⟩
          · have s69 := s68.trans s9
            refine ⟨.ref z.1, rfl, .ref D, rfl, .ref dl, rfl, ?_⟩
            intro y dy ny ndy ney
            have b10 : Same H9 (upd (upd H9 dy (.own y)) y (.ins CK dy [])) := (same_new ndy).trans (same_new (by rw [upd_ne (Ne.symm ney)]; exact ny))
            refine ⟨y, dy, z.1, D, dl, kvs9, ds.map fun d => V.ref d.1, rfl, upd_same, .inl (b10 _ _ eD), .inl (.inl (b10 _ _ (s69 _ _ ed))), fun H11 t' l' b11 e1 e2 e3 n1 n2 => ⟨rfl, ?_⟩⟩
            have s911 : Same H9 H11 := fun b o e => b11 b o (b10 b o e) (ne_of_none e ny)
            have hb11 : But dl H2 H11 := (bt.trans (But.of s69)).trans (But.of s911)
            have eN11 : ExtN H H11 := fun b o e n => by
              by_cases hbd : b = dl
              · rw [hbd, ndl] at e
                cases e
              · exact hb11 b o (eN b o (s1 b o e) n) hbd
            refine q1 _ y i z.2 ds eN11 (Tabs.but T2 hb11 edl) ⟨⟨dy, z.1, t', l', kvs9, e1, (hz5.same s69).same s911, e2, tb.mono (fun v a ⟨u, e, q⟩ => ⟨u, e, Same.tup s911 q⟩), e3⟩, fun d hd => ((each d hd).1.same s69).same s911⟩ hzl ((doubt_none bok).1 e0) ⟨by omega, fun d hd => (each d hd).2⟩ str
        · refine ⟨.ref a, rfl, false, rfl, iteF ?_⟩
          have s67 := s6.trans s7
          obtain ⟨hv1, hv2, hv3⟩ := doubt_some bok hok.2 e0
          have ed7 := s67 _ _ ed
          have b8 : But dl H7 (upd H7 dl (.lst (ds.map (fun d => V.ref d.1) ++ [.ref a]))) := But.put
          have nx8 := b8.nx ed7
          refine ⟨.ref dl, rfl, .inl ⟨rfl, _, .inl (.inl ed7)⟩, .ref a, rfl, dl, _, _, rfl, rfl, ed7, by rw [List.length_map, sizeLine_eq]; omega, ?_⟩
          refine ⟨(bt.trans (But.of s67)).trans b8, ds ++ [(a, d)], _, _, _, by rw [upd_same, List.map_append]; rfl, by rw [List.length_append, List.length_singleton]; omega, fun e he => ?_, fun l hl => ?_, rfl⟩
          · rcases List.mem_append.mp he with h | h
            · exact ⟨((each e h).1.same s67).nx nx8, (each e h).2⟩
            · rw [List.mem_singleton.mp h]
              exact ⟨ha.nx nx8, hv1, hv2⟩
          · rw [List.any_append]
            rw [take_next1 hzl] at hl
            rcases List.mem_append.mp hl with h | h
            · rw [str l h, Bool.true_or]
            · rw [List.mem_singleton.mp h, Bool.or_eq_true]
              refine .inr ?_
              show (strV z.2 d || false) = true
              rw [hv3]
              rfl
    · obtain ⟨bt, ds, y2, y3, y4, ed, ld, each, str, rfl⟩ := hP
      rw [List.length_map, zl] at ld
      rw [List.length_map, zl, List.take_length] at str
      have p256 := byPrice_256 bok
      refine ⟨.ref dl, rfl, ?_⟩
      intro y dy ny ndy ney
      have b10 : Same H4 (upd (upd H4 dy (.own y)) y (.ins CN dy [])) := (same_new ndy).trans (same_new (by rw [upd_ne (Ne.symm ney)]; exact ny))
      refine ⟨y, dy, dl, ds.map fun d => V.ref d.1, rfl, upd_same, .inl (.inl (b10 _ _ ed)), fun H11 l' b11 e1 e3 n2 => ⟨rfl, ?_⟩⟩
      have s911 : Same H4 H11 := fun b o e => b11 b o (b10 b o e) (ne_of_none e ny)
      have hb11 : But dl H2 H11 := bt.trans (But.of s911)
      have eN11 : ExtN H H11 := fun b o e n => by
        by_cases hbd : b = dl
        · rw [hbd, ndl] at e
          cases e
        · exact hb11 b o (eN b o (s1 b o e) n) hbd
      exact q2 _ y ds eN11 (Tabs.but T2 hb11 edl) ⟨⟨dy, l', e1, e3⟩, fun d hd => (each d hd).1.same s911⟩ ⟨by omega, fun d hd => (each d hd).2⟩ str
end
end Lk
set_option Elab.async false
set_option linter.all false
set_option maxRecDepth 100000
set_option maxHeartbeats 4000000
namespace Lk
open PySem PySem.Spec PyProof.Rows L2 TxS LkO LkG
section
variable {P : Program} {w : World} {K : PySem.W.Frag} {mg : Str → Option Value} {base : Heap} {CD CP CB CL : Addr}
/-! ### check_trail -/
def spChkT (K : PySem.W.Frag) (CD CP CB : Addr) : Sp := fun vs H Q _ => ∃ (x t : Addr) (b : BldD) (zs : List Str), vs = [.ref x, .ref t] ∧ BldAt K CD CP CB H x b ∧ SqT K H t (zs.map V.str) ∧ zs.length ≤ 1000 ∧ (∀ z ∈ zs, z ∈ b.doors.map (·.1)) ∧ ∀ H', Same H H' → Q .non H'
theorem scChkT : FnScope ["building", "trail"] ["building", "trail"] (defScope s_check_trail) := ⟨rfl, rfl, rfl, by decide +kernel, rfl, by decide +kernel, by decide +kernel⟩
theorem ok_chkT {f : Addr} {fd : FuncData} (F : Fun K "check_trail" "check_trail" s_check_trail f fd) (GD : Fn P w K mg base 3 "are_doors_of" ["building", "names"] (spDoorsOf K CD CP CB)) : FnOk P w K mg base CX0 4 f fd ["building", "trail"] (spChkT K CD CP CB) := by
  refine F.ok scChkT (fun vs H Q E h => ?_) (fun cdv A outer s H vs Q E hr h => ?_)
  · obtain ⟨x, t, b, zs, rfl, _⟩ := h
    rfl
  · obtain ⟨x, t, b, zs, rfl, hb, ht, few, sub, q⟩ := h
    refine ⟨_, pss_one (ps_if (pt_not (pt_val (pe_fn GD hr (by rfl) (pa_cons (pv 0) (pa_cons (pv 1) pa_nil))))) (pss_one ps_never) pss_nil), ?_⟩
    exact ⟨.ref x, rfl, .ref t, rfl, x, t, b, zs, rfl, hb, ht, few, door_line hb.ok sub, fun H1 s1 => ⟨true, by rw [areDoors_yes hb.ok sub], iteF (q _ s1)⟩⟩
end
end Lk
set_option Elab.async false
set_option linter.all false
set_option maxRecDepth 100000
set_option maxHeartbeats 4000000
namespace Lk
open PySem PySem.Spec PyProof.Rows L2 TxS LkO LkG
section
variable {P : Program} {w : World} {K : PySem.W.Frag} {mg : Str → Option Value} {base : Heap} {CD CP CB CL : Addr}
/-! ### is_trail -/
theorem spChkB_def (CB : Addr) : spChkB CB = fun vs H Q _ => ∃ (a dx : Addr) (fs : List (Str × V)), vs = [.ref a] ∧ H a = some (.ins CB dx fs) ∧ Q .non H := rfl
def spIsTrail (K : PySem.W.Frag) (CD CP CB CL : Addr) : Sp := fun vs H Q _ => ∃ (x z t : Addr) (b : BldD) (n : Str) (p : PersonD) (ls tr : List Str), vs = [.ref x, .str n, .ref z, .ref t] ∧ BldAt K CD CP CB H x b ∧ b.people.lookup n = some p ∧ LkAt CL H z ls ∧ ls.length ≤ 1000 ∧ (∀ z ∈ ls, z ∈ b.doors.map (·.1)) ∧
  SqT K H t (tr.map V.str) ∧ tr.length ≤ 1000 ∧ (∀ n ∈ tr, n ∈ b.doors.map (·.1)) ∧ ∀ H', Same H H' → Q (.bl (roomsOf b p ls tr).isSome) H'
theorem scIsTrail : FnScope ["building", "name", "locks", "trail", "person"] ["building", "name", "locks", "trail"] (defScope s_is_trail) := ⟨rfl, rfl, rfl, by decide +kernel, rfl, by decide +kernel, by decide +kernel⟩
theorem ok_isTrail {f : Addr} {fd : FuncData} (F : Fun K "is_trail" "is_trail" s_is_trail f fd) (T : OwnC K mg CB "Building" bldF) (GB : Fn P w K mg base 1 "check_building" ["building"] (spChkB CB))
    (MP : Mt P w K mg base 2 CB "person" ["self", "name"] (spPersOf K CD CP CB)) (GC : Fn P w K mg base 3 "check_locks" ["building", "locks"] (spChk K CD CP CB CL)) (GT : Fn P w K mg base 4 "check_trail" ["building", "trail"] (spChkT K CD CP CB))
    (GR : Fn P w K mg base 6 "rooms_of" ["building", "person", "locks", "trail"] (spRoomsOf K CD CP CB CL)) : FnOk P w K mg base CX0 7 f fd ["building", "name", "locks", "trail"] (spIsTrail K CD CP CB CL) := by
  refine F.ok scIsTrail (fun vs H Q E h => ?_) (fun cdv A outer s H vs Q E hr h => ?_)
  · obtain ⟨x, z, t, b, n, p, ls, tr, rfl, _⟩ := h
    rfl
  · obtain ⟨x, z, t, b, n, p, ls, tr, rfl, hb, hn, hz, few, sub, ht, fewt, subt, q⟩ := h
    have hr1 := hr.mono (show 1 ≤ 6 by decide)
    have hr2 := hr.mono (show 2 ≤ 6 by decide)
    have hr3 := hr.mono (show 3 ≤ 6 by decide)
    have hr4 := hr.mono (show 4 ≤ 6 by decide)
    refine ⟨_, pss_cons (ps_expr (pe_fn GB hr1 (by rfl) (pa_cons (pv 0) pa_nil)))
      (pss_cons (ps_set (i := 4) scIsTrail.nd rfl (.inl rfl) (pe_mt MP hr2 T.cl (pv 0) (pa_cons (pv 1) pa_nil)))
      (pss_cons (ps_expr (pe_fn GC hr3 (by rfl) (pa_cons (pv 0) (pa_cons (pv 2) pa_nil))))
      (pss_cons (ps_expr (pe_fn GT hr4 (by rfl) (pa_cons (pv 0) (pa_cons (pv 3) pa_nil))))
      (pss_one (ps_ret (pe_cmp (pc_notN (pe_fn GR hr (by rfl) (pa_cons (pv 0) (pa_cons (pv 4) (pa_cons (pv 2) (pa_cons (pv 3) pa_nil)))))))))))), ?_⟩
    obtain ⟨⟨dx, r, k, dn, dd, pn, pd, ok, od, op, kvs, ds, ps, I⟩, bok⟩ := id hb
    refine ⟨.ref x, rfl, x, dx, _, rfl, I.ob, ?_⟩
    refine ⟨.ref x, rfl, x, dx, _, rfl, I.ob, rfl, .str n, rfl, x, b, n, p, rfl, hb, hn, fun H1 y s1 hy => ?_⟩
    refine ⟨.ref x, rfl, .ref z, rfl, x, z, b, ls, rfl, hb.same s1, hz.same s1, few, sub, fun H2 s2 => ?_⟩
    have s12 := s1.trans s2
    refine ⟨.ref x, rfl, .ref t, rfl, x, t, b, tr, rfl, hb.same s12, Same.tup s12 ht, fewt, subt, fun H3 s3 => ?_⟩
    have s13 := s12.trans s3
    refine ⟨.ref x, rfl, .ref y, rfl, .ref z, rfl, .ref t, rfl, x, y, z, t, b, p, ls, tr, rfl, hb.same s13, (hy.same s2).same s3, hz.same s13, Same.tup s13 ht, fewt, subt, fun e H4 s4 => ?_, fun R e H4 m s4 nm em => ?_⟩
    · have q2 := q _ (s13.trans s4)
      rw [e] at q2
      exact q2
    · have q2 := q _ (s13.trans s4)
      rw [e] at q2
      exact q2
/-! ### is_complete -/
def completeOf (b : BldD) (p : PersonD) (ls tr : List Str) : Bool := match roomsOf b p ls tr with
  | none => false
  | some R => (beyondOf b p ls R).isEmpty
def spIsComp (K : PySem.W.Frag) (CD CP CB CL : Addr) : Sp := fun vs H Q _ => ∃ (x z t : Addr) (b : BldD) (n : Str) (p : PersonD) (ls tr : List Str), vs = [.ref x, .str n, .ref z, .ref t] ∧ BldAt K CD CP CB H x b ∧ b.people.lookup n = some p ∧ LkAt CL H z ls ∧ ls.length ≤ 1000 ∧ (∀ z ∈ ls, z ∈ b.doors.map (·.1)) ∧
  SqT K H t (tr.map V.str) ∧ tr.length ≤ 1000 ∧ (∀ n ∈ tr, n ∈ b.doors.map (·.1)) ∧ ∀ H', Same H H' → Q (.bl (completeOf b p ls tr)) H'
theorem scIsComp : FnScope ["building", "name", "locks", "trail", "person"] ["building", "name", "locks", "trail"] (defScope s_is_complete) := ⟨rfl, rfl, rfl, by decide +kernel, rfl, by decide +kernel, by decide +kernel⟩
theorem beyond_nm {b : BldD} (ok : b.ok) {p : PersonD} {ls rooms : List Str} : ∀ z ∈ beyondOf b p ls rooms, PyData.strOk z = true := fun z hz => by
  obtain ⟨n, d, r, hm, _, _, hw, _, _⟩ := mem_beyond.mp hz
  exact nm_ok (are_nm ok.rooms z (ways_in ok hm hw).2)
theorem ok_isComp {f : Addr} {fd : FuncData} (F : Fun K "is_complete" "is_complete" s_is_complete f fd) (T : OwnC K mg CB "Building" bldF) (GI : Fn P w K mg base 7 "is_trail" ["building", "name", "locks", "trail"] (spIsTrail K CD CP CB CL))
    (MP : Mt P w K mg base 2 CB "person" ["self", "name"] (spPersOf K CD CP CB)) (GR : Fn P w K mg base 6 "rooms_of" ["building", "person", "locks", "trail"] (spRoomsOf K CD CP CB CL)) (GY : Fn P w K mg base 6 "rooms_beyond" ["building", "person", "locks", "rooms"] (spBeyond K CD CP CB CL)) :
    FnOk P w K mg base CX0 8 f fd ["building", "name", "locks", "trail"] (spIsComp K CD CP CB CL) := by
  refine F.ok scIsComp (fun vs H Q E h => ?_) (fun cdv A outer s H vs Q E hr h => ?_)
  · obtain ⟨x, z, t, b, n, p, ls, tr, rfl, _⟩ := h
    rfl
  · obtain ⟨x, z, t, b, n, p, ls, tr, rfl, hb, hn, hz, few, sub, ht, fewt, subt, q⟩ := h
    have hr2 := hr.mono (show 2 ≤ 7 by decide)
    have hr6 := hr.mono (show 6 ≤ 7 by decide)
    refine ⟨_, pss_cons (ps_if (pt_not (pt_val (pe_fn GI hr (by rfl) (pa_cons (pv 0) (pa_cons (pv 1) (pa_cons (pv 2) (pa_cons (pv 3) pa_nil))))))) (pss_one (ps_ret pe_bl)) pss_nil)
      (pss_cons (ps_set (i := 4) scIsComp.nd rfl (.inl rfl) (pe_mt MP hr2 T.cl (pv 0) (pa_cons (pv 1) pa_nil)))
      (pss_one (ps_ret (pe_cmpR (op_eqD hr.units) (pe_fn GY hr6 (by rfl) (pa_cons (pv 0) (pa_cons (pv 4) (pa_cons (pv 2) (pa_cons (pe_fn GR hr6 (by rfl) (pa_cons (pv 0) (pa_cons (pv 4) (pa_cons (pv 2) (pa_cons (pv 3) pa_nil))))) pa_nil))))) (pe_lst pa_nil) (nomark _))))), ?_⟩
    obtain ⟨⟨dx, r, k, dn, dd, pn, pd, ok, od, op, kvs, ds, ps, I⟩, bok⟩ := id hb
    refine ⟨.ref x, rfl, .str n, rfl, .ref z, rfl, .ref t, rfl, x, z, t, b, n, p, ls, tr, rfl, hb, hn, hz, few, sub, ht, fewt, subt, fun H1 s1 => ?_⟩
    cases hR : roomsOf b p ls tr with
    | none =>
      have q2 := q _ s1
      unfold completeOf at q2
      rw [hR] at q2
      exact ⟨false, rfl, iteT q2⟩
    | some R =>
      refine ⟨true, rfl, iteF ?_⟩
      refine ⟨.ref x, rfl, x, dx, _, rfl, s1 _ _ I.ob, rfl, .str n, rfl, x, b, n, p, rfl, hb.same s1, hn, fun H2 y s2 hy => ?_⟩
      have s12 := s1.trans s2
      refine ⟨.ref x, rfl, .ref y, rfl, .ref z, rfl, .ref x, rfl, .ref y, rfl, .ref z, rfl, .ref t, rfl, x, y, z, t, b, p, ls, tr, rfl, hb.same s12, hy, hz.same s12, Same.tup s12 ht, fewt, subt, (fun e => by rw [hR] at e; cases e), fun R' e H3 m s3 nm em => ?_⟩
      rw [hR] at e
      cases e
      have s13 := s12.trans s3
      refine ⟨x, y, z, m, b, p, ls, R, rfl, hb.same s13, hy.same s3, hz.same s13, .inl (.inl em), fun H4 m2 s4 nm2 em2 => ?_⟩
      refine ⟨Nat.zero_le _, fun l0 nl0 => ?_⟩
      have s5 := same_new (o := .lst []) nl0
      refine ⟨_, _, .lst (.inl (.inl (s5 _ _ em2))) (dp_strs _), .lst (.inl (.inl upd_same)) .nil, shaped_strsL (beyond_nm bok), shaped_strsL (zs := []) (by simp), ?_⟩
      have q2 := q _ (s13.trans (s4.trans s5))
      unfold completeOf at q2
      rw [hR] at q2
      have e2 : PyData.eqv (.list ((beyondOf b p ls R).map PyData.str)) (.list []) = (beyondOf b p ls R).isEmpty := by
        cases beyondOf b p ls R <;> simp [PyData.eqv, PyData.eqvAll]
      rw [e2]
      exact q2
end
end Lk
set_option Elab.async false
set_option linter.all false
set_option maxRecDepth 100000
set_option maxHeartbeats 4000000
namespace Lk
open PySem PySem.Spec PyProof.Rows L2 TxS LkO LkG
section
variable {P : Program} {w : World} {K : PySem.W.Frag} {mg : Str → Option Value} {base : Heap} {CD CP CB CL : Addr}
/-! ### suits -/
def suitsOf (p : PersonD) (rooms : List Str) : Bool := (p.needs.all fun z => decide (z ∈ rooms)) && !(p.shuns.any fun z => decide (z ∈ rooms))
def spSuits (K : PySem.W.Frag) (CP : Addr) : Sp := fun vs H Q _ => ∃ (y l : Addr) (p : PersonD) (rooms : List Str), vs = [.ref y, .ref l] ∧ PersonAt K CP H y p ∧ SqL K H l (rooms.map V.str) ∧ ∀ H', Same H H' → Q (.bl (suitsOf p rooms)) H'
theorem scSuits : FnScope ["person", "rooms", "room"] ["person", "rooms"] (defScope s_suits) := ⟨rfl, rfl, rfl, by decide +kernel, rfl, by decide +kernel, by decide +kernel⟩
theorem ok_suits {f : Addr} {fd : FuncData} (F : Fun K "suits" "suits" s_suits f fd) (B : Blt mg) (TP : PersT P w K mg base CP) (GI : Fn P w K mg base 1 "all_in" ["names", "known"] (spAllIn K)) : FnOk P w K mg base CX0 3 f fd ["person", "rooms"] (spSuits K CP) := by
  refine F.ok scSuits (fun vs H Q E h => ?_) (fun cdv A outer s H vs Q E hr h => ?_)
  · obtain ⟨y, l, p, rooms, rfl, _⟩ := h
    rfl
  · obtain ⟨y, l, p, rooms, rfl, hp, hl, q⟩ := h
    obtain ⟨⟨dy, t1, t2, t3, h0, h1, h2, h3⟩, pok⟩ := id hp
    refine ⟨_, pss_one (ps_ret (pe_and (pe_fn GI (hr.mono (by decide)) (by rfl) (pa_cons (pe_pr TP.needs hr TP.c.cl (pv 0) rfl) (pa_cons (pv 1) pa_nil))) (pe_one (pe_not (pe_callB (cr_any rfl) (by rfl) B.any PyProof.Rows.boot_any (pa_cons
      (pe_lc (own := [("room", 2)]) (g := gName 2) (tt := tYes) (te := tOp (rIn K false) (tVar 2) (tVar 1)) rfl scSuits.nd (pi_tup (pe_pr TP.shuns hr TP.c.cl (pv 0) rfl)) (blkOk_by (N := ["person", "rooms", "room"]) (sc := defScope s_suits) (by decide +kernel))
        (fun _ _ _ _ _ => pg_name (i := 2) scSuits.nd rfl (Or.inl rfl)) (fun _ _ _ _ _ => pts_nil) (fun _ _ _ _ _ => pe_cmpR op_in_seq (pv 2) (pv 1) rfl)) pa_nil)))))), ?_⟩
    obtain ⟨l1, l2, l3, l4⟩ := look_person p.a t1 t2 t3
    refine ⟨.ref y, rfl, y, dy, _, rfl, h0, y, dy, _, _, rfl, h0, l3, .ref l, rfl, t2, l, p.needs, rooms, rfl, by have := pok.few2; omega, h2, .inl hl, fun H1 s1 => ⟨_, rfl, ite2 (fun t => ?_) (fun t => ?_)⟩⟩
    · refine ⟨.ref y, rfl, y, dy, _, rfl, s1 _ _ h0, y, dy, _, _, rfl, s1 _ _ h0, l4, t3, rfl, ⟨_, Same.tup s1 h3⟩, fun D nD => lc_m (walk_tup (xs := p.shuns.map V.str)) p.shuns (fun z => .bl (decide (z ∈ rooms))) (by rw [List.length_map]) nD (by have := pok.few3; omega) (fun H' s => Same.tup (s1.trans s) h3) (fun i z x H2 H3 Kt hz s2 hY k => ?_) (fun H5 s5 e => ?_)⟩
      · obtain ⟨rfl, hx⟩ := hY
        rw [List.getElem?_map, hz] at hx
        cases hx
        refine ⟨rfl, .str z, rfl, .ref l, rfl, l, _, rfl, .inl ((s1.trans s2).seq hl), rfl, flat_strs rooms, ?_⟩
        rw [inV_str]
        exact k _ (Same.refl _)
      · refine ⟨D, p.shuns.map fun z => decide (z ∈ rooms), rfl, .inl (.inl (by rw [List.map_map]; exact e)), _, rfl, ?_⟩
        have e2 : suitsOf p rooms = !((p.shuns.map fun z => decide (z ∈ rooms)).any id) := by
          unfold suitsOf
          rw [t, Bool.true_and, List.any_map]
          rfl
        have q2 := q _ (s1.trans s5)
        rw [e2] at q2
        exact q2
    · have e2 : suitsOf p rooms = false := by
        unfold suitsOf
        rw [Bool.eq_false_iff.mpr t, Bool.false_and]
      rw [e2] at q
      exact q _ s1
def spRight (K : PySem.W.Frag) (CD CP CB CL : Addr) : Sp := fun vs H Q _ => ∃ (x z : Addr) (b : BldD) (ls : List Str), vs = [.ref x, .ref z] ∧ BldAt K CD CP CB H x b ∧ LkAt CL H z ls ∧ ls.length ≤ 1000 ∧ (∀ z ∈ ls, z ∈ b.doors.map (·.1)) ∧
  ∀ H' (c : Bool), Same H H' → (c = true ↔ ∀ q ∈ b.people, (∀ u ∈ q.2.needs, Rch b q.2 ls u) ∧ ∀ u ∈ q.2.shuns, ¬ Rch b q.2 ls u) → Q (.bl c) H'
theorem scRight : FnScope ["self", "locks", "name"] ["self", "locks"] (defScope s_Building_is_right) := ⟨rfl, rfl, rfl, by decide +kernel, rfl, by decide +kernel, by decide +kernel⟩
theorem suits_iff {b : BldD} (ok : b.ok) {q : Str × PersonD} (hq : q ∈ b.people) {ls : List Str} {g : Str → Bool} (hg : ∀ z, g z = true ↔ Rch b q.2 ls z) : suitsOf q.2 (b.rooms.filter g) = true ↔ (∀ u ∈ q.2.needs, Rch b q.2 ls u) ∧ ∀ u ∈ q.2.shuns, ¬ Rch b q.2 ls u := by
  have hm : ∀ u, u ∈ b.rooms.filter g ↔ Rch b q.2 ls u := fun u => by
    rw [List.mem_filter, hg u]
    exact ⟨fun h => h.2, fun h => ⟨rch_in ok (n := q.1) (p := q.2) hq h, h⟩⟩
  unfold suitsOf
  rw [Bool.and_eq_true, List.all_eq_true]
  refine and_congr ⟨fun h u hu => (hm u).1 (of_decide_eq_true (h u hu)), fun h u hu => decide_eq_true ((hm u).2 (h u hu))⟩ ?_
  rw [Bool.not_eq_true', List.any_eq_false]
  exact ⟨fun h u hu r => h u hu (decide_eq_true ((hm u).2 r)), fun h u hu r => h u hu ((hm u).1 (of_decide_eq_true r))⟩
theorem ok_right {f : Addr} {fd : FuncData} (F : Fun K "is_right" "Building.is_right" s_Building_is_right f fd) (B : Blt mg) (T : OwnC K mg CB "Building" bldF) (GC : Fn P w K mg base 3 "check_locks" ["building", "locks"] (spChk K CD CP CB CL)) (GS : Fn P w K mg base 3 "suits" ["person", "rooms"] (spSuits K CP))
    (MR : Mt P w K mg base 7 CB "reach" ["self", "name", "locks"] (spReach K CD CP CB CL)) : FnOk P w K mg base CX0 8 f fd ["self", "locks"] (spRight K CD CP CB CL) := by
  refine F.ok scRight (fun vs H Q E h => ?_) (fun cdv A outer s H vs Q E hr h => ?_)
  · obtain ⟨x, z, b, ls, rfl, _⟩ := h
    rfl
  · obtain ⟨x, z, b, ls, rfl, hb, hz, few, sub, q⟩ := h
    have hr3 := hr.mono (show 3 ≤ 7 by decide)
    obtain ⟨⟨dx, r, k, dn, dd, pn, pd, ok, od, op, kvs, ds, ps, I⟩, bok⟩ := id hb
    obtain ⟨_, _, _, _, l5, l6⟩ := look_bld r k dn dd pn pd
    refine ⟨_, pss_cons (ps_expr (pe_fn GC hr3 (by rfl) (pa_cons (pv 0) (pa_cons (pv 1) pa_nil))))
      (pss_one (ps_ret (pe_callB (cr_all rfl) (by rfl) B.all PyProof.Rows.boot_all (pa_cons (pe_lc (own := [("name", 2)]) (g := gName 2) (tt := tYes) (te := tCall (spSuits K CP) [] E0 (tCons (tDGet (tFld K (tVar 0) "kept_people") (tVar 2)) (tCons (tMeth CB "reach" (spReach K CD CP CB CL) [] E0 (tVar 0) (tCons (tVar 2) (tCons (tVar 1) tNil))) tNil))) rfl scRight.nd (pi_tup (pe_fld (pv 0) rfl)) (blkOk_by (N := ["self", "locks", "name"]) (sc := defScope s_Building_is_right) (by decide +kernel))
        (fun _ _ _ _ _ => pg_name (i := 2) scRight.nd rfl (Or.inl rfl)) (fun _ _ _ _ _ => pts_nil) (fun _ _ _ _ _ => pe_fn GS hr3 (by rfl) (pa_cons (pe_dget (hu_of hr) (pe_fld (pv 0) rfl) (pv 2) (fun _ _ => rfl)) (pa_cons (pe_mt MR hr T.cl (pv 0) (pa_cons (pv 2) (pa_cons (pv 1) pa_nil))) pa_nil)))) pa_nil)))), ?_⟩
    refine ⟨.ref x, rfl, .ref z, rfl, x, z, b, ls, rfl, hb, hz, few, sub, fun H1 s1 => ?_⟩
    -- one truth for each person
    have each : ∃ c : Str × PersonD → Bool, ∀ q ∈ b.people, (c q = true ↔ (∀ u ∈ q.2.needs, Rch b q.2 ls u) ∧ ∀ u ∈ q.2.shuns, ¬ Rch b q.2 ls u) := by
      classical
      exact ⟨fun q => decide ((∀ u ∈ q.2.needs, Rch b q.2 ls u) ∧ ∀ u ∈ q.2.shuns, ¬ Rch b q.2 ls u), fun q _ => decide_eq_true_iff⟩
    obtain ⟨c, hc⟩ := each
    refine ⟨.ref x, rfl, x, CB, dx, _, _, rfl, s1 _ _ I.ob, T.cl, T.nK _ (by simp), l5, pn, rfl, ⟨_, Same.tup s1 I.pn⟩, fun D nD => lc_m (walk_tup (xs := (b.people.map fun q : Str × PersonD => q.1).map V.str)) b.people (fun q => .bl (c q)) (by rw [List.length_map, List.length_map]) nD (by have := bok.p4; omega) (fun H' s' => Same.tup (s1.trans s') I.pn) (fun i u v H7 H8 Kt hu s7 hY kk => ?_) (fun H7 s7 eD => ?_)⟩
    · obtain ⟨rfl, hx⟩ := hY
      rw [List.getElem?_map, List.getElem?_map, hu] at hx
      cases hx
      have hm := List.mem_of_getElem? hu
      have hl := look_at bok.pnd hm
      obtain ⟨v, hv, ⟨y, rfl, hy⟩⟩ := I.peopleT.val hl
      have sH := s1.trans s7
      refine ⟨rfl, .ref x, rfl, x, CB, dx, _, _, rfl, sH _ _ I.ob, T.cl, T.nK _ (by simp), l6, .str u.1, rfl, pd, .ref y, rfl, .inl ⟨ps, .inr u.1, .inr ⟨op, sH _ _ I.people⟩, rfl, hv.symm⟩, .ref x, rfl, x, dx, _, rfl, sH _ _ I.ob, rfl, .str u.1, rfl, .ref z, rfl, x, z, b, u.1, u.2, ls, rfl, hb.same sH, hl, hz.same sH, few, sub, fun H9 m g s9 nm hg em => ?_⟩
      refine ⟨y, m, u.2, b.rooms.filter g, rfl, (hy.same sH).same s9, .inl (.inl em), fun H10 s10 => ?_⟩
      have e : suitsOf u.2 (b.rooms.filter g) = c u := Bool.eq_iff_iff.mpr ((suits_iff bok hm hg).trans (hc u hm).symm)
      rw [e]
      exact kk _ (s9.trans s10)
    · refine ⟨D, b.people.map c, rfl, .inl (.inl (by rw [List.map_map]; exact eD)), q _ _ (s1.trans s7) ?_⟩
      rw [List.all_map, List.all_eq_true]
      exact ⟨fun h u hu => (hc u hu).1 (h u hu), fun h u hu => (hc u hu).2 (h u hu)⟩
/-! ### Building.__eq__ -/
end
end Lk
set_option Elab.async false
set_option linter.all false
set_option maxRecDepth 100000
set_option maxHeartbeats 4000000
namespace Lk
open PySem PySem.Spec PyProof.Rows L2 TxS LkO LkG LamX LkS Ld
theorem LkgAt.extN {K : PySem.W.Frag} {CK CL x : Addr} {H H' : Hp} {ls : List Str} {trs : List (Str × List Str)} {ds : List (Addr × Dv)} (h : LkgAt K CK CL H x ls trs ds) (s : ExtN H H') : LkgAt K CK CL H' x ls trs ds := by
  obtain ⟨⟨dx, z, t, l, kvs, h1, h2, h3, h4, h5⟩, h6⟩ := h
  exact ⟨⟨dx, z, t, l, kvs, s _ _ h1 st_ins.2, h2.nx (NX.ofT s), s _ _ h3 st_dK.2, h4.mono (fun v a ⟨u, e, q⟩ => ⟨u, e, (NX.ofT s).tup q⟩), s _ _ h5 (fun _ z => by cases z)⟩, fun d hd => (h6 d hd).nx (NX.ofT s)⟩
theorem NoAt.extN {K : PySem.W.Frag} {CN x : Addr} {H H' : Hp} {ds : List (Addr × Dv)} (h : NoAt K CN H x ds) (s : ExtN H H') : NoAt K CN H' x ds := by
  obtain ⟨⟨dx, l, h1, h5⟩, h6⟩ := h
  exact ⟨⟨dx, l, s _ _ h1 st_ins.2, s _ _ h5 (fun _ z => by cases z)⟩, fun d hd => (h6 d hd).nx (NX.ofT s)⟩
section
variable {P : Program} {w : World} {K : PySem.W.Frag} {mg : Str → Option Value} {base : Heap} {CD CP CB CL CK CN : Addr}
/-! ### NoLocking.shows -/
def spNShows (K : PySem.W.Frag) (CD CP CB CN PT : Addr) : Sp := fun vs H Q _ => ∃ (y x : Addr) (b : BldD) (ds : List (Addr × Dv)), vs = [.ref y, .ref x] ∧ NoAt K CN H y ds ∧ BldAt K CD CP CB H x b ∧ Tabs (tabT PT) H ∧ ds.length ≤ 1000 ∧ (∀ d ∈ ds, OkV b d.2) ∧
  ∀ H' (c : Bool), ExtN H H' → Tabs (tabT PT) H' → (c = true ↔ (∀ d ∈ ds, dbtV b d.2 = true) ∧ ∀ l ∈ byPrice b, (ds.any fun d => strV l d.2) = true) → Q (.bl c) H'
abbrev nNShows : List Str := ["self", "building", "locks"]
theorem scNShows : FnScope nNShows ["self", "building"] (defScope s_NoLocking_shows) := ⟨rfl, rfl, rfl, by decide +kernel, rfl, by decide +kernel, by decide +kernel⟩
theorem ok_nShows {f PT : Addr} {fd : FuncData} (F : Fun K "shows" "NoLocking.shows" s_NoLocking_shows f fd) (B : Blt mg) (TN : OwnC K mg CN "NoLocking" noF) (GB : Fn P w K mg base 1 "check_building" ["building"] (spChkB CB)) (GS : Fn P w K mg base 7 "sets_by_price" ["building"] (spBySets K CD CP CB CL PT)) (GU : Fn P w K mg base 4 "is_struck" ["doubts", "locks"] (spStruck K CL))
    (GA : Fn P w K mg base 10 "are_doubts" ["building", "doubts"] (spAreD K CD CP CB)) : FnOk P w K mg base CX0 11 f fd ["self", "building"] (spNShows K CD CP CB CN PT) := by
  refine F.ok scNShows (fun vs H Q E h => ?_) (fun cdv A outer s H vs Q E hr h => ?_)
  · obtain ⟨y, x, b, ds, rfl, _⟩ := h
    rfl
  · obtain ⟨y, x, b, ds, rfl, hy, hb, hT, few, okv, q⟩ := h
    have hr1 := hr.mono (show 1 ≤ 10 by decide)
    have hr4 := hr.mono (show 4 ≤ 10 by decide)
    have hr7 := hr.mono (show 7 ≤ 10 by decide)
    refine ⟨_, (pss_cons (ps_expr (pe_fn GB hr1 (by rfl) (pa_cons (pv 1) pa_nil)))
      (pss_one (ps_ret (pe_and (pe_fn GA hr (by rfl) (pa_cons (pv 1) (pa_cons (pe_fld (pv 0) rfl) pa_nil))) (pe_one (pe_callB (cr_all rfl) (by rfl) B.all PyProof.Rows.boot_all (pa_cons (pe_lc (own := [("locks", 2)]) (g := (gName 2)) (tt := tYes) (te := (tCall (spStruck K CL) [] E0 (tCons (tFld K (tVar 0) "doubts") (tCons (tVar 2) tNil)))) rfl scNShows.nd  (pi_list (pe_fn GS hr7 (by rfl) (pa_cons (pv 1) pa_nil))) (blkOk_by (N := nNShows) (sc := defScope s_NoLocking_shows) (by decide +kernel)) (fun _ _ _ _ _ => (pg_name (i := 2) scNShows.nd rfl (Or.inl rfl))) (fun _ _ _ _ _ => pts_nil) (fun _ _ _ _ _ => (pe_fn GU hr4 (by rfl) (pa_cons (pe_fld (pv 0) rfl) (pa_cons (pv 2) pa_nil))))) pa_nil))))))), ?_⟩
    obtain ⟨⟨dx, r, k, dn, dd, pn, pd, ok, od, op, kvs, dvs, pvs, I⟩, bok⟩ := id hb
    obtain ⟨⟨dy, l, e1, e2⟩, hd⟩ := id hy
    have nK := TN.nK
    refine ⟨.ref x, rfl, x, dx, _, rfl, I.ob, ?_⟩
    refine ⟨.ref x, rfl, .ref y, rfl, y, CN, dy, _, _, rfl, e1, TN.cl, nK _ (by simp), rfl, x, l, b, ds, rfl, hb, .inl (.inl e2), few, fun d h => ⟨hd d h, okv d h⟩, fun H1 s1 => ?_⟩
    by_cases ha : (ds.all fun d => dbtV b d.2) = true
    · rw [ha]
      refine ⟨true, rfl, iteT ?_⟩
      refine ⟨.ref x, rfl, x, b, rfl, hb.same s1, hT.ext s1, fun H2 p zs eN T2 np ep ez ebp => ⟨p, rfl, ⟨_, .inl (.inl ep)⟩, fun D nD => ?_⟩⟩
      have eN2 : ExtN H H2 := (ExtN.of s1).trans eN
      obtain ⟨⟨dy2, l2, f1, f2⟩, hd2⟩ := id (hy.extN eN2)
      have zl : zs.length = (byPrice b).length := by rw [← ebp, List.length_map]
      have z256 : zs.length ≤ 256 := by rw [zl]; exact byPrice_256 bok
      refine lc_m (walk_list (xs := zs.map fun z : Addr × List Str => V.ref z.1)) zs (fun z => .bl (ds.any fun d => strV z.2 d.2)) (by rw [List.length_map]) nD (by omega) (fun H' s' => .inl (.inl (s' _ _ ep))) (fun i z v H3 H4 Kt hz s3 hY k => ?_) (fun H3 s3 eD => ?_)
      · obtain ⟨rfl, hx⟩ := hY
        rw [List.getElem?_map, hz] at hx
        cases hx
        refine ⟨rfl, .ref y, rfl, y, CN, dy2, _, _, rfl, s3 _ _ f1, TN.cl, nK _ (by simp), rfl, .ref z.1, rfl, l2, z.1, ds, z.2, rfl, .inl (.inl (s3 _ _ f2)), few, fun d h => ⟨(hd2 d h).same s3, ?_⟩, (ez z (List.mem_of_getElem? hz)).same s3, fun H5 s5 => k _ s5⟩
        obtain ⟨pp, h1, h2⟩ := okv d h
        omega
      · refine ⟨D, zs.map fun z => ds.any fun d => strV z.2 d.2, rfl, .inl (.inl (by rw [List.map_map]; exact eD)), ?_⟩
        refine q _ _ (eN2.trans (ExtN.of s3)) (T2.ext s3) ?_
        rw [List.all_map, List.all_eq_true, ← ebp]
        constructor
        · intro h
          refine ⟨fun d hd => List.all_eq_true.mp ha d hd, fun l hl => ?_⟩
          obtain ⟨z, hz, rfl⟩ := List.mem_map.mp hl
          exact h z hz
        · intro h z hz
          exact h.2 z.2 (List.mem_map.mpr ⟨z, hz, rfl⟩)
    · rw [Bool.eq_false_iff.mpr ha]
      refine ⟨false, rfl, iteF ?_⟩
      refine q _ _ (ExtN.of s1) (hT.ext s1) ⟨fun h => (by cases h), fun h => absurd (List.all_eq_true.mpr h.1) ha⟩
/-! ### Locking.shows -/
def Shown (b : BldD) (ls : List Str) (trs : List (Str × List Str)) (ds : List (Addr × Dv)) : Prop := RightS b ls ∧ (∀ d ∈ ds, dbtV b d.2 = true) ∧ (∀ q ∈ b.people, ∀ tr, trs.lookup q.1 = some tr → completeOf b q.2 ls tr = true) ∧ ∀ l ∈ byPrice b, priceOf b l < priceOf b ls → (ds.any fun d => strV l d.2) = true
def spKShows (K : PySem.W.Frag) (CD CP CB CL CK PT : Addr) : Sp := fun vs H Q _ => ∃ (y x : Addr) (b : BldD) (ls : List Str) (trs : List (Str × List Str)) (ds : List (Addr × Dv)), vs = [.ref y, .ref x] ∧ LkgAt K CK CL H y ls trs ds ∧ BldAt K CD CP CB H x b ∧ Tabs (tabT PT) H ∧ ls.length ≤ 1000 ∧ (∀ z ∈ ls, z ∈ b.doors.map (·.1)) ∧
  (∀ q ∈ b.people, ∃ tr, trs.lookup q.1 = some tr ∧ tr.length ≤ 1000 ∧ ∀ z ∈ tr, z ∈ b.doors.map (·.1)) ∧ ds.length ≤ 1000 ∧ (∀ d ∈ ds, OkV b d.2) ∧ ∀ H' (c : Bool), ExtN H H' → Tabs (tabT PT) H' → (c = true ↔ Shown b ls trs ds) → Q (.bl c) H'
abbrev nKShows : List Str := ["self", "building", "price", "cheaper", "locks", "name"]
theorem scKShows : FnScope nKShows ["self", "building"] (defScope s_Locking_shows) := ⟨rfl, rfl, rfl, by decide +kernel, rfl, by decide +kernel, by decide +kernel⟩
theorem ok_kShows {f PT : Addr} {fd : FuncData} (F : Fun K "shows" "Locking.shows" s_Locking_shows f fd) (B : Blt mg) (T : OwnC K mg CB "Building" bldF) (TK : OwnC K mg CK "Locking" lkgF) (PP : Pr P w K mg base 1 CB "people" (spBPeople K CD CP CB)) (GB : Fn P w K mg base 1 "check_building" ["building"] (spChkB CB))
    (GS : Fn P w K mg base 7 "sets_by_price" ["building"] (spBySets K CD CP CB CL PT)) (GU : Fn P w K mg base 4 "is_struck" ["doubts", "locks"] (spStruck K CL)) (GA : Fn P w K mg base 10 "are_doubts" ["building", "doubts"] (spAreD K CD CP CB)) (GC : Fn P w K mg base 8 "is_complete" ["building", "name", "locks", "trail"] (spIsComp K CD CP CB CL))
    (MR : Mt P w K mg base 8 CB "is_right" ["self", "locks"] (spRight K CD CP CB CL)) (MPr : Mt P w K mg base 4 CB "price" ["self", "locks"] (spPrice K CD CP CB CL)) : FnOk P w K mg base CX0 11 f fd ["self", "building"] (spKShows K CD CP CB CL CK PT) := by
  refine F.ok scKShows (fun vs H Q E h => ?_) (fun cdv A outer s H vs Q E hr h => ?_)
  · obtain ⟨y, x, b, ls, trs, ds, rfl, _⟩ := h
    rfl
  · obtain ⟨y, x, b, ls, trs, ds, rfl, hy, hb, hT, fewl, sub, oktr, few, okv, q⟩ := h
    have hr1 := hr.mono (show 1 ≤ 10 by decide)
    have hr2 := hr.mono (show 2 ≤ 10 by decide)
    have hr4 := hr.mono (show 4 ≤ 10 by decide)
    have hr7 := hr.mono (show 7 ≤ 10 by decide)
    have hr8 := hr.mono (show 8 ≤ 10 by decide)
    refine ⟨_, (pss_cons (ps_expr (pe_fn GB hr1 (by rfl) (pa_cons (pv 1) pa_nil)))
      (pss_cons (ps_if (PW.pt (pw_or (pt_not (pt_val (pe_mt MR hr8 T.cl (pv 1) (pa_cons (pe_fld (pv 0) rfl) pa_nil)))) (pw_or1 (pt_not (pt_val (pe_fn GA hr (by rfl) (pa_cons (pv 1) (pa_cons (pe_fld (pv 0) rfl) pa_nil)))))))) (pss_one (ps_ret pe_bl)) pss_nil)
      (pss_cons (ps_set (i := 2) scKShows.nd rfl (.inr rfl) (pe_mt MPr hr4 T.cl (pv 1) (pa_cons (pe_fld (pv 0) rfl) pa_nil)))
      (pss_cons (ps_setLc (i := 3) (own := [("locks", 4)]) (g := (gName 4)) (tt := (tTest (tOp (rI0 fun i j => .bl (decide (i < j))) (tMeth CB "price" (spPrice K CD CP CB CL) [] E0 (tVar 1) (tCons (tVar 4) tNil)) (tVar 2)))) (te := (tVar 4)) rfl scKShows.nd rfl rfl (sw_true rfl rfl rfl (by decide +kernel)) (pi_list (pe_fn GS hr7 (by rfl) (pa_cons (pv 1) pa_nil))) (blkOk_by (N := nKShows) (sc := defScope s_Locking_shows) (by decide +kernel)) (fun _ _ _ _ _ => (pg_name (i := 4) scKShows.nd rfl (Or.inl rfl))) (fun _ _ _ _ _ => (pts_one (pt_cmpR op_lt (pe_mt MPr hr4 T.cl (pv 1) (pa_cons (pv 4) pa_nil)) (pv 2) (nomark _)))) (fun _ _ _ _ _ => (pv 4)))
      (pss_one (ps_ret (pe_and (pe_callB (cr_all rfl) (by rfl) B.all PyProof.Rows.boot_all (pa_cons (pe_lc (own := [("name", 5)]) (g := (gName 5)) (tt := tYes) (te := (tCall (spIsComp K CD CP CB CL) [] E0 (tCons (tVar 1) (tCons (tVar 5) (tCons (tFld K (tVar 0) "locks") (tCons (tDGet (tFld K (tVar 0) "trails") (tVar 5)) tNil)))))) rfl scKShows.nd  (pi_list (pe_pr PP hr2 T.cl (pv 1) rfl)) (blkOk_by (N := nKShows) (sc := defScope s_Locking_shows) (by decide +kernel)) (fun _ _ _ _ _ => (pg_name (i := 5) scKShows.nd rfl (Or.inl rfl))) (fun _ _ _ _ _ => pts_nil) (fun _ _ _ _ _ => (pe_fn GC hr8 (by rfl) (pa_cons (pv 1) (pa_cons (pv 5) (pa_cons (pe_fld (pv 0) rfl) (pa_cons (pe_dget (hu_of hr) (pe_fld (pv 0) rfl) (pv 5) (fun _ _ => rfl)) pa_nil))))))) pa_nil)) (pe_one (pe_callB (cr_all rfl) (by rfl) B.all PyProof.Rows.boot_all (pa_cons (pe_lc (own := [("locks", 4)]) (g := (gName 4)) (tt := tYes) (te := (tCall (spStruck K CL) [] E0 (tCons (tFld K (tVar 0) "doubts") (tCons (tVar 4) tNil)))) rfl scKShows.nd  (pi_list (pv 3)) (blkOk_by (N := nKShows) (sc := defScope s_Locking_shows) (by decide +kernel)) (fun _ _ _ _ _ => (pg_name (i := 4) scKShows.nd rfl (Or.inl rfl))) (fun _ _ _ _ _ => pts_nil) (fun _ _ _ _ _ => (pe_fn GU hr4 (by rfl) (pa_cons (pe_fld (pv 0) rfl) (pa_cons (pv 4) pa_nil))))) pa_nil)))))))))), ?_⟩
    obtain ⟨⟨dx, r, k, dn, dd, pn, pd, ok, od, op, kvs, dvs, pvs, I⟩, bok⟩ := id hb
    obtain ⟨⟨dy, z, t, l, tkv, e1, e2, e3, e4, e5⟩, hd⟩ := id hy
    have nK := TK.nK
    have lk1 : List.lookup ("locks" : Str) (lkgFs z t l) = some (V.ref z) := rfl
    have lk2 : List.lookup ("trails" : Str) (lkgFs z t l) = some (V.ref t) := rfl
    have lk3 : List.lookup ("doubts" : Str) (lkgFs z t l) = some (V.ref l) := rfl
    refine ⟨.ref x, rfl, x, dx, _, rfl, I.ob, ?_⟩
    refine ⟨.ref x, rfl, x, dx, _, rfl, I.ob, rfl, .ref y, rfl, y, CK, dy, _, _, rfl, e1, TK.cl, nK _ (by simp), lk1, x, z, b, ls, rfl, hb, e2, fewl, sub, fun H1 c1 s1 hc1 => ⟨c1, rfl, ?_⟩⟩
    have hC : c1 = true ↔ RightS b ls := hc1
    cases c1 with
    | false =>
      refine iteT ?_
      exact q _ _ (ExtN.of s1) (hT.ext s1) ⟨fun h => (by cases h), fun h => hC.2 h.1⟩
    | true =>
      have hR := hC.1 rfl
      refine iteF ?_
      refine ⟨.ref x, rfl, .ref y, rfl, y, CK, dy, _, _, rfl, s1 _ _ e1, TK.cl, nK _ (by simp), lk3, x, l, b, ds, rfl, hb.same s1, .inl (.inl (s1 _ _ e5)), few, fun d h => ⟨(hd d h).same s1, okv d h⟩, fun H2 s2 => ⟨_, rfl, ?_⟩⟩
      have s12 := s1.trans s2
      by_cases ha : (ds.all fun d => dbtV b d.2) = true
      · rw [ha]
        refine iteF ?_
        refine ⟨.ref x, rfl, x, dx, _, rfl, s12 _ _ I.ob, rfl, .ref y, rfl, y, CK, dy, _, _, rfl, s12 _ _ e1, TK.cl, nK _ (by simp), lk1, x, z, b, ls, rfl, hb.same s12, e2.same s12, fewl, sub, fun H3 s3 => ?_⟩
        have s13 := s12.trans s3
        refine ⟨.ref x, rfl, x, b, rfl, hb.same s13, hT.ext s13, fun H4 p zs eN T4 np ep ez ebp => ⟨p, rfl, ⟨_, .inl (.inl ep)⟩, fun D nD => ?_⟩⟩
        have eN4 : ExtN H H4 := (ExtN.of s13).trans eN
        have hb4 := hb.nx (NX.ofT eN4)
        obtain ⟨⟨dx4, r4, k4, dn4, dd4, pn4, pd4, ok4, od4, op4, kvs4, dvs4, pvs4, I4⟩, _⟩ := id hb4
        obtain ⟨⟨dy4, z4, t4, l4, tkv4, f1, f2, f3, f4, f5⟩, hd4⟩ := id (hy.extN eN4)
        have mk1 : List.lookup ("locks" : Str) (lkgFs z4 t4 l4) = some (V.ref z4) := rfl
        have mk2 : List.lookup ("trails" : Str) (lkgFs z4 t4 l4) = some (V.ref t4) := rfl
        have mk3 : List.lookup ("doubts" : Str) (lkgFs z4 t4 l4) = some (V.ref l4) := rfl
        have zl : zs.length = (byPrice b).length := by rw [← ebp, List.length_map]
        have z256 : zs.length ≤ 256 := by rw [zl]; exact byPrice_256 bok
        have okz : ∀ z ∈ zs, z.2.length ≤ 8 ∧ ∀ y ∈ z.2, y ∈ b.doors.map (·.1) := fun z hz => byPrice_ok bok (by rw [← ebp]; exact List.mem_map.mpr ⟨z, hz, rfl⟩)
        refine lc_mf (walk_list (xs := zs.map fun z : Addr × List Str => V.ref z.1)) zs (fun z => decide (priceOf b z.2 < priceOf b ls)) (fun z => V.ref z.1) (by rw [List.length_map]) nD (by omega) (fun H' s' => .inl (.inl (s' _ _ ep))) (fun i u v H5 H6 Kt Kf hu s5 hY kt kf => ?_) (fun H5 s5 eD => ?_)
        · obtain ⟨rfl, hx⟩ := hY
          rw [List.getElem?_map, hu] at hx
          cases hx
          have hum := List.mem_of_getElem? hu
          refine ⟨rfl, .ref x, rfl, x, dx4, _, rfl, s5 _ _ I4.ob, rfl, .ref u.1, rfl, x, u.1, b, u.2, rfl, hb4.same s5, (ez u hum).same s5, by have := (okz u hum).1; omega, (okz u hum).2, fun H7 s7 => ?_⟩
          refine ⟨.int (priceOf b ls), rfl, _, _, rfl, rfl, _, rfl, ?_⟩
          exact ite2 (fun e => ⟨.ref u.1, rfl, kt e _ s7⟩) (fun e => kf (Bool.eq_false_iff.mpr e) _ s7)
        · have eN5 := eN4.trans (ExtN.of s5)
          refine ⟨.ref x, rfl, x, dx4, _, rfl, s5 _ _ I4.ob, x, b, rfl, hb4.same s5, fun pl npl => ⟨pl, rfl, ⟨_, .inl (.inl upd_same)⟩, fun D2 nD2 => ?_⟩⟩
          have s6 := same_new (o := .lst ((b.people.map (·.1)).map V.str)) npl
          have s56 := s5.trans s6
          have lkp : ∀ q ∈ b.people, b.people.lookup q.1 = some q.2 := fun q hq => look_at bok.pnd hq
          refine lc_m (walk_list (xs := (b.people.map fun q : Str × PersonD => q.1).map V.str)) b.people (fun q => .bl (completeOf b q.2 ls ((trs.lookup q.1).getD []))) (by rw [List.length_map, List.length_map]) nD2 (by have := bok.p4; omega) (fun H' s' => .inl (.inl (s' _ _ upd_same))) (fun i u v H7 H8 Kt hu s7 hY kt => ?_) (fun H7 s7 eD2 => ?_)
          · obtain ⟨rfl, hx⟩ := hY
            rw [List.getElem?_map, List.getElem?_map, hu] at hx
            cases hx
            have hum := List.mem_of_getElem? hu
            obtain ⟨tr, htr, l1000, subt⟩ := oktr u hum
            obtain ⟨tv, hv1, tq, rfl, htq⟩ := f4.val htr
            have s57 := s56.trans s7
            have kk : ∀ H5, Same H8 H5 → Kt (.bl (completeOf b u.2 ls tr)) H5 := fun H5 s => by
              have := kt H5 s
              rw [htr] at this
              exact this
            refine ⟨rfl, .ref x, rfl, .str u.1, rfl, .ref y, rfl, y, CK, dy4, _, _, rfl, s57 _ _ f1, TK.cl, nK _ (by simp), mk1, .ref y, rfl, y, CK, dy4, _, _, rfl, s57 _ _ f1, TK.cl, nK _ (by simp), mk2, .str u.1, rfl, t4, .ref tq, rfl, .inl ⟨tkv4, .inr u.1, .inl (s57 _ _ f3), rfl, hv1.symm⟩, ?_⟩
            exact ⟨x, z4, tq, b, u.1, u.2, ls, tr, rfl, hb4.same s57, lkp u hum, f2.same s57, fewl, sub, Same.tup s57 htq, l1000, subt, fun H9 s9 => kk _ s9⟩
          · refine ⟨D2, b.people.map fun q => completeOf b q.2 ls ((trs.lookup q.1).getD []), rfl, .inl (.inl (by rw [List.map_map]; exact eD2)), ?_⟩
            have s57 := s56.trans s7
            have hcomp : ((b.people.map fun q : Str × PersonD => completeOf b q.2 ls ((trs.lookup q.1).getD [])).all id) = true ↔ ∀ q ∈ b.people, ∀ tr, trs.lookup q.1 = some tr → completeOf b q.2 ls tr = true := by
              rw [List.all_map, List.all_eq_true]
              constructor
              · intro h q hq tr htr
                have := h q hq
                simp only [Function.comp, htr, Option.getD_some, id] at this
                exact this
              · intro h q hq
                obtain ⟨tr, htr, _⟩ := oktr q hq
                simp only [Function.comp, htr, Option.getD_some, id]
                exact h q hq tr htr
            by_cases hall : ((b.people.map fun q : Str × PersonD => completeOf b q.2 ls ((trs.lookup q.1).getD [])).all id) = true
            · rw [hall]
              refine ⟨true, rfl, iteT ?_⟩
              have eD7 := s7 _ _ (s6 _ _ eD)
              refine ⟨.ref D, rfl, D, rfl, ⟨_, .inl (.inl eD7)⟩, fun D3 nD3 => ?_⟩
              refine lc_m (walk_list (xs := (zs.filter fun z => decide (priceOf b z.2 < priceOf b ls)).map fun z : Addr × List Str => V.ref z.1)) (zs.filter fun z => decide (priceOf b z.2 < priceOf b ls)) (fun z => .bl (ds.any fun d => strV z.2 d.2)) (by rw [List.length_map]) nD3 (Nat.le_trans (List.length_filter_le _ _) (by omega)) (fun H' s' => .inl (.inl (s' _ _ eD7))) (fun i u v H8 H9 Kt hu s8 hY kt => ?_) (fun H8 s8 eD3 => ?_)
              · obtain ⟨rfl, hx⟩ := hY
                rw [List.getElem?_map, hu] at hx
                cases hx
                have hum := (List.mem_filter.mp (List.mem_of_getElem? hu)).1
                have s58 := s57.trans s8
                refine ⟨rfl, .ref y, rfl, y, CK, dy4, _, _, rfl, s58 _ _ f1, TK.cl, nK _ (by simp), mk3, .ref u.1, rfl, l4, u.1, ds, u.2, rfl, .inl (.inl (s58 _ _ f5)), few, fun d h => ⟨(hd4 d h).same s58, ?_⟩, (ez u hum).same s58, fun H10 s10 => kt _ s10⟩
                obtain ⟨pp, h1, h2⟩ := okv d h
                omega
              · refine ⟨D3, (zs.filter fun z => decide (priceOf b z.2 < priceOf b ls)).map fun z => ds.any fun d => strV z.2 d.2, rfl, .inl (.inl (by rw [List.map_map]; exact eD3)), ?_⟩
                refine q _ _ (eN4.trans (ExtN.of (s57.trans s8))) ((T4.ext s57).ext s8) ?_
                rw [List.all_map, List.all_eq_true]
                constructor
                · intro h
                  refine ⟨hR, fun d hd => List.all_eq_true.mp ha d hd, hcomp.1 hall, fun l hl hp => ?_⟩
                  rw [← ebp] at hl
                  obtain ⟨zz, hz, rfl⟩ := List.mem_map.mp hl
                  exact h zz (List.mem_filter.mpr ⟨hz, decide_eq_true hp⟩)
                · intro h zz hz
                  obtain ⟨h1, h2⟩ := List.mem_filter.mp hz
                  exact h.2.2.2 zz.2 (by rw [← ebp]; exact List.mem_map.mpr ⟨zz, h1, rfl⟩) (of_decide_eq_true h2)
            · rw [Bool.eq_false_iff.mpr hall]
              refine ⟨false, rfl, iteF ?_⟩
              refine q _ _ (eN4.trans (ExtN.of s57)) (T4.ext s57) ⟨fun h => (by cases h), fun h => absurd (hcomp.2 h.2.2.1) hall⟩
      · rw [Bool.eq_false_iff.mpr ha]
        refine iteT ?_
        exact q _ _ (ExtN.of s12) (hT.ext s12) ⟨fun h => (by cases h), fun h => absurd (List.all_eq_true.mpr h.2.1) ha⟩
end
end Lk
set_option Elab.async false
set_option linter.all false
set_option maxRecDepth 100000
set_option maxHeartbeats 4000000
/-! All sets of doors by their prices, then by their indices. -/
namespace Ld
open PySem PySem.Spec PyProof.Rows L2 TxS LkO Lk LkG LkS
theorem two_not {α : Type} {a b : α} : ∀ {l : List α}, l.Nodup → [a, b].Sublist l → [b, a].Sublist l → False
  | [], _, h1, _ => by cases h1
  | c :: l, nd, h1, h2 => by
    have nd2 := List.nodup_cons.mp nd
    rcases List.sublist_cons_iff.mp h1 with k1 | ⟨r, e1, k1⟩
    · rcases List.sublist_cons_iff.mp h2 with k2 | ⟨r, e2, k2⟩
      · exact two_not nd2.2 k1 k2
      · injection e2 with e2 e3
        subst e2
        exact nd2.1 (k1.subset (a := b) (by simp))
    · injection e1 with e1 e3
      subst e1
      subst e3
      rcases List.sublist_cons_iff.mp h2 with k2 | ⟨r, e2, k2⟩
      · exact nd2.1 (k2.subset (a := a) (by simp))
      · injection e2 with e2 e3
        subst e2
        exact nd2.1 (k1.subset (a := b) (by simp))
theorem two_sub {α : Type} {a b : α} (ne : a ≠ b) : ∀ {l : List α}, a ∈ l → b ∈ l → [a, b].Sublist l ∨ [b, a].Sublist l
  | [], h, _ => by cases h
  | c :: l, ha, hb => by
    rcases List.mem_cons.mp ha with ea | ka
    · rcases List.mem_cons.mp hb with eb | kb
      · exact absurd (ea.trans eb.symm) ne
      · rw [← ea]
        exact .inl ((List.singleton_sublist.mpr kb).cons_cons _)
    · rcases List.mem_cons.mp hb with eb | kb
      · rw [← eb]
        exact .inr ((List.singleton_sublist.mpr ka).cons_cons _)
      · exact (two_sub ne ka kb).imp (fun h => h.cons _) fun h => h.cons _
theorem perm_sum {l m : List Int} (h : l.Perm m) : l.sum = m.sum := by
  induction h with
  | nil => rfl
  | cons x _ ih => rw [List.sum_cons, List.sum_cons, ih]
  | swap x y l =>
    simp only [List.sum_cons]
    omega
  | trans _ _ h1 h2 => exact h1.trans h2
theorem leBy_trans {α : Type} (key : α → Int) (a b c : α) (h1 : leBy key a b = true) (h2 : leBy key b c = true) : leBy key a c = true := by
  unfold leBy at *
  have := of_decide_eq_true h1
  have := of_decide_eq_true h2
  exact decide_eq_true (by omega)
theorem leBy_total {α : Type} (key : α → Int) (a b : α) : (leBy key a b || leBy key b a) = true := by
  unfold leBy
  by_cases h : key a ≤ key b
  · simp [h]
  · have : key b ≤ key a := by omega
    simp [this]
/-- a stable sort of what was in an order -/
theorem two_sort {α : Type} {l : List α} {R : α → α → Prop} {key : α → Int} (nd : l.Nodup) (hR : l.Pairwise R) : (l.mergeSort (leBy key)).Pairwise fun a b => key a < key b ∨ (key a = key b ∧ R a b) := by
  have pw := List.pairwise_mergeSort (leBy_trans key) (leBy_total key) l
  have nd2 : (l.mergeSort (leBy key)).Nodup := (List.mergeSort_perm l _).nodup_iff.mpr nd
  refine List.pairwise_iff_forall_sublist.mpr fun {a b} h => ?_
  have h1 : key a ≤ key b := of_decide_eq_true (List.pairwise_iff_forall_sublist.mp pw h)
  by_cases e : key a < key b
  · exact .inl e
  · have ek : key a = key b := by omega
    refine .inr ⟨ek, ?_⟩
    have ma : a ∈ l := (List.mergeSort_perm l _).mem_iff.mp (h.subset (by simp))
    have mb : b ∈ l := (List.mergeSort_perm l _).mem_iff.mp (h.subset (by simp))
    have ne : a ≠ b := by
      have := h.nodup nd2
      simp at this
      exact this
    rcases two_sub ne ma mb with q | q
    · exact List.pairwise_iff_forall_sublist.mp hR q
    · refine (two_not nd2 h (List.pair_sublist_mergeSort (leBy_trans key) (leBy_total key) ?_ q)).elim
      unfold leBy
      exact decide_eq_true (by omega)
theorem leI_trans (a b c : List Int) (h1 : leI a b = true) (h2 : leI b c = true) : leI a c = true := decide_eq_true (List.le_trans (of_decide_eq_true h1) (of_decide_eq_true h2))
theorem leI_total (a b : List Int) : (leI a b || leI b a) = true := by
  unfold leI
  rcases List.le_total a b with h | h
  · simp [h]
  · simp [h]
theorem choices_nodup : ∀ n, (choicesN n).Nodup
  | 0 => by simp [choicesN]
  | n + 1 => by
    unfold choicesN
    refine List.nodup_append.mpr ⟨choices_nodup n, ?_, fun a ha b hb e => ?_⟩
    · exact List.Pairwise.map _ (fun a b (h : a ≠ b) e => h (List.append_cancel_right e)) (choices_nodup n)
    · obtain ⟨c, _, rfl⟩ := List.mem_map.mp hb
      subst e
      obtain ⟨j, e, l⟩ := choices_in n _ ha (n : Int) (by simp)
      omega
theorem pick_sub {ns : List Str} : ∀ n, n ≤ ns.length → ∀ c ∈ choicesN n, (pickN ns c).Sublist (ns.take n)
  | 0, _, c, hc => by
    simp only [choicesN, List.mem_singleton] at hc
    subst hc
    exact List.nil_sublist _
  | n + 1, hn, c, hc => by
    have hlt : n < ns.length := hn
    have et : ns.take (n + 1) = ns.take n ++ [ns[n]] := by
      rw [List.take_add_one, List.getElem?_eq_getElem hlt]
      rfl
    simp only [choicesN, List.mem_append, List.mem_map] at hc
    rw [et]
    rcases hc with hc | ⟨d, hd, rfl⟩
    · exact (pick_sub n (Nat.le_of_lt hlt) c hc).trans (List.sublist_append_left _ _)
    · have e : pickN ns (d ++ [(n : Int)]) = pickN ns d ++ [ns[n]] := by
        unfold pickN
        rw [List.map_append, List.map_singleton, Int.toNat_natCast, List.getElem?_eq_getElem hlt]
        rfl
      rw [e]
      exact (pick_sub n (Nat.le_of_lt hlt) d hd).append (List.Sublist.refl _)
theorem pick_in {ns : List Str} {c : List Int} (hc : c ∈ choicesN ns.length) : (pickN ns c).Sublist ns := by
  have := pick_sub ns.length (Nat.le_refl _) c hc
  rw [List.take_length] at this
  exact this
/-- the price of the doors at some indices -/
def prC (b : BldD) (c : List Int) : Int := priceOf b (srt (pickN (b.doors.map (·.1)) c))
def choiceP (b : BldD) : List (List Int) := ((choicesN b.doors.length).mergeSort leI).mergeSort (leBy (prC b))
theorem byPrice_choice (b : BldD) : byPrice b = (choiceP b).map fun c => srt (pickN (b.doors.map (·.1)) c) := by
  unfold byPrice byIx choiceP
  exact (List.map_mergeSort (r := leBy (prC b)) (s := leBy (priceOf b)) (f := fun c => srt (pickN (b.doors.map (·.1)) c)) fun a _ c _ => rfl).symm
theorem choiceP_perm (b : BldD) : (choiceP b).Perm (choicesN b.doors.length) := (List.mergeSort_perm _ _).trans (List.mergeSort_perm _ _)
theorem choiceP_order (b : BldD) : (choiceP b).Pairwise fun c d => prC b c < prC b d ∨ (prC b c = prC b d ∧ c ≤ d) := by
  refine two_sort (R := fun c d => c ≤ d) ((List.mergeSort_perm _ _).nodup_iff.mpr (choices_nodup _)) ?_
  exact (List.pairwise_mergeSort leI_trans leI_total _).imp fun h => of_decide_eq_true h
theorem mem_byPrice {b : BldD} {ls : List Str} : ls ∈ byPrice b ↔ ∃ c ∈ choicesN b.doors.length, ls = srt (pickN (b.doors.map (·.1)) c) := by
  rw [byPrice_choice, List.mem_map]
  constructor
  · rintro ⟨c, hc, rfl⟩
    exact ⟨c, (choiceP_perm b).mem_iff.mp hc, rfl⟩
  · rintro ⟨c, hc, rfl⟩
    exact ⟨c, (choiceP_perm b).mem_iff.mpr hc, rfl⟩
/-- the first good set by price is the least one -/
theorem first_least {b : BldD} {good : List Str → Prop} {i : Nat} {ls : List Str} (hi : (byPrice b)[i]? = some ls) (hg : good ls) (no : ∀ l ∈ (byPrice b).take i, ¬ good l) {c : List Int} (hc : c ∈ choicesN b.doors.length) (gc : good (srt (pickN (b.doors.map (·.1)) c)))
    (least : ∀ d ∈ choicesN b.doors.length, good (srt (pickN (b.doors.map (·.1)) d)) → prC b c < prC b d ∨ (prC b c = prC b d ∧ c ≤ d)) : ls = srt (pickN (b.doors.map (·.1)) c) := by
  rw [byPrice_choice] at hi no
  rw [List.getElem?_map] at hi
  cases hci : (choiceP b)[i]? with
  | none =>
    rw [hci] at hi
    cases hi
  | some ci =>
    rw [hci] at hi
    have hi : srt (pickN (b.doors.map (·.1)) ci) = ls := Option.some.inj hi
    obtain ⟨j, hj⟩ := List.mem_iff_getElem?.mp ((choiceP_perm b).mem_iff.mpr hc)
    obtain ⟨hil, ei⟩ := List.getElem?_eq_some_iff.mp hci
    obtain ⟨hjl, ej⟩ := List.getElem?_eq_some_iff.mp hj
    rcases Nat.lt_trichotomy j i with h | h | h
    · refine (no _ ?_ gc).elim
      rw [← List.map_take]
      exact List.mem_map.mpr ⟨c, List.mem_take_iff_getElem.mpr ⟨j, by omega, ej⟩, rfl⟩
    · subst h
      rw [hj] at hci
      cases hci
      exact hi.symm
    · have h1 := List.pairwise_iff_getElem.mp (choiceP_order b) i j hil hjl h
      rw [ei, ej] at h1
      have h2 := least ci ((choiceP_perm b).mem_iff.mp (by rw [← ei]; exact List.getElem_mem hil)) (by rw [hi]; exact hg)
      have e : ci = c := by
        rcases h1 with h1 | ⟨h1, h3⟩
        · rcases h2 with h2 | ⟨h2, _⟩
          · omega
          · omega
        · rcases h2 with h2 | ⟨_, h4⟩
          · omega
          · exact List.le_antisymm h3 h4
      rw [← hi, e]
theorem srt_perm {l : List Str} (nd : l.Nodup) : (srt l).Perm l := (List.perm_ext_iff_of_nodup (nodup_asc (asc_srt l)) nd).mpr fun z => mem_srt l z
theorem price_srt (b : BldD) {l : List Str} (nd : l.Nodup) : priceOf b (srt l) = priceOf b l := by
  unfold priceOf
  exact perm_sum ((srt_perm nd).map _)
theorem strike_same {th : Bool} {tr ls ms : List Str} (h : ∀ z, z ∈ ls ↔ z ∈ ms) : strikeOf th tr ls = strikeOf th tr ms := by
  unfold strikeOf
  rw [show (fun z => decide (z ∈ ls)) = fun z => decide (z ∈ ms) from funext fun z => decide_eq_decide.mpr (h z)]
theorem strV_same {d : Dv} {ls ms : List Str} (h : ∀ z, z ∈ ls ↔ z ∈ ms) : strV ls d = strV ms d := strike_same h
theorem anyV_same {ds : List (Addr × Dv)} {ls ms : List Str} (h : ∀ z, z ∈ ls ↔ z ∈ ms) : (ds.any fun d => strV ls d.2) = ds.any fun d => strV ms d.2 := by
  rw [show (fun d : Addr × Dv => strV ls d.2) = fun d => strV ms d.2 from funext fun d => strV_same h]
end Ld
set_option Elab.async false
set_option linter.all false
set_option maxRecDepth 100000
set_option maxHeartbeats 4000000
namespace Lk
open PySem PySem.Spec PyProof.Rows L2 TxS LkO LkG
section
variable {P : Program} {w : World} {K : PySem.W.Frag} {mg : Str → Option Value} {base : Heap} {CD CP CB CL : Addr}
/-! ### rules_out -/
def spRules (K : PySem.W.Frag) (CD CP CB CL : Addr) : Sp := fun vs H Q _ => ∃ (x d c : Addr) (b : BldD) (th : Bool) (n : Str) (p : PersonD) (tr ls : List Str), vs = [.ref x, .ref d, .ref c] ∧ BldAt K CD CP CB H x b ∧ DbtAt K H d th n tr ∧ OkDbt b n p tr ∧ tr.length ≤ 60 ∧ LkAt CL H c ls ∧ ls.length ≤ 1000 ∧ (∀ z ∈ ls, z ∈ b.doors.map (·.1)) ∧
  ∀ H', Same H H' → Q (.bl (dbtOf b p th tr && strikeOf th tr ls)) H'
abbrev nRules : List Str := ["building", "doubt", "locks"]
theorem scRules : FnScope nRules ["building", "doubt", "locks"] (defScope s_rules_out) := ⟨rfl, rfl, rfl, by decide +kernel, rfl, by decide +kernel, by decide +kernel⟩
theorem ok_rules {f : Addr} {fd : FuncData} (F : Fun K "rules_out" "rules_out" s_rules_out f fd) (T : OwnC K mg CB "Building" bldF) (GB : Fn P w K mg base 1 "check_building" ["building"] (spChkB CB)) (GD : Fn P w K mg base 5 "check_doubt" ["building", "doubt"] (spChkD K CD CP CB))
    (GC : Fn P w K mg base 3 "check_locks" ["building", "locks"] (spChk K CD CP CB CL)) (GI : Fn P w K mg base 9 "is_doubt" ["building", "doubt"] (spIsDbt K CD CP CB)) (GS : Fn P w K mg base 3 "strikes" ["doubt", "locks"] (spStrikes K CL)) :
    FnOk P w K mg base CX0 10 f fd ["building", "doubt", "locks"] (spRules K CD CP CB CL) := by
  refine F.ok scRules (fun vs H Q E h => ?_) (fun cdv A outer s H vs Q E hr h => ?_)
  · obtain ⟨x, d, c, b, th, n, p, tr, ls, rfl, _⟩ := h
    rfl
  · obtain ⟨x, d, c, b, th, n, p, tr, ls, rfl, hb, hd, ho, l60, hc, few, sub, q⟩ := h
    have hr1 := hr.mono (show 1 ≤ 9 by decide)
    have hr3 := hr.mono (show 3 ≤ 9 by decide)
    have hr5 := hr.mono (show 5 ≤ 9 by decide)
    refine ⟨_, (pss_cons (ps_expr (pe_fn GB hr1 (by rfl) (pa_cons (pv 0) pa_nil)))
      (pss_cons (ps_expr (pe_fn GD hr5 (by rfl) (pa_cons (pv 0) (pa_cons (pv 1) pa_nil))))
      (pss_cons (ps_expr (pe_fn GC hr3 (by rfl) (pa_cons (pv 0) (pa_cons (pv 2) pa_nil))))
      (pss_one (ps_ret (pe_and (pe_fn GI hr (by rfl) (pa_cons (pv 0) (pa_cons (pv 1) pa_nil))) (pe_one (pe_fn GS hr3 (by rfl) (pa_cons (pv 1) (pa_cons (pv 2) pa_nil)))))))))), ?_⟩
    obtain ⟨⟨dx, r, k, dn, dd, pn, pd, ok, od, op, kvs, ds, ps, I⟩, bok⟩ := id hb
    refine ⟨.ref x, rfl, x, dx, _, rfl, I.ob, ?_⟩
    refine ⟨.ref x, rfl, .ref d, rfl, x, d, b, th, n, p, tr, rfl, hb, hd, ho, fun H1 s1 => ?_⟩
    refine ⟨.ref x, rfl, .ref c, rfl, x, c, b, ls, rfl, hb.same s1, hc.same s1, few, sub, fun H2 s2 => ?_⟩
    have s12 := s1.trans s2
    refine ⟨.ref x, rfl, .ref d, rfl, x, d, b, th, n, p, tr, rfl, hb.same s12, hd.same s12, ho, l60, fun H3 s3 => ⟨_, rfl, ite2 (fun e => ?_) (fun e => ?_)⟩⟩
    · have s13 := s12.trans s3
      refine ⟨.ref d, rfl, .ref c, rfl, d, c, th, n, tr, ls, rfl, hd.same s13, ho.2.1, hc.same s13, fun H4 s4 => ?_⟩
      have q2 := q _ (s13.trans s4)
      rw [e, Bool.true_and] at q2
      exact q2
    · have q2 := q _ (s12.trans s3)
      rw [Bool.eq_false_iff.mpr e, Bool.false_and] at q2
      exact q2
end
end Lk
set_option Elab.async false
set_option linter.all false
set_option maxRecDepth 100000
set_option maxHeartbeats 4000000
/-! Expressions that give things which stay: data, sets of doors, buildings. -/
namespace Gv
open PySem PySem.Spec PyProof.Rows L2 TxS LkO Lk LkG LamX LkS Ld
/-- all but the tables stay, and the tables tell what they told -/
def Gw (T : List (Addr × Str)) (H H' : Hp) : Prop := ExtN H H' ∧ (Tabs T H → Tabs T H')
section
variable {T : List (Addr × Str)} {H H' H1 H2 : Hp} {K : PySem.W.Frag}
theorem Gw.refl : Gw T H H := ⟨ExtN.refl H, id⟩
theorem Gw.trans (a : Gw T H H1) (b : Gw T H1 H2) : Gw T H H2 := ⟨a.1.trans b.1, fun t => b.2 (a.2 t)⟩
theorem Gw.of (s : Same H H') : Gw T H H' := ⟨ExtN.of s, fun t => t.ext s⟩
mutual
theorem dp_ext (e : ExtN H H') : ∀ {v : V} {d : PyData}, Dp K H v d → Dp K H' v d
  | _, _, .non => .non
  | _, _, .bl b => .bl b
  | _, _, .int i => .int i
  | _, _, .str z => .str z
  | _, _, .lst h r => .lst (ExtN.seq e h) (dpAll_ext e r)
  | _, _, .tup h r => .tup ((NX.ofT e).tup h) (dpAll_ext e r)
theorem dpAll_ext (e : ExtN H H') : ∀ {vs : List V} {ds : List PyData}, DpAll K H vs ds → DpAll K H' vs ds
  | _, _, .nil => .nil
  | _, _, .cons h r => .cons (dp_ext e h) (dpAll_ext e r)
end
theorem dpAll_len : ∀ {vs : List V} {ds : List PyData}, DpAll K H vs ds → vs.length = ds.length
  | _, _, .nil => rfl
  | _, _, .cons _ r => congrArg Nat.succ (dpAll_len r)
theorem dpAll_app : ∀ {vs us : List V} {ds es : List PyData}, DpAll K H vs ds → DpAll K H us es → DpAll K H (vs ++ us) (ds ++ es)
  | _, _, _, _, .nil, r => r
  | _, _, _, _, .cons h t, r => .cons h (dpAll_app t r)
theorem dpAll_at : ∀ {vs : List V} {ds : List PyData} {i : Nat} {v : V}, DpAll K H vs ds → vs[i]? = some v → ∃ d, ds[i]? = some d ∧ Dp K H v d
  | _, _, 0, _, .cons h _, e => by
    cases e
    exact ⟨_, rfl, h⟩
  | _, _, i + 1, _, .cons _ r, e => dpAll_at (i := i) r e
theorem dp_strs_inv : ∀ {vs : List V} {zs : List Str}, DpAll K H vs (zs.map PyData.str) → vs = zs.map V.str
  | _, [], h => by cases h; rfl
  | _, z :: zs, h => by
    cases h with
    | cons h r =>
      cases h
      rw [dp_strs_inv r]
      rfl
/-- a thing that stays -/
structure MP where
  p : Hp → V → Prop
  mono : ∀ {H H' : Hp} {v : V}, ExtN H H' → p H v → p H' v
def AllP (H : Hp) : List V → List MP → Prop
  | [], [] => True
  | v :: vs, A :: As => A.p H v ∧ AllP H vs As
  | _, _ => False
theorem AllP.mono (e : ExtN H H') : ∀ {vs : List V} {As : List MP}, AllP H vs As → AllP H' vs As
  | [], [], h => h
  | _ :: _, A :: _, h => ⟨A.mono e h.1, AllP.mono e h.2⟩
  | [], _ :: _, h => h.elim
  | _ :: _, [], h => h.elim
theorem AllP.len : ∀ {vs : List V} {As : List MP}, AllP H vs As → vs.length = As.length
  | [], [], _ => rfl
  | _ :: _, _ :: _, h => congrArg Nat.succ (AllP.len h.2)
  | [], _ :: _, h => h.elim
  | _ :: _, [], h => h.elim
theorem AllP.app : ∀ {vs us : List V} {As Bs : List MP}, AllP H vs As → AllP H us Bs → AllP H (vs ++ us) (As ++ Bs)
  | [], _, [], _, _, r => r
  | _ :: _, _, _ :: _, _, h, r => ⟨h.1, AllP.app h.2 r⟩
  | [], _, _ :: _, _, h, _ => h.elim
  | _ :: _, _, [], _, h, _ => h.elim
theorem AllP.at_ : ∀ {vs : List V} {As : List MP} {i : Nat} {v : V}, AllP H vs As → vs[i]? = some v → ∃ A, As[i]? = some A ∧ A.p H v
  | _ :: _, A :: _, 0, _, h, e => by
    cases e
    exact ⟨A, rfl, h.1⟩
  | _ :: _, _ :: _, i + 1, _, h, e => AllP.at_ (i := i) h.2 e
  | [], [], _, _, _, e => by cases e
  | [], _ :: _, _, _, h, _ => h.elim
  | _ :: _, [], _, _, h, _ => h.elim
end
/-- data -/
def isD (K : PySem.W.Frag) (d : PyData) : MP := ⟨fun H v => Dp K H v d, fun e h => dp_ext e h⟩
/-- a list of such things, changed by nobody -/
def isL (As : List MP) : MP := ⟨fun H v => ∃ a vs, v = .ref a ∧ H a = some (.lst vs) ∧ AllP H vs As, fun e ⟨a, vs, h1, h2, h3⟩ => ⟨a, vs, h1, e _ _ h2 (fun _ z => by cases z), h3.mono e⟩⟩
def isT (K : PySem.W.Frag) (As : List MP) : MP := ⟨fun H v => ∃ a vs, v = .ref a ∧ SqT K H a vs ∧ AllP H vs As, fun e ⟨a, vs, h1, h2, h3⟩ => ⟨a, vs, h1, (NX.ofT e).tup h2, h3.mono e⟩⟩
section
variable {T : List (Addr × Str)} {H H' H1 H2 : Hp} {K : PySem.W.Frag} {σ : L2.St}
structure Gv (T : List (Addr × Str)) (t : TE) (σ : L2.St) (H : Hp) (A : MP) : Prop where
  run : ∀ H1, Gw T H H1 → ∀ Q : VK, (∀ v H2, Gw T H1 H2 → A.p H2 v → Q v H2) → t σ H1 Q
structure GvA (T : List (Addr × Str)) (t : TA) (σ : L2.St) (H : Hp) (As : List MP) : Prop where
  run : ∀ H1, Gw T H H1 → ∀ Q : List V → Hp → Prop, (∀ vs H2, Gw T H1 H2 → AllP H2 vs As → Q vs H2) → t σ H1 Q
structure GvD (T : List (Addr × Str)) (K : PySem.W.Frag) (t : TA) (σ : L2.St) (H : Hp) (ds : List PyData) : Prop where
  run : ∀ H1, Gw T H H1 → ∀ Q : List V → Hp → Prop, (∀ vs H2, Gw T H1 H2 → DpAll K H2 vs ds → Q vs H2) → t σ H1 Q
structure GvB (T : List (Addr × Str)) (t : L2.TT) (σ : L2.St) (H : Hp) (c : Bool) : Prop where
  run : ∀ H1, Gw T H H1 → ∀ Q : Bool → Hp → Prop, (∀ H2, Gw T H1 H2 → Q c H2) → t σ H1 Q
theorem Gv.at_ {t : TE} {A : MP} (h : Gv T t σ H A) (g : Gw T H H1) : Gv T t σ H1 A := ⟨fun H2 g2 => h.run H2 (g.trans g2)⟩
theorem Gv.to {t : TE} {A B : MP} (h : Gv T t σ H A) (f : ∀ {H v}, A.p H v → B.p H v) : Gv T t σ H B := ⟨fun H1 g Q q => h.run H1 g Q fun v H2 g2 a => q v H2 g2 (f a)⟩
/-! ### constants, names -/
theorem gv_s (z : Str) : Gv T (tC (.str z)) σ H (isD K (.str z)) := ⟨fun H1 _ Q q => q _ H1 .refl (.str z)⟩
theorem gv_i (i : Int) : Gv T (tC (.int i)) σ H (isD K (.int i)) := ⟨fun H1 _ Q q => q _ H1 .refl (.int i)⟩
theorem gv_b (b : Bool) : Gv T (tC (.bl b)) σ H (isD K (.bool b)) := ⟨fun H1 _ Q q => q _ H1 .refl (.bl b)⟩
theorem gv_n : Gv T (tC .non) σ H (isD K .none) := ⟨fun H1 _ Q q => q _ H1 .refl .non⟩
theorem gv_v {i : Nat} {v : V} {A : MP} (a : A.p H v) (hi : σ[i]? = some (some v) := by rfl) : Gv T (tVar i) σ H A := ⟨fun H1 g Q q => ⟨v, hi, q v H1 .refl (A.mono g.1 a)⟩⟩
/-! ### several -/
theorem ga_nil : GvA T tNil σ H [] := ⟨fun H1 _ Q q => q [] H1 .refl trivial⟩
theorem ga_cons {t : TE} {ts : TA} {A : MP} {As : List MP} (h : Gv T t σ H A) (r : GvA T ts σ H As) : GvA T (tCons t ts) σ H (A :: As) := ⟨fun H1 g Q q => h.run H1 g _ fun v H2 g2 a => r.run H2 (g.trans g2) _ fun vs H3 g3 as => q (v :: vs) H3 (g2.trans g3) ⟨A.mono g3.1 a, as⟩⟩
theorem gd_nil : GvD T K tNil σ H [] := ⟨fun H1 _ Q q => q [] H1 .refl .nil⟩
theorem gd_cons {t : TE} {ts : TA} {d : PyData} {ds : List PyData} (h : Gv T t σ H (isD K d)) (r : GvD T K ts σ H ds) : GvD T K (tCons t ts) σ H (d :: ds) := ⟨fun H1 g Q q => h.run H1 g _ fun v H2 g2 a => r.run H2 (g.trans g2) _ fun vs H3 g3 as => q (v :: vs) H3 (g2.trans g3) (.cons (dp_ext g3.1 a) as)⟩
theorem short {n : Nat} (h : n ≤ 1000) : n ≤ sizeLine := Nat.le_of_lt (small1000 h)
theorem gv_tupD {ts : TA} {ds : List PyData} (h : GvD T K ts σ H ds) (few : Nat.ble ds.length 1000 = true := by rfl) : Gv T (tTup ts) σ H (isD K (.tuple ds)) := ⟨fun H1 g Q q => h.run H1 g _ fun vs H2 g2 d => ⟨short (by rw [dpAll_len d]; exact Nat.le_of_ble_eq_true few), fun p np => q _ _ (g2.trans (Gw.of (same_new np))) (.tup (.inl (.inl upd_same)) (dpAll_ext (ExtN.of (same_new np)) d))⟩⟩
theorem gv_lstD {ts : TA} {ds : List PyData} (h : GvD T K ts σ H ds) (few : Nat.ble ds.length 1000 = true := by rfl) : Gv T (tLst ts) σ H (isD K (.list ds)) := ⟨fun H1 g Q q => h.run H1 g _ fun vs H2 g2 d => ⟨short (by rw [dpAll_len d]; exact Nat.le_of_ble_eq_true few), fun p np => q _ _ (g2.trans (Gw.of (same_new np))) (.lst (.inl (.inl upd_same)) (dpAll_ext (ExtN.of (same_new np)) d))⟩⟩
theorem gv_tup {ts : TA} {As : List MP} (h : GvA T ts σ H As) (few : Nat.ble As.length 1000 = true := by rfl) : Gv T (tTup ts) σ H (isT K As) := ⟨fun H1 g Q q => h.run H1 g _ fun vs H2 g2 d => ⟨short (by rw [d.len]; exact Nat.le_of_ble_eq_true few), fun p np => q _ _ (g2.trans (Gw.of (same_new np))) ⟨p, vs, rfl, .inl (.inl upd_same), d.mono (ExtN.of (same_new np))⟩⟩⟩
theorem gv_lst {ts : TA} {As : List MP} (h : GvA T ts σ H As) (few : Nat.ble As.length 1000 = true := by rfl) : Gv T (tLst ts) σ H (isL As) := ⟨fun H1 g Q q => h.run H1 g _ fun vs H2 g2 d => ⟨short (by rw [d.len]; exact Nat.le_of_ble_eq_true few), fun p np => q _ _ (g2.trans (Gw.of (same_new np))) ⟨p, vs, rfl, upd_same, d.mono (ExtN.of (same_new np))⟩⟩⟩
theorem gv_cat {ta tb : TE} {As Bs : List MP} (h : Gv T ta σ H (isL As)) (r : Gv T tb σ H (isL Bs)) (few : Nat.ble (As.length + Bs.length) 1000 = true := by rfl) : Gv T (tOp rCat ta tb) σ H (isL (As ++ Bs)) := ⟨fun H1 g Q q => h.run H1 g _ fun v H2 g2 a => r.run H2 (g.trans g2) _ fun u H3 g3 b => by
  obtain ⟨l, xs, rfl, e1, e2⟩ := (isL As).mono g3.1 a
  obtain ⟨m, zs, rfl, f1, f2⟩ := b
  refine ⟨l, m, xs, zs, rfl, rfl, e1, f1, short (by rw [e2.len, f2.len]; exact Nat.le_of_ble_eq_true few), fun p np => q _ _ (g2.trans (g3.trans (Gw.of (same_new np)))) ⟨p, _, rfl, upd_same, (AllP.app e2 f2).mono (ExtN.of (same_new np))⟩⟩⟩
/-! ### comparisons, tests -/
theorem gv_neD {ta tb : TE} {d e : PyData} (h : Gv T ta σ H (isD K d)) (r : Gv T tb σ H (isD K e)) (sd : SeqAt.shaped d = true := by decide +kernel) (se : SeqAt.shaped e = true := by decide +kernel) : Gv T (tOp (rNeD K) ta tb) σ H (isD K (.bool (!PyData.eqv d e))) := ⟨fun H1 g Q q => h.run H1 g _ fun v H2 g2 a => r.run H2 (g.trans g2) _ fun u H3 g3 b => ⟨d, e, dp_ext g3.1 a, b, sd, se, q _ _ (g2.trans g3) (.bl _)⟩⟩
theorem gv_eqD {ta tb : TE} {d e : PyData} (h : Gv T ta σ H (isD K d)) (r : Gv T tb σ H (isD K e)) (sd : SeqAt.shaped d = true := by decide +kernel) (se : SeqAt.shaped e = true := by decide +kernel) : Gv T (tOp (rEqD K) ta tb) σ H (isD K (.bool (PyData.eqv d e))) := ⟨fun H1 g Q q => h.run H1 g _ fun v H2 g2 a => r.run H2 (g.trans g2) _ fun u H3 g3 b => ⟨d, e, dp_ext g3.1 a, b, sd, se, q _ _ (g2.trans g3) (.bl _)⟩⟩
theorem dp_bool {v : V} {c : Bool} (h : Dp K H v (.bool c)) : v = .bl c := by cases h; rfl
theorem dp_int {v : V} {c : Int} (h : Dp K H v (.int c)) : v = .int c := by cases h; rfl
theorem dp_str {v : V} {c : Str} (h : Dp K H v (.str c)) : v = .str c := by cases h; rfl
theorem gv_isB {ta tb : TE} {c d : Bool} (h : Gv T ta σ H (isD K (.bool c))) (r : Gv T tb σ H (isD K (.bool d))) : Gv T (tOp rIsB ta tb) σ H (isD K (.bool (decide (c = d)))) := ⟨fun H1 g Q q => h.run H1 g _ fun v H2 g2 a => r.run H2 (g.trans g2) _ fun u H3 g3 b => ⟨c, d, dp_bool a, dp_bool b, q _ _ (g2.trans g3) (.bl _)⟩⟩
theorem gv_notB {ta tb : TE} {c d : Bool} (h : Gv T ta σ H (isD K (.bool c))) (r : Gv T tb σ H (isD K (.bool d))) : Gv T (tOp rNotB ta tb) σ H (isD K (.bool (!decide (c = d)))) := ⟨fun H1 g Q q => h.run H1 g _ fun v H2 g2 a => r.run H2 (g.trans g2) _ fun u H3 g3 b => ⟨c, d, dp_bool a, dp_bool b, q _ _ (g2.trans g3) (.bl _)⟩⟩
theorem gv_and {ta tb : TE} {c d : Bool} (h : Gv T ta σ H (isD K (.bool c))) (r : Gv T tb σ H (isD K (.bool d))) : Gv T (tAndV ta tb) σ H (isD K (.bool (c && d))) := ⟨fun H1 g Q q => h.run H1 g _ fun v H2 g2 a => ⟨c, dp_bool a, by
  cases c with
  | true => exact iteT (r.run H2 (g.trans g2) _ fun u H3 g3 b => q _ _ (g2.trans g3) b)
  | false => exact iteF (q _ _ g2 (.bl _))⟩⟩
theorem gv_not {ta : TE} {c : Bool} (h : Gv T ta σ H (isD K (.bool c))) : Gv T (tNotV ta) σ H (isD K (.bool (!c))) := ⟨fun H1 g Q q => h.run H1 g _ fun v H2 g2 a => ⟨c, dp_bool a, q _ _ g2 (.bl _)⟩⟩
theorem gb_test {t : TE} {c : Bool} (h : Gv T t σ H (isD K (.bool c))) : GvB T (tTest t) σ H c := ⟨fun H1 g Q q => h.run H1 g _ fun v H2 g2 a => ⟨c, dp_bool a, q _ g2⟩⟩
theorem gb_not {t : L2.TT} {c : Bool} (h : GvB T t σ H c) : GvB T (tNot t) σ H (!c) := ⟨fun H1 g Q q => h.run H1 g _ fun H2 g2 => q _ g2⟩
theorem gb_or {t u : L2.TT} {c d : Bool} (h : GvB T t σ H c) (r : GvB T u σ H d) : GvB T (tOr t u) σ H (c || d) := ⟨fun H1 g Q q => h.run H1 g _ fun H2 g2 => by
  cases c with
  | true => exact iteT (q _ g2)
  | false => exact iteF (r.run H2 (g.trans g2) _ fun H3 g3 => q _ (g2.trans g3))⟩
theorem gb_and {t u : L2.TT} {c d : Bool} (h : GvB T t σ H c) (r : GvB T u σ H d) : GvB T (tAnd t u) σ H (c && d) := ⟨fun H1 g Q q => h.run H1 g _ fun H2 g2 => by
  cases c with
  | true => exact iteT (r.run H2 (g.trans g2) _ fun H3 g3 => q _ (g2.trans g3))
  | false => exact iteF (q _ g2)⟩
theorem gv_if {tc : L2.TT} {ta tb : TE} {c : Bool} {A : MP} (h : GvB T tc σ H c) (ha : c = true → Gv T ta σ H A) (hb : c = false → Gv T tb σ H A) : Gv T (tIf tc ta tb) σ H A := ⟨fun H1 g Q q => h.run H1 g _ fun H2 g2 => by
  cases c with
  | true => exact iteT ((ha rfl).run H2 (g.trans g2) _ fun u H3 g3 b => q _ _ (g2.trans g3) b)
  | false => exact iteF ((hb rfl).run H2 (g.trans g2) _ fun u H3 g3 b => q _ _ (g2.trans g3) b)⟩
/-! ### statements -/
theorem gs_set {te : TE} {i : Nat} {A : MP} {t2 : TS} {D : Ends} (h : Gv T te σ H A) (k : ∀ v H1, Gw T H H1 → A.p H1 v → t2 D (σ.set i (some v)) H1) : tSeq (tAsg te (gName i)) t2 D σ H := h.run H .refl _ k
theorem gs_if {tt : L2.TT} {ta t2 : TS} {D : Ends} {c : Bool} (h : GvB T tt σ H c) (hc : c = false) (k : ∀ H1, Gw T H H1 → t2 D σ H1) : tSeq (tIfS tt ta tNext) t2 D σ H := h.run H .refl _ fun H1 g => by
  rw [hc]
  exact iteF (k H1 g)
theorem gs_if1 {tt : L2.TT} {ta : TS} {D : Ends} {c : Bool} (h : GvB T tt σ H c) (hc : c = false) (k : ∀ H1, Gw T H H1 → D.nx σ H1) : tIfS tt ta tNext D σ H := h.run H .refl _ fun H1 g => by
  rw [hc]
  exact iteF (k H1 g)
theorem gs_ret {te : TE} {D : Ends} {A : MP} (h : Gv T te σ H A) (k : ∀ v H1, Gw T H H1 → A.p H1 v → D.rt v H1) : tRet te D σ H := h.run H .refl _ k
/-! ### calls -/
theorem gv_call {sp : Sp} {ts : TA} {As : List MP} {B : MP} (h : GvA T ts σ H As) (c : ∀ H1 vs, Gw T H H1 → AllP H1 vs As → ∀ Q : VK, (∀ r H2, Gw T H1 H2 → B.p H2 r → Q r H2) → sp vs H1 Q E0) : Gv T (tCall sp [] E0 ts) σ H B := ⟨fun H1 g Q q => h.run H1 g _ fun vs H2 g2 as => by
  rw [List.append_nil]
  exact c H2 vs (g.trans g2) as Q fun r H3 g3 b => q r H3 (g2.trans g3) b⟩
theorem gv_meth {sp : Sp} {C : Addr} {m : Str} {to : TE} {ts : TA} {A : MP} {As : List MP} {B : MP} (o : Gv T to σ H A) (h : GvA T ts σ H As) (ins : ∀ {H v}, A.p H v → ∃ a dx fs, v = .ref a ∧ H a = some (.ins C dx fs) ∧ fs.lookup m = none)
    (c : ∀ H1 v vs, Gw T H H1 → A.p H1 v → AllP H1 vs As → ∀ Q : VK, (∀ r H2, Gw T H1 H2 → B.p H2 r → Q r H2) → sp (v :: vs) H1 Q E0) : Gv T (tMeth C m sp [] E0 to ts) σ H B := ⟨fun H1 g Q q => o.run H1 g _ fun v H2 g2 a => by
  obtain ⟨x, dx, fs, rfl, e1, e2⟩ := ins a
  refine ⟨x, dx, fs, rfl, e1, e2, h.run H2 (g.trans g2) _ fun vs H3 g3 as => ?_⟩
  rw [List.append_nil]
  exact c H3 _ vs (g.trans (g2.trans g3)) (A.mono g3.1 a) as Q fun r H4 g4 b => q r H4 (g2.trans (g3.trans g4)) b⟩
end
end Gv
set_option Elab.async false
set_option linter.all false
set_option maxRecDepth 100000
set_option maxHeartbeats 4000000
/-! Doors and people with keywords left out. -/
namespace Lk
open PySem PySem.Spec PyProof.Rows L2 TxS LkO
section
variable {K : PySem.W.Frag} {f : Addr} {fd : FuncData}
abbrev doorPs : List Str := ["self", "start", "end", "key", "both", "cost"]
abbrev persPs : List Str := ["self", "start", "carried", "needs", "shuns"]
abbrev doorKw : List (Str × V) := [("key", .non), ("both", .bl false), ("cost", .int 1)]
/-- the three empty tuples that stand for what is left out -/
abbrev A3 := Addr × Addr × Addr
abbrev persKw (T : A3) : List (Str × V) := [("carried", .ref T.1), ("needs", .ref T.2.1), ("shuns", .ref T.2.2)]
def EmT (K : PySem.W.Frag) (T : A3) : Prop := ∀ H, SqT K H T.1 [] ∧ SqT K H T.2.1 [] ∧ SqT K H T.2.2 []
abbrev DoorFn (K : PySem.W.Frag) (f : Addr) (fd : FuncData) : Prop := FunD K "__init__" "Door.__init__" (defArgs s_Door___init__) (defBody s_Door___init__) (defScope s_Door___init__) [] doorKw f fd
abbrev PersFn (K : PySem.W.Frag) (T : A3) (f : Addr) (fd : FuncData) : Prop := FunD K "__init__" "Person.__init__" (defArgs s_Person___init__) (defBody s_Person___init__) (defScope s_Person___init__) [] (persKw T) f fd
def gA {α : Type} (us mv ws : List α) : List α := us ++ (ws ++ mv)
def gB {α : Type} (us mv ws : List α) : List α := us ++ (mv ++ ws)
def gC {α : Type} (us mv ws : List α) : List α := us ++ (ws.take 1 ++ (mv ++ ws.drop 1))
def gD {α : Type} (us mv ws : List α) : List α := us ++ (mv.take 1 ++ (ws ++ mv.drop 1))
theorem relA {vs mz zs : List V} {us mv ws : List Value} (a : Vals vs us) (b : Vals mz mv) (c : Vals zs ws) : Vals (gA vs mz zs) (gA us mv ws) := a.append (c.append b)
theorem relB {vs mz zs : List V} {us mv ws : List Value} (a : Vals vs us) (b : Vals mz mv) (c : Vals zs ws) : Vals (gB vs mz zs) (gB us mv ws) := a.append (b.append c)
theorem take_one {zs : List V} {ws : List Value} (c : Vals zs ws) : Vals (zs.take 1) (ws.take 1) := by
  cases c with
  | nil => exact .nil
  | cons h _ => exact .cons h .nil
theorem relC {vs mz zs : List V} {us mv ws : List Value} (a : Vals vs us) (b : Vals mz mv) (c : Vals zs ws) : Vals (gC vs mz zs) (gC us mv ws) := a.append ((take_one c).append (b.append (c.drop 1)))
theorem relD {vs mz zs : List V} {us mv ws : List Value} (a : Vals vs us) (b : Vals mz mv) (c : Vals zs ws) : Vals (gD vs mz zs) (gD us mv ws) := a.append ((take_one b).append (c.append (b.drop 1)))
theorem kb_d0 (F : DoorFn K f fd) : ∃ ds, Vals [.non, .bl false, .int 1] ds ∧ Binds K fd doorPs ds :=
  F.binds0 3 (by simp) rfl fun D doc pm an cdv ct us ks l1 l2 => match us, l1, ks, l2 with | [_, _, _], _, [_, _, _], _ => ⟨_, _, _, _, _, _, rfl, rfl, _, _, _, _, _, _, rfl, rfl, _, _, _, _, _, _, rfl, rfl, rfl⟩
theorem kb_dk (F : DoorFn K f fd) : ∃ mv, KBn K fd doorPs 3 ["key"] (fun us ws => gA us mv ws) (fun vs zs => gA vs [.bl false, .int 1] zs) :=
  F.kbinds0 3 ["key"] [("both", .bl false), ("cost", .int 1)] gA (by simp) (by simp) relA fun D doc pm an cdv ct us mv ws l1 l2 l3 => match us, l1, mv, l2, ws, l3 with | [_, _, _], _, [_, _], _, [_], _ => ⟨_, _, _, _, _, _, rfl, rfl, _, _, _, _, _, _, rfl, rfl, rfl⟩
theorem kb_db (F : DoorFn K f fd) : ∃ mv, KBn K fd doorPs 3 ["both"] (fun us ws => gD us mv ws) (fun vs zs => gD vs [.non, .int 1] zs) :=
  F.kbinds0 3 ["both"] [("key", .non), ("cost", .int 1)] gD (by simp) (by simp) relD fun D doc pm an cdv ct us mv ws l1 l2 l3 => match us, l1, mv, l2, ws, l3 with | [_, _, _], _, [_, _], _, [_], _ => ⟨_, _, _, _, _, _, rfl, rfl, _, _, _, _, _, _, rfl, rfl, rfl⟩
theorem kb_dc (F : DoorFn K f fd) : ∃ mv, KBn K fd doorPs 3 ["cost"] (fun us ws => gB us mv ws) (fun vs zs => gB vs [.non, .bl false] zs) :=
  F.kbinds0 3 ["cost"] [("key", .non), ("both", .bl false)] gB (by simp) (by simp) relB fun D doc pm an cdv ct us mv ws l1 l2 l3 => match us, l1, mv, l2, ws, l3 with | [_, _, _], _, [_, _], _, [_], _ => ⟨_, _, _, _, _, _, rfl, rfl, _, _, _, _, _, _, rfl, rfl, rfl⟩
theorem kb_dkc (F : DoorFn K f fd) : ∃ mv, KBn K fd doorPs 3 ["key", "cost"] (fun us ws => gC us mv ws) (fun vs zs => gC vs [.bl false] zs) :=
  F.kbinds0 3 ["key", "cost"] [("both", .bl false)] gC (by simp) (by simp) relC fun D doc pm an cdv ct us mv ws l1 l2 l3 => match us, l1, mv, l2, ws, l3 with | [_, _, _], _, [_], _, [_, _], _ => ⟨_, _, _, _, _, _, rfl, rfl, rfl⟩
variable {T : A3}
theorem kb_p0 (F : PersFn K T f fd) : ∃ ds, Vals [.ref T.1, .ref T.2.1, .ref T.2.2] ds ∧ Binds K fd persPs ds :=
  F.binds0 2 (by simp) rfl fun D doc pm an cdv ct us ks l1 l2 => match us, l1, ks, l2 with | [_, _], _, [_, _, _], _ => ⟨_, _, _, _, _, _, rfl, rfl, _, _, _, _, _, _, rfl, rfl, _, _, _, _, _, _, rfl, rfl, rfl⟩
theorem kb_pc (F : PersFn K T f fd) : ∃ mv, KBn K fd persPs 2 ["carried"] (fun us ws => gA us mv ws) (fun vs zs => gA vs [.ref T.2.1, .ref T.2.2] zs) :=
  F.kbinds0 2 ["carried"] [("needs", .ref T.2.1), ("shuns", .ref T.2.2)] gA (by simp) (by simp) relA fun D doc pm an cdv ct us mv ws l1 l2 l3 => match us, l1, mv, l2, ws, l3 with | [_, _], _, [_, _], _, [_], _ => ⟨_, _, _, _, _, _, rfl, rfl, _, _, _, _, _, _, rfl, rfl, rfl⟩
theorem kb_pn (F : PersFn K T f fd) : ∃ mv, KBn K fd persPs 2 ["needs"] (fun us ws => gD us mv ws) (fun vs zs => gD vs [.ref T.1, .ref T.2.2] zs) :=
  F.kbinds0 2 ["needs"] [("carried", .ref T.1), ("shuns", .ref T.2.2)] gD (by simp) (by simp) relD fun D doc pm an cdv ct us mv ws l1 l2 l3 => match us, l1, mv, l2, ws, l3 with | [_, _], _, [_, _], _, [_], _ => ⟨_, _, _, _, _, _, rfl, rfl, _, _, _, _, _, _, rfl, rfl, rfl⟩
theorem kb_ps (F : PersFn K T f fd) : ∃ mv, KBn K fd persPs 2 ["shuns"] (fun us ws => gB us mv ws) (fun vs zs => gB vs [.ref T.1, .ref T.2.1] zs) :=
  F.kbinds0 2 ["shuns"] [("carried", .ref T.1), ("needs", .ref T.2.1)] gB (by simp) (by simp) relB fun D doc pm an cdv ct us mv ws l1 l2 l3 => match us, l1, mv, l2, ws, l3 with | [_, _], _, [_, _], _, [_], _ => ⟨_, _, _, _, _, _, rfl, rfl, _, _, _, _, _, _, rfl, rfl, rfl⟩
theorem kb_pns (F : PersFn K T f fd) : ∃ mv, KBn K fd persPs 2 ["needs", "shuns"] (fun us ws => gB us mv ws) (fun vs zs => gB vs [.ref T.1] zs) :=
  F.kbinds0 2 ["needs", "shuns"] [("carried", .ref T.1)] gB (by simp) (by simp) relB fun D doc pm an cdv ct us mv ws l1 l2 l3 => match us, l1, mv, l2, ws, l3 with | [_, _], _, [_], _, [_, _], _ => ⟨_, _, _, _, _, _, rfl, rfl, rfl⟩
end
end Lk
set_option Elab.async false
set_option linter.all false
set_option maxRecDepth 100000
set_option maxHeartbeats 4000000
/-! What the calls of the program give, for written things. -/
namespace Gv
open PySem PySem.Spec PyProof.Rows L2 TxS LkO Lk LkG LamX LkS Ld
/-- what is no dict and no table stays -/
def EN (H H' : Hp) : Prop := ∀ b o, H b = some o → (∀ ps, o ≠ .tbl ps) → (∀ kvs, o ≠ .dK kvs) → H' b = some o
section
variable {K : PySem.W.Frag} {H H' H1 H2 : Hp} {CD CP CB CL CK CN : Addr}
theorem EN.of (e : ExtN H H') : EN H H' := fun b o h n _ => e b o h n
theorem EN.refl : EN H H := fun _ _ h _ _ => h
theorem EN.trans (a : EN H H1) (b : EN H1 H2) : EN H H2 := fun c o h n m => b c o (a c o h n m) n m
theorem EN.put {d : Addr} {kvs : List (Key × V)} {o : HO} (h : H d = some (.dK kvs)) : EN H (upd H d o) := fun b u e _ m => by
  rw [upd_ne (ne_of e h (m kvs))]
  exact e
theorem EN.ins {a C dx : Addr} {fs : List (Str × V)} (e : EN H H') (h : H a = some (.ins C dx fs)) : H' a = some (.ins C dx fs) := e _ _ h (fun _ z => by cases z) (fun _ z => by cases z)
theorem EN.tp {a : Addr} {xs : List V} (e : EN H H') (h : H a = some (.tup xs)) : H' a = some (.tup xs) := e _ _ h (fun _ z => by cases z) (fun _ z => by cases z)
theorem EN.tup {a : Addr} {xs : List V} (e : EN H H') (h : SqT K H a xs) : SqT K H' a xs := by
  rcases h with (q | ⟨ob, q⟩) | q
  · exact .inl (.inl (e _ _ q (fun _ z => by cases z) fun _ z => by cases z))
  · exact .inl (.inr ⟨ob, e _ _ q (fun _ z => by cases z) fun _ z => by cases z⟩)
  · exact .inr q
theorem EN.lst {a : Addr} {xs : List V} (e : EN H H') (h : SqL K H a xs) : SqL K H' a xs := by
  rcases h with (q | ⟨ob, q⟩) | q
  · exact .inl (.inl (e _ _ q (fun _ z => by cases z) fun _ z => by cases z))
  · exact .inl (.inr ⟨ob, e _ _ q (fun _ z => by cases z) fun _ z => by cases z⟩)
  · exact .inr q
theorem EN.lk {a : Addr} {zs : List Str} (e : EN H H') (h : LkAt CL H a zs) : LkAt CL H' a zs := by
  obtain ⟨⟨dx, t, h1, h2⟩, h3, h4⟩ := h
  exact ⟨⟨dx, t, e.ins h1, e.tp h2⟩, h3, h4⟩
theorem EN.door (e : EN H H') (v : V) (d : DoorD) (h : doorR CD H v d) : doorR CD H' v d := by
  obtain ⟨x, e1, ⟨dx, hx⟩, ok⟩ := h
  exact ⟨x, e1, ⟨dx, e.ins hx⟩, ok⟩
theorem EN.pers (e : EN H H') (v : V) (d : PersonD) (h : persR K CP H v d) : persR K CP H' v d := by
  obtain ⟨x, e1, ⟨dx, t1, t2, t3, hx, h1, h2, h3⟩, ok⟩ := h
  exact ⟨x, e1, ⟨dx, t1, t2, t3, e.ins hx, e.tup h1, e.tup h2, e.tup h3⟩, ok⟩
theorem EN.bld {x : Addr} {b : BldD} (e : EN H H') (h : BldAt K CD CP CB H x b) : BldAt K CD CP CB H' x b := by
  obtain ⟨⟨dx, r, k, dn, dd, pn, pd, ok, od, op, kvs, ds, ps, h⟩, hok⟩ := h
  have fz : ∀ {a : Addr} {o : Obj} {u : HO}, H a = some (.frz o u) → H' a = some (.frz o u) := fun q => e _ _ q (fun _ z => by cases z) fun _ z => by cases z
  exact ⟨⟨dx, r, k, dn, dd, pn, pd, ok, od, op, kvs, ds, ps, ⟨e.ins h.ob, e.tup h.rooms, fz h.keys, h.keysT, e.tup h.dn, fz h.doors, h.doorsT.mono e.door, e.tup h.pn, fz h.people, h.peopleT.mono e.pers⟩⟩, hok⟩
mutual
theorem dp_en (e : EN H H') : ∀ {v : V} {d : PyData}, Dp K H v d → Dp K H' v d
  | _, _, .non => .non
  | _, _, .bl b => .bl b
  | _, _, .int i => .int i
  | _, _, .str z => .str z
  | _, _, .lst h r => .lst (e.lst h) (dpAll_en e r)
  | _, _, .tup h r => .tup (e.tup h) (dpAll_en e r)
theorem dpAll_en (e : EN H H') : ∀ {vs : List V} {ds : List PyData}, DpAll K H vs ds → DpAll K H' vs ds
  | _, _, .nil => .nil
  | _, _, .cons h r => .cons (dp_en e h) (dpAll_en e r)
end
/-- a thing that stays while dicts change -/
structure Firm (A : MP) : Prop where
  go : ∀ {H H' : Hp} {v : V}, EN H H' → A.p H v → A.p H' v
theorem firm_D {d : PyData} : Firm (isD K d) := ⟨fun e h => dp_en e h⟩
theorem AllP.en (e : EN H H') : ∀ {vs : List V} {As : List MP}, (∀ A ∈ As, Firm A) → AllP H vs As → AllP H' vs As
  | [], [], _, h => h
  | _ :: _, A :: _, f, h => ⟨(f A List.mem_cons_self).go e h.1, AllP.en e (fun B hB => f B (List.mem_cons_of_mem _ hB)) h.2⟩
  | [], _ :: _, _, h => h.elim
  | _ :: _, [], _, h => h.elim
theorem firm_L {As : List MP} (f : ∀ A ∈ As, Firm A) : Firm (isL As) := ⟨fun e ⟨a, vs, h1, h2, h3⟩ => ⟨a, vs, h1, e _ _ h2 (fun _ z => by cases z) (fun _ z => by cases z), h3.en e f⟩⟩
end
def isK (CL : Addr) (ls : List Str) : MP := ⟨fun H v => ∃ z, v = .ref z ∧ LkAt CL H z ls, fun e ⟨z, h1, h2⟩ => ⟨z, h1, (EN.of e).lk h2⟩⟩
def isB (K : PySem.W.Frag) (CD CP CB : Addr) (b : BldD) : MP := ⟨fun H v => ∃ x, v = .ref x ∧ BldAt K CD CP CB H x b, fun e ⟨z, h1, h2⟩ => ⟨z, h1, (EN.of e).bld h2⟩⟩
def isO (CD : Addr) (d : DoorD) : MP := ⟨fun H v => doorR CD H v d, fun e h => (EN.of e).door _ _ h⟩
def isP (K : PySem.W.Frag) (CP : Addr) (p : PersonD) : MP := ⟨fun H v => persR K CP H v p, fun e h => (EN.of e).pers _ _ h⟩
theorem firm_K {CL : Addr} {ls : List Str} : Firm (isK CL ls) := ⟨fun e ⟨z, h1, h2⟩ => ⟨z, h1, e.lk h2⟩⟩
theorem firm_B {K : PySem.W.Frag} {CD CP CB : Addr} {b : BldD} : Firm (isB K CD CP CB b) := ⟨fun e ⟨z, h1, h2⟩ => ⟨z, h1, e.bld h2⟩⟩
theorem firm_O {CD : Addr} {d : DoorD} : Firm (isO CD d) := ⟨fun e h => e.door _ _ h⟩
theorem firm_P {K : PySem.W.Frag} {CP : Addr} {p : PersonD} : Firm (isP K CP p) := ⟨fun e h => e.pers _ _ h⟩
/-! ### dicts with names as keys -/
abbrev TabM (H : Hp) (kvs : List (Key × V)) (l : List (Str × MP)) : Prop := Tab (fun v (A : MP) => A.p H v) kvs l
def isDt (l : List (Str × MP)) : MP := ⟨fun H v => ∃ d kvs, v = .ref d ∧ H d = some (.dK kvs) ∧ TabM H kvs l, fun e ⟨d, kvs, h1, h2, h3⟩ => ⟨d, kvs, h1, e _ _ h2 (fun _ z => by cases z), h3.mono fun v A q => A.mono e q⟩⟩
def isF (l : List (Str × MP)) : MP := ⟨fun H v => ∃ d o kvs, v = .ref d ∧ H d = some (.frz o (.dK kvs)) ∧ TabM H kvs l, fun e ⟨d, o, kvs, h1, h2, h3⟩ => ⟨d, o, kvs, h1, e _ _ h2 (fun _ z => by cases z), h3.mono fun v A q => A.mono e q⟩⟩
def FirmL (l : List (Str × MP)) : Prop := ∀ q ∈ l, Firm q.2
theorem tab_en {H H' : Hp} (e : EN H H') {kvs : List (Key × V)} {l : List (Str × MP)} (f : FirmL l) (h : TabM H kvs l) : TabM H' kvs l := by
  unfold TabM Tab at *
  induction h with
  | nil => exact .nil
  | cons h r ih => exact .cons ⟨h.1, (f _ List.mem_cons_self).go e h.2⟩ (ih fun q hq => f q (List.mem_cons_of_mem _ hq))
theorem firm_F {l : List (Str × MP)} (f : FirmL l) : Firm (isF l) := ⟨fun e ⟨d, o, kvs, h1, h2, h3⟩ => ⟨d, o, kvs, h1, e _ _ h2 (fun _ z => by cases z) (fun _ z => by cases z), tab_en e f h3⟩⟩
theorem tab_of {α : Type} {H : Hp} {R : V → α → Prop} {f : α → MP} (h : ∀ v a, (f a).p H v → R v a) : ∀ {kvs : List (Key × V)} {l : List (Str × α)}, TabM H kvs (l.map fun q => (q.1, f q.2)) → Tab R kvs l
  | _, [], h0 => by cases h0; exact .nil
  | _, q :: l, h0 => by
    cases h0 with
    | cons a r => exact .cons ⟨a.1, h _ _ a.2⟩ (tab_of h r)
theorem put_off : ∀ (acc : List (Key × V)) (k : Key) (v : V), k ∉ acc.map (·.1) → putK acc k v = acc ++ [(k, v)] := fun acc k v h => putK_new h
section
variable {T : List (Addr × Str)} {K : PySem.W.Frag} {H : Hp} {σ : L2.St} {CD CP CB CL CK CN : Addr}
structure GvP (T : List (Addr × Str)) (trs : List (TE × TE)) (σ : L2.St) (H : Hp) (l : List (Str × MP)) : Prop where
  run : ∀ H1, Gw T H H1 → ∀ Q : List (V × V) → Hp → Prop, (∀ kvs H2, Gw T H1 H2 → TabM H2 kvs l → Q (kvs.map fun kv => (kV kv.1, kv.2)) H2) → tPairs trs σ H1 Q
theorem gp_nil : GvP T [] σ H [] := ⟨fun H1 _ Q q => q [] H1 .refl .nil⟩
theorem gp_cons {k : Str} {tv : TE} {trs : List (TE × TE)} {A : MP} {l : List (Str × MP)} (h : Gv T tv σ H A) (r : GvP T trs σ H l) : GvP T ((tC (.str k), tv) :: trs) σ H ((k, A) :: l) := ⟨fun H1 g Q q => h.run H1 g _ fun v H2 g2 a => r.run H2 (g.trans g2) _ fun kvs H3 g3 tb => q ((.inr k, v) :: kvs) H3 (g2.trans g3) (.cons ⟨rfl, A.mono g3.1 a⟩ tb)⟩
theorem merge_tab {kvs : List (Key × V)} {l : List (Str × MP)} (tb : TabM H kvs l) (nd : (l.map (·.1)).Nodup) : mergeK [] kvs = kvs := by
  have go : ∀ (more acc : List (Key × V)), ((acc ++ more).map (·.1)).Nodup → mergeK acc more = acc ++ more := fun more => by
    induction more with
    | nil => intro acc _; rw [List.append_nil]; rfl
    | cons q r ih =>
      intro acc n
      have n1 : q.1 ∉ acc.map (·.1) := fun h => by
        rw [List.map_append, List.nodup_append] at n
        exact n.2.2 q.1 h q.1 (by simp) rfl
      show mergeK (putK acc q.1 q.2) r = _
      rw [putK_new n1, ih (acc ++ [(q.1, q.2)]) (by rw [List.append_assoc]; exact n), List.append_assoc]
      rfl
  rw [go kvs [] (by rw [List.nil_append, tb.keys]; exact List.Pairwise.map _ (fun a c (h : a ≠ c) e => h (by injection e)) nd), List.nil_append]
theorem gv_disp {trs : List (TE × TE)} {l : List (Str × MP)} (ks : List Str) (h : GvP T trs σ H l) (f : FirmL l) (ek : l.map (·.1) = ks := by rfl) (nd : ks.Nodup := by decide +kernel) (few : ks.length ≤ 15 := by decide) : Gv T (tDisp trs) σ H (isDt l) := ⟨fun H1 g Q q => fun p np => h.run _ (g.trans (Gw.of (same_new np))) _ fun kvs H2 g2 tb => by
  have e1 : H2 p = some (.dK []) := g2.1 _ _ upd_same (fun _ z => by cases z)
  have en : EN H2 (upd H2 p (.dK kvs)) := EN.put e1
  refine ⟨e1, kvs, rfl, by rw [Paired.length tb, ← List.length_map (as := l) (f := fun q : Str × MP => q.1), ek]; exact few, ?_⟩
  rw [merge_tab tb (ek ▸ nd)]
  have x1 : ExtN H1 (upd H2 p (.dK kvs)) := fun b o e n => by
    rw [upd_ne (ne_of_none e np)]
    exact g2.1 _ _ (same_new np _ _ e) n
  have t1 : Tabs T H1 → Tabs T (upd H2 p (.dK kvs)) := fun t => by
    have t2 := g2.2 (t.ext (same_new np))
    intro pr hp
    obtain ⟨ps, h1, h2, h3⟩ := t2 pr hp
    refine ⟨ps, by rw [upd_ne (ne_of h1 e1 (by intro z; cases z))]; exact h1, h2, fun pos cv hc => ?_⟩
    obtain ⟨c, c1, c2⟩ := h3 pos cv hc
    exact ⟨c, c1, by rw [upd_ne (ne_of c2 e1 (by intro z; unfold CodeO at z; cases z))]; exact c2⟩
  exact q _ _ ⟨x1, t1⟩ ⟨p, kvs, rfl, upd_same, tab_en en f tb⟩⟩
theorem tabs_put {d : Addr} {u o : HO} (t : Tabs T H) (e : H d = some u) (nt : ∀ ps, u ≠ .tbl ps) (nx : ∀ f, u ≠ .ext f) : Tabs T (upd H d o) := fun pr hp => by
  obtain ⟨ps, h1, h2, h3⟩ := t pr hp
  refine ⟨ps, by rw [upd_ne (ne_of h1 e (fun z => nt _ z.symm))]; exact h1, h2, fun pos cv hc => ?_⟩
  obtain ⟨c, c1, c2⟩ := h3 pos cv hc
  exact ⟨c, c1, by rw [upd_ne (ne_of c2 e (fun z => by unfold CodeO at z; exact nx _ z.symm))]; exact c2⟩
/-- a display, locked at once -/
theorem gv_frz {trs : List (TE × TE)} {l : List (Str × MP)} (ks : List Str) (h : GvP T trs σ H l) (f : FirmL l) (ek : l.map (·.1) = ks := by rfl) (nd : ks.Nodup := by decide +kernel) (few : ks.length ≤ 15 := by decide) : Gv T (tFrz (tDisp trs)) σ H (isF l) := ⟨fun H1 g Q q => fun p np => h.run _ (g.trans (Gw.of (same_new np))) _ fun kvs H2 g2 tb => by
  have e1 : H2 p = some (.dK []) := g2.1 _ _ upd_same (fun _ z => by cases z)
  refine ⟨e1, kvs, rfl, by rw [Paired.length tb, ← List.length_map (as := l) (f := fun q : Str × MP => q.1), ek]; exact few, ?_⟩
  rw [merge_tab tb (ek ▸ nd)]
  refine ⟨p, _, rfl, upd_same, trivial, fun od => ?_⟩
  have en : EN H2 (upd (upd H2 p (.dK kvs)) p (.frz od (.dK kvs))) := (EN.put e1).trans (EN.put upd_same)
  have x1 : ExtN H1 (upd (upd H2 p (.dK kvs)) p (.frz od (.dK kvs))) := fun b o e n => by
    rw [upd_ne (ne_of_none e np), upd_ne (ne_of_none e np)]
    exact g2.1 _ _ (same_new np _ _ e) n
  have t1 : Tabs T H1 → Tabs T (upd (upd H2 p (.dK kvs)) p (.frz od (.dK kvs))) := fun t => tabs_put (tabs_put (g2.2 (t.ext (same_new np))) e1 (fun _ z => by cases z) fun _ z => by cases z) upd_same (fun _ z => by cases z) fun _ z => by cases z
  exact q _ _ ⟨x1, t1⟩ ⟨p, od, kvs, rfl, upd_same, tab_en en f tb⟩⟩
theorem gv_frz0 : Gv T (tFrz tDNewK) σ H (isF []) := ⟨fun H1 g Q q => fun p np => ⟨p, _, rfl, upd_same, trivial, fun od => by
  have x1 : ExtN H1 (upd (upd H1 p (.dK [])) p (.frz od (.dK []))) := fun b o e n => by
    rw [upd_ne (ne_of_none e np), upd_ne (ne_of_none e np)]
    exact e
  exact q _ _ ⟨x1, fun t => tabs_put (t.ext (same_new np)) upd_same (fun _ z => by cases z) fun _ z => by cases z⟩ ⟨p, od, [], rfl, upd_same, .nil⟩⟩⟩
/-- nothing but a table may have stood there -/
def Vd (H0 : Hp) (v : V) : Prop := ∃ d, v = .ref d ∧ ∀ o, H0 d = some o → ∃ ps, o = .tbl ps
theorem ext_put {H0 H2 : Hp} {v : V} {d : Addr} {o : HO} {u : HO} (ev : v = .ref d) (g0 : Gw T H0 H2) (vd : Vd H0 v) (e : H2 d = some u) (nt : ∀ ps, u ≠ .tbl ps) (nx : ∀ f, u ≠ .ext f) : Gw T H0 (upd H2 d o) := by
  obtain ⟨d', e', hv⟩ := vd
  rw [ev] at e'
  cases e'
  refine ⟨fun b o' eb n => ?_, fun t => tabs_put (g0.2 t) e nt nx⟩
  rw [upd_ne (fun z => by
    subst z
    obtain ⟨ps, q⟩ := hv _ eb
    exact n ps q)]
  exact g0.1 _ _ eb n
/-- x = {..} -/
theorem gs_setD {trs : List (TE × TE)} {l : List (Str × MP)} {t2 : TS} {D : Ends} {i : Nat} (ks : List Str) (h : GvP T trs σ H l) (f : FirmL l) (k : ∀ v H1, Gw T H H1 → (isDt l).p H1 v → (∀ H0, Gw T H0 H → Vd H0 v) → t2 D (σ.set i (some v)) H1) (ek : l.map (·.1) = ks := by rfl) (nd : ks.Nodup := by decide +kernel) (few : ks.length ≤ 15 := by decide) : tSeq (tAsg (tDisp trs) (gName i)) t2 D σ H := fun p np => h.run _ (Gw.of (same_new np)) _ fun kvs H2 g2 tb => by
  have e1 : H2 p = some (.dK []) := g2.1 _ _ upd_same (fun _ z => by cases z)
  have en : EN H2 (upd H2 p (.dK kvs)) := EN.put e1
  have vd : ∀ H0, Gw T H0 H → Vd H0 (.ref p) := fun H0 g0 => ⟨p, rfl, fun o e => by
    by_cases n : ∀ ps, o ≠ .tbl ps
    · have := g0.1 _ _ e n
      rw [np] at this
      cases this
    · exact Classical.byContradiction fun z => n fun ps q => z ⟨ps, q⟩⟩
  refine ⟨e1, kvs, rfl, by rw [Paired.length tb, ← List.length_map (as := l) (f := fun q : Str × MP => q.1), ek]; exact few, ?_⟩
  rw [merge_tab tb (ek ▸ nd)]
  exact k _ _ (ext_put rfl ((Gw.of (same_new np)).trans g2) (vd H .refl) e1 (fun _ z => by cases z) fun _ z => by cases z) ⟨p, kvs, rfl, upd_same, tab_en en f tb⟩ vd
/-- another dict stays -/
def Oth (l : List (Str × MP)) (H H' : Hp) : Prop := ∀ (l2 : List (Str × MP)) (v2 : V), (isDt l2).p H v2 → FirmL l2 → l.map (·.1) ≠ l2.map (·.1) → (isDt l2).p H' v2
theorem oth_put {l : List (Str × MP)} {d : Addr} {kvs : List (Key × V)} {o : HO} (e1 : H d = some (.dK kvs)) (tb : TabM H kvs l) : Oth l H (upd H d o) := fun l2 v2 a f ne => by
  obtain ⟨d2, kvs2, rfl, e2, tb2⟩ := a
  have nd : d2 ≠ d := fun z => by
    subst z
    rw [e1] at e2
    cases e2
    have k1 := tb.keys
    have k2 := tb2.keys
    rw [k1] at k2
    exact ne (List.map_inj_right (f := (Sum.inr : Str → Key)) (fun a b h => by injection h) |>.mp k2)
  exact ⟨d2, kvs2, rfl, by rw [upd_ne nd]; exact e2, tab_en (EN.put e1) f tb2⟩
/-- the dict that a name holds is locked -/
theorem gs_frz {t : TS} {D : Ends} {v : V} {l : List (Str × MP)} (a : (isDt l).p H v) (f : FirmL l) (k : ∀ H1, EN H H1 → (∀ H0, Gw T H0 H → Vd H0 v → Gw T H0 H1) → Oth l H H1 → (isF l).p H1 v → t D σ H1) : sFrz t D σ H := by
  obtain ⟨d, kvs, rfl, e1, tb⟩ := a
  exact ⟨d, _, e1, trivial, fun od => k _ (EN.put e1) (fun H0 g0 vd => ext_put rfl g0 vd e1 (fun _ z => by cases z) fun _ z => by cases z) (oth_put e1 tb) ⟨d, od, kvs, rfl, upd_same, tab_en (EN.put e1) f tb⟩⟩
theorem gs_put {tv : TE} {t2 : TS} {D : Ends} {i : Nat} {v : V} {k : Str} {l : List (Str × MP)} {B : MP} (a : (isDt l).p H v) (hi : σ[i]? = some (some v)) (hv : Gv T tv σ H B) (f : FirmL l) (fB : Firm B) (ks : List Str)
    (kk : ∀ H1, EN H H1 → (∀ H0, Gw T H0 H → Vd H0 v → Gw T H0 H1) → Oth l H H1 → (isDt (l ++ [(k, B)])).p H1 v → t2 D σ H1) (ek : l.map (·.1) = ks := by rfl) (new : k ∉ ks := by decide +kernel) (few : ks.length ≤ 100 := by decide) : tSeq (sDPut (tVar i) (tC (.str k)) tv) t2 D σ H := hv.run H .refl _ fun u H1 g1 b => by
  obtain ⟨d, kvs, rfl, e1, tb⟩ := (isDt l).mono g1.1 a
  have nk : (Sum.inr k : Key) ∉ kvs.map (·.1) := fun hm => by
    rw [tb.keys] at hm
    obtain ⟨z, hz, ez⟩ := List.mem_map.mp hm
    injection ez with ez
    rw [ek] at hz
    exact new (ez ▸ hz)
  refine ⟨_, hi, d, _, rfl, .inl ⟨kvs, .inr k, e1, rfl, small1000 (by rw [Paired.length tb, ← List.length_map (as := l) (f := fun q : Str × MP => q.1), ek]; omega), rfl⟩, ?_⟩
  rw [putK_new nk]
  have en : EN H1 (upd H1 d (.dK (kvs ++ [(.inr k, u)]))) := EN.put e1
  exact kk _ ((EN.of g1.1).trans en) (fun H0 g0 vd => ext_put rfl (g0.trans g1) vd e1 (fun _ z => by cases z) fun _ z => by cases z) (fun l2 v2 a2 f2 ne => oth_put e1 tb l2 v2 ((isDt l2).mono g1.1 a2) f2 ne) ⟨d, _, rfl, upd_same, Paired.snoc (tab_en en f tb) ⟨rfl, fB.go en b⟩⟩
/-! ### sets of doors -/
theorem gv_lks {ts : TA} {ds : List PyData} (zs : List Str) (h : GvD T K ts σ H ds) (e : ds = zs.map PyData.str := by rfl) (nm : ∀ z ∈ zs, isNm z = true := by decide +kernel) (few : zs.length < 64 := by decide) : Gv T (StX.tMakeR CL (spNew CL) E0 ts) σ H (isK CL (srt zs)) := ⟨fun H1 g Q q => h.run H1 g _ fun vs H2 g2 d => by
  subst e
  have ev := dp_strs_inv d
  subst ev
  intro x dx nx nd ne
  refine ⟨x, dx, zs, rfl, upd_same, nm, few, fun H' t kp e1 e2 => ⟨rfl, ?_⟩⟩
  obtain ⟨s2, m2⟩ := made_at nx nd ne nm kp e1 e2
  exact q _ _ (g2.trans (Gw.of s2)) ⟨x, rfl, m2⟩⟩
theorem gv_lks0 : Gv T (StX.tMakeR CL (spNew CL) E0 tNil) σ H (isK CL []) := gv_lks (K := []) [] gd_nil
theorem lk_ins {H : Hp} {v : V} {ls : List Str} (h : (isK CL ls).p H v) : ∃ a dx fs, v = .ref a ∧ H a = some (.ins CL dx fs) := by
  obtain ⟨z, rfl, ⟨dx, t, h1, _⟩, _⟩ := h
  exact ⟨z, dx, _, rfl, h1⟩
theorem gv_or {ta tb : TE} {zs ws : List Str} (h : Gv T ta σ H (isK CL zs)) (r : Gv T tb σ H (isK CL ws)) (few : zs.length + ws.length < 64 := by decide) : Gv T (tOp (rOwn CL (spBin CL gOr) E0) ta tb) σ H (isK CL (gOr zs ws)) := ⟨fun H1 g Q q => h.run H1 g _ fun v H2 g2 a => r.run H2 (g.trans g2) _ fun u H3 g3 b => by
  have a := (isK CL zs).mono g3.1 a
  obtain ⟨a1, dx, fs, _, i1⟩ := lk_ins a
  obtain ⟨b1, dy, gs, _, i2⟩ := lk_ins b
  obtain ⟨z, rfl, hz⟩ := a
  obtain ⟨w, rfl, hw⟩ := b
  obtain ⟨⟨dx, t, h1, _⟩, _⟩ := id hz
  obtain ⟨⟨dy, t', h2, _⟩, _⟩ := id hw
  exact ⟨z, dx, _, w, dy, _, rfl, rfl, h1, h2, z, w, zs, ws, rfl, hz, hw, few, fun H' c s' hc => q _ _ (g2.trans (g3.trans (Gw.of s'))) ⟨c, rfl, hc⟩⟩⟩
theorem gv_eqK {ta tb : TE} {zs ws : List Str} (h : Gv T ta σ H (isK CL zs)) (r : Gv T tb σ H (isK CL ws)) : Gv T (tOp (rOwn CL (spEqL CL) E0) ta tb) σ H (isD K (.bool (decide (zs = ws)))) := ⟨fun H1 g Q q => h.run H1 g _ fun v H2 g2 a => r.run H2 (g.trans g2) _ fun u H3 g3 b => by
  obtain ⟨z, rfl, hz⟩ := (isK CL zs).mono g3.1 a
  obtain ⟨w, rfl, hw⟩ := b
  obtain ⟨⟨dx, t, h1, _⟩, _⟩ := id hz
  obtain ⟨⟨dy, t', h2, _⟩, _⟩ := id hw
  exact ⟨z, dx, _, w, dy, _, rfl, rfl, h1, h2, z, w, zs, ws, rfl, hz, hw, q _ _ (g2.trans g3) (.bl _)⟩⟩
end
end Gv
set_option Elab.async false
set_option linter.all false
set_option maxRecDepth 100000
set_option maxHeartbeats 4000000
namespace Gv
open PySem PySem.Spec PyProof.Rows L2 TxS LkO Lk LkG LamX LkS Ld
/-! ### what can be decided -/
def okD (d : DoorD) : Bool := isNm d.a && isNm d.b && !decide (d.a = d.b) && (match d.key with | some z => isNm z | none => true) && decide (1 ≤ d.cost) && decide (d.cost ≤ 9)
theorem okD_ok {d : DoorD} (h : okD d = true) : d.ok := by
  unfold okD at h
  simp only [Bool.and_eq_true, Bool.not_eq_true', decide_eq_true_eq, decide_eq_false_iff_not] at h
  obtain ⟨⟨⟨⟨⟨h1, h2⟩, h3⟩, h4⟩, h5⟩, h6⟩ := h
  refine ⟨h1, h2, h3, fun z e => ?_, h5, h6⟩
  rw [e] at h4
  exact h4
def okP (p : PersonD) : Bool := isNm p.a && areNm p.carried && areNm p.needs && areNm p.shuns && (p.needs.all fun z => !decide (z ∈ p.shuns)) && decide (p.carried.length ≤ 100) && decide (p.needs.length ≤ 100) && decide (p.shuns.length ≤ 100)
theorem okP_ok {p : PersonD} (h : okP p = true) : p.ok := by
  unfold okP at h
  simp only [Bool.and_eq_true, Bool.not_eq_true', decide_eq_true_eq, decide_eq_false_iff_not, List.all_eq_true] at h
  obtain ⟨⟨⟨⟨⟨⟨⟨h1, h2⟩, h3⟩, h4⟩, h5⟩, h6⟩, h7⟩, h8⟩ := h
  exact ⟨h1, h2, h3, h4, h5, h6, h7, h8⟩
def okB (b : BldD) : Bool := areNm b.rooms && decide (2 ≤ b.rooms.length) && decide (b.rooms.length ≤ 6) && decide (b.keys.length ≤ 3) && decide (b.keys.map (·.1)).Nodup && (b.keys.all fun p => isNm p.1 && !decide (p.1 ∈ b.rooms) && decide (p.2 ∈ b.rooms)) && decide (1 ≤ b.doors.length) && decide (b.doors.length ≤ 8) && decide (b.doors.map (·.1)).Nodup &&
  (b.doors.all fun p => isNm p.1 && okD p.2 && decide (p.2.a ∈ b.rooms) && decide (p.2.b ∈ b.rooms) && (match p.2.key with | some z => decide (z ∈ b.keys.map (·.1)) | none => true)) && decide (1 ≤ b.people.length) && decide (b.people.length ≤ 4) && decide (b.people.map (·.1)).Nodup &&
  (b.people.all fun p => isNm p.1 && okP p.2 && decide (p.2.a ∈ b.rooms) && (p.2.carried.all fun z => decide (z ∈ b.keys.map (·.1))) && (p.2.needs.all fun z => decide (z ∈ b.rooms)) && (p.2.shuns.all fun z => decide (z ∈ b.rooms)))
theorem okB_ok {b : BldD} (h : okB b = true) : b.ok := by
  unfold okB at h
  simp only [Bool.and_eq_true, Bool.not_eq_true', decide_eq_true_eq, decide_eq_false_iff_not, List.all_eq_true] at h
  obtain ⟨⟨⟨⟨⟨⟨⟨⟨⟨⟨⟨⟨⟨h1, h2⟩, h3⟩, h4⟩, h5⟩, h6⟩, h7⟩, h8⟩, h9⟩, h10⟩, h11⟩, h12⟩, h13⟩, h14⟩ := h
  refine ⟨h1, h2, h3, h4, h5, fun p hp => ?_, h7, h8, h9, fun p hp => ?_, h11, h12, h13, fun p hp => ?_⟩
  · obtain ⟨⟨a, b'⟩, c⟩ := h6 p hp
    exact ⟨a, b', c⟩
  · obtain ⟨⟨⟨⟨a, b'⟩, c⟩, d⟩, e⟩ := h10 p hp
    refine ⟨a, okD_ok b', c, d, fun z ez => ?_⟩
    rw [ez] at e
    exact of_decide_eq_true e
  · obtain ⟨⟨⟨⟨⟨a, b'⟩, c⟩, d⟩, e⟩, g⟩ := h14 p hp
    exact ⟨a, okP_ok b', c, d, e, g⟩
def reachR (b : BldD) (p : PersonD) (ls : List Str) : List Str := b.rooms.filter fun z => decide (z ∈ reachL b p ls)
def rightB (b : BldD) (ls : List Str) : Bool := b.people.all fun q => (q.2.needs.all fun u => decide (u ∈ reachL b q.2 ls)) && (q.2.shuns.all fun u => !decide (u ∈ reachL b q.2 ls))
theorem right_iff {b : BldD} (ok : b.ok) {ls : List Str} : rightB b ls = true ↔ RightS b ls := by
  unfold rightB RightS
  simp only [List.all_eq_true, Bool.and_eq_true, Bool.not_eq_true', decide_eq_true_eq, decide_eq_false_iff_not, mem_reachL ok]
abbrev pk (b : BldD) (c : List Int) : List Str := pickN (b.doors.map (·.1)) c
theorem pk_nd {b : BldD} (ok : b.ok) {c : List Int} (hc : c ∈ choicesN b.doors.length) : (pk b c).Nodup := ok.dnd.sublist (pick_in (by rw [List.length_map]; exact hc))
def shownB (b : BldD) (ls : List Str) (trs : List (Str × List Str)) (dvs : List Dv) : Bool := rightB b ls && dvs.all (dbtV b) && (b.people.all fun q => completeOf b q.2 ls ((trs.lookup q.1).getD [])) && ((choicesN b.doors.length).all fun c => !decide (priceOf b (pk b c) < priceOf b ls) || dvs.any (strV (pk b c)))
theorem shown_B {b : BldD} (ok : b.ok) {ls : List Str} {trs : List (Str × List Str)} {ds : List (Addr × Dv)} (ht : ∀ q ∈ b.people, ∃ tr, trs.lookup q.1 = some tr) : shownB b ls trs (ds.map (·.2)) = true ↔ Shown b ls trs ds := by
  unfold shownB Shown
  rw [Bool.and_eq_true, Bool.and_eq_true, Bool.and_eq_true, right_iff ok, and_assoc, and_assoc]
  refine and_congr Iff.rfl (and_congr ?_ (and_congr ?_ ?_))
  · rw [List.all_map, List.all_eq_true]
    rfl
  · rw [List.all_eq_true]
    constructor
    · intro h q hq tr e
      have := h q hq
      rw [e] at this
      exact this
    · intro h q hq
      obtain ⟨tr, e⟩ := ht q hq
      have := h q hq tr e
      rw [e]
      exact this
  · rw [List.all_eq_true]
    constructor
    · intro h l hl hp
      obtain ⟨c, hc, rfl⟩ := mem_byPrice.mp hl
      have h1 := h c hc
      rw [price_srt b (pk_nd ok hc)] at hp
      rw [decide_eq_true hp] at h1
      rw [anyV_same (mem_srt _)]
      rw [List.any_map] at h1
      exact h1
    · intro h c hc
      by_cases hp : priceOf b (pk b c) < priceOf b ls
      · have h1 := h _ (mem_byPrice.mpr ⟨c, hc, rfl⟩) (by rw [price_srt b (pk_nd ok hc)]; exact hp)
        rw [anyV_same (mem_srt _)] at h1
        rw [List.any_map]
        exact Bool.or_eq_true_iff.mpr (.inr h1)
      · rw [decide_eq_false hp]
        rfl
def noneB (b : BldD) (dvs : List Dv) : Bool := dvs.all (dbtV b) && (choicesN b.doors.length).all fun c => dvs.any (strV (pk b c))
theorem none_B {b : BldD} {ds : List (Addr × Dv)} : noneB b (ds.map (·.2)) = true ↔ (∀ d ∈ ds, dbtV b d.2 = true) ∧ ∀ l ∈ byPrice b, (ds.any fun d => strV l d.2) = true := by
  unfold noneB
  rw [Bool.and_eq_true]
  refine and_congr ?_ ?_
  · rw [List.all_map, List.all_eq_true]
    rfl
  · rw [List.all_eq_true]
    constructor
    · intro h l hl
      obtain ⟨c, hc, rfl⟩ := mem_byPrice.mp hl
      have h1 := h c hc
      rw [List.any_map] at h1
      rw [anyV_same (mem_srt _)]
      exact h1
    · intro h c hc
      have h1 := h _ (mem_byPrice.mpr ⟨c, hc, rfl⟩)
      rw [anyV_same (mem_srt _)] at h1
      rw [List.any_map]
      exact h1
def leastB (b : BldD) (c : List Int) : Bool := decide (c ∈ choicesN b.doors.length) && rightB b (pk b c) && (choicesN b.doors.length).all fun d => !rightB b (pk b d) || (decide (priceOf b (pk b c) < priceOf b (pk b d)) || (decide (priceOf b (pk b c) = priceOf b (pk b d)) && decide (c ≤ d)))
theorem least_B {b : BldD} (ok : b.ok) {c : List Int} (h : leastB b c = true) {i : Nat} {ls : List Str} (hi : (byPrice b)[i]? = some ls) (hR : RightS b ls) (no : ∀ l ∈ (byPrice b).take i, ¬ RightS b l) : ls = srt (pk b c) := by
  unfold leastB at h
  simp only [Bool.and_eq_true, Bool.or_eq_true, Bool.not_eq_true', decide_eq_true_eq, List.all_eq_true] at h
  obtain ⟨⟨h1, h2⟩, h3⟩ := h
  have pr : ∀ d ∈ choicesN b.doors.length, prC b d = priceOf b (pk b d) := fun d hd => price_srt b (pk_nd ok hd)
  refine first_least (good := RightS b) hi hR no h1 ((right_same (mem_srt _)).mpr ((right_iff ok).mp h2)) fun d hd hr => ?_
  rw [pr c h1, pr d hd]
  rcases h3 d hd with q | q
  · exact absurd ((right_iff ok).mpr ((right_same (mem_srt _)).mp hr)) (by rw [q]; decide)
  · exact q
def wrongB (b : BldD) : Bool := (choicesN b.doors.length).all fun d => !rightB b (pk b d)
theorem wrong_B {b : BldD} (ok : b.ok) (h : wrongB b = true) {l : List Str} (hl : l ∈ byPrice b) : ¬ RightS b l := fun hr => by
  obtain ⟨c, hc, rfl⟩ := mem_byPrice.mp hl
  have h1 := List.all_eq_true.mp h c hc
  rw [(right_iff ok).mpr ((right_same (mem_srt _)).mp hr)] at h1
  cases h1
theorem cheaper_before {b : BldD} {i : Nat} {ls l : List Str} (hi : (byPrice b)[i]? = some ls) (hl : l ∈ byPrice b) (hp : priceOf b l < priceOf b ls) : l ∈ (byPrice b).take i := by
  obtain ⟨j, hj⟩ := List.mem_iff_getElem?.mp hl
  obtain ⟨hil, ei⟩ := List.getElem?_eq_some_iff.mp hi
  obtain ⟨hjl, ej⟩ := List.getElem?_eq_some_iff.mp hj
  rcases Nat.lt_trichotomy j i with h | h | h
  · exact List.mem_take_iff_getElem.mpr ⟨j, by omega, ej⟩
  · subst h
    rw [ei] at ej
    rw [ej] at hp
    omega
  · have hs : (byPrice b).Pairwise fun a c => LkS.leBy (priceOf b) a c = true := List.pairwise_mergeSort (Ld.leBy_trans _) (Ld.leBy_total _) _
    have h1 := List.pairwise_iff_getElem.mp hs i j hil hjl h
    rw [ei, ej] at h1
    have h2 : priceOf b ls ≤ priceOf b l := of_decide_eq_true h1
    omega
abbrev bestTr (b : BldD) (ls : List Str) : List (Str × List Str) := b.people.map fun q => (q.1, trailOf b q.2 ls)
theorem best_look {b : BldD} (ok : b.ok) {ls : List Str} {q : Str × PersonD} (hq : q ∈ b.people) : (bestTr b ls).lookup q.1 = some (trailOf b q.2 ls) := look_at (l := bestTr b ls) (by rw [List.map_map]; exact ok.pnd) (List.mem_map.mpr ⟨q, hq, rfl⟩)
theorem sound_shown {b : BldD} (ok : b.ok) {i : Nat} {ls : List Str} {ds : List (Addr × Dv)} (hi : (byPrice b)[i]? = some ls) (hR : RightS b ls) (good : GoodDs b ds) (str : ∀ l ∈ (byPrice b).take i, (ds.any fun d => strV l d.2) = true) : Shown b ls (bestTr b ls) ds := by
  refine ⟨hR, fun d hd => (good.2 d hd).2, fun q hq tr htr => ?_, fun l hl hp => str l (cheaper_before hi hl hp)⟩
  rw [best_look ok hq] at htr
  cases htr
  obtain ⟨R0, eR0, eBy⟩ := trail_comp ok q.2 ls
  unfold completeOf
  rw [eR0]
  show (beyondOf b q.2 ls R0).isEmpty = true
  rw [eBy]
  rfl
end Gv
set_option Elab.async false
set_option linter.all false
set_option maxRecDepth 100000
set_option maxHeartbeats 4000000
namespace Gv
open PySem PySem.Spec PyProof.Rows L2 TxS LkO Lk LkG LamX LkS Ld
def atV : PyData → V
  | .str z => .str z
  | .int i => .int i
  | .bool b => .bl b
  | _ => .non
def isAt : PyData → Bool
  | .str _ => true
  | .int _ => true
  | .bool _ => true
  | .none => true
  | _ => false
theorem dp_atoms {K : PySem.W.Frag} {H : Hp} : ∀ {vs : List V} {ds : List PyData}, ds.all isAt = true → DpAll K H vs ds → vs = ds.map atV
  | _, _, _, .nil => rfl
  | _, _, a, .cons h r => by
    rw [List.all_cons, Bool.and_eq_true] at a
    rw [dp_atoms a.2 r]
    cases h with
    | non => rfl
    | bl b => rfl
    | int i => rfl
    | str z => rfl
    | lst _ _ => exact absurd a.1 (by intro z; cases z)
    | tup _ _ => exact absurd a.1 (by intro z; cases z)
theorem dp_tup_inv {K : PySem.W.Frag} {H : Hp} {v : V} {zs : List Str} (h : Dp K H v (.tuple (zs.map PyData.str))) : ∃ t, v = .ref t ∧ SqT K H t (zs.map V.str) := by
  cases h with
  | tup h r => exact ⟨_, rfl, by rw [← dp_strs_inv r]; exact h⟩
theorem dp_lst_inv {K : PySem.W.Frag} {H : Hp} {v : V} {zs : List Str} (h : Dp K H v (.list (zs.map PyData.str))) : ∃ t, v = .ref t ∧ SqL K H t (zs.map V.str) := by
  cases h with
  | lst h r => exact ⟨_, rfl, by rw [← dp_strs_inv r]; exact h⟩
theorem all1 {H : Hp} {A : MP} : ∀ {vs : List V}, AllP H vs [A] → ∃ v, vs = [v] ∧ A.p H v
  | [], h => h.elim
  | [v], h => ⟨v, rfl, h.1⟩
  | _ :: _ :: _, h => h.2.elim
theorem allc {H : Hp} {A B : MP} {As : List MP} : ∀ {vs : List V}, AllP H vs (A :: B :: As) → ∃ v us, vs = v :: us ∧ A.p H v ∧ AllP H us (B :: As)
  | [], h => h.elim
  | v :: us, h => ⟨v, us, rfl, h.1, h.2⟩
theorem all2 {H : Hp} {A B : MP} {vs : List V} (h : AllP H vs [A, B]) : ∃ v u, vs = [v, u] ∧ A.p H v ∧ B.p H u := by
  obtain ⟨v, us, rfl, a, h⟩ := allc h
  obtain ⟨u, rfl, b⟩ := all1 h
  exact ⟨v, u, rfl, a, b⟩
theorem all3 {H : Hp} {A B C : MP} {vs : List V} (h : AllP H vs [A, B, C]) : ∃ v u w, vs = [v, u, w] ∧ A.p H v ∧ B.p H u ∧ C.p H w := by
  obtain ⟨v, us, rfl, a, h⟩ := allc h
  obtain ⟨u, w, rfl, b, c⟩ := all2 h
  exact ⟨v, u, w, rfl, a, b, c⟩
theorem all4 {H : Hp} {A B C D : MP} {vs : List V} (h : AllP H vs [A, B, C, D]) : ∃ v u w y, vs = [v, u, w, y] ∧ A.p H v ∧ B.p H u ∧ C.p H w ∧ D.p H y := by
  obtain ⟨v, us, rfl, a, h⟩ := allc h
  obtain ⟨u, w, y, rfl, b, c, d⟩ := all3 h
  exact ⟨v, u, w, y, rfl, a, b, c, d⟩
section
variable {T : List (Addr × Str)} {K : PySem.W.Frag} {H : Hp} {σ : L2.St} {CD CP CB CL CK CN PT : Addr} {E : A3}
/-! ### doors and people -/
theorem gv_door0 {ts : TA} (d : DoorD) (h : GvD T K ts σ H [.str d.a, .str d.b]) (e : d.key = none ∧ d.both = false ∧ d.cost = 1 := by exact ⟨rfl, rfl, rfl⟩) (ok : okD d = true := by decide +kernel) : Gv T (tMake CD (spDoor CD) [.non, .bl false, .int 1] E0 ts) σ H (isO CD d) := ⟨fun H1 g Q q => h.run H1 g _ fun vs H2 g2 dd => by
  have ev := dp_atoms (by rfl) dd
  subst ev
  intro x dx nx nd ne
  obtain ⟨e1, e2, e3⟩ := e
  refine ⟨x, dx, d, by rw [e1, e2, e3]; rfl, upd_same, okD_ok ok, fun H' kp ex => ⟨rfl, q _ _ (g2.trans (Gw.of (Same.made nx nd kp))) ⟨x, rfl, ⟨dx, ex⟩, okD_ok ok⟩⟩⟩⟩
theorem gv_doorK {ts tk : TA} {m : Nat} {gV : List V → List V → List V} {es : List PyData} (d : DoorD) (h : GvD T K ts σ H [.str d.a, .str d.b]) (hk : GvD T K tk σ H es) (ea : es.all isAt = true) (em : es.length = m) (hg : ∀ x : Addr, gV [.ref x, .str d.a, .str d.b] (es.map atV) = [.ref x, .str d.a, .str d.b, oV d.key, .bl d.both, .int d.cost])
    (ok : okD d = true) : Gv T (tMakeK CD 2 m (spDoor CD) gV E0 ts tk) σ H (isO CD d) := ⟨fun H1 g Q q => h.run H1 g _ fun vs H2 g2 dd => hk.run H2 (g.trans g2) _ fun zs H3 g3 de => by
  have ev := dp_atoms (by rfl) dd
  have ez := dp_atoms ea de
  subst ev
  subst ez
  refine ⟨rfl, by rw [List.length_map]; exact em, fun x dx nx nd ne => ⟨x, dx, d, hg x, upd_same, okD_ok ok, fun H' kp ex => ⟨rfl, q _ _ (g2.trans (g3.trans (Gw.of (Same.made nx nd kp)))) ⟨x, rfl, ⟨dx, ex⟩, okD_ok ok⟩⟩⟩⟩⟩
theorem gv_persK {ts tk : TA} {m : Nat} {gV : List V → List V → List V} {es : List PyData} (p : PersonD) (h : GvD T K ts σ H [.str p.a]) (hk : GvD T K tk σ H es) (em : es.length = m)
    (hg : ∀ {H : Hp} {zs : List V} (x : Addr), DpAll K H zs es → ∃ t1 t2 t3, gV [.ref x, .str p.a] zs = [.ref x, .str p.a, .ref t1, .ref t2, .ref t3] ∧ SqT K H t1 (p.carried.map V.str) ∧ SqT K H t2 (p.needs.map V.str) ∧ SqT K H t3 (p.shuns.map V.str))
    (ok : okP p = true) : Gv T (tMakeK CP 1 m (spPerson K CP) gV E0 ts tk) σ H (isP K CP p) := ⟨fun H1 g Q q => h.run H1 g _ fun vs H2 g2 dd => hk.run H2 (g.trans g2) _ fun zs H3 g3 de => by
  have ev := dp_atoms (by rfl) dd
  subst ev
  refine ⟨rfl, by rw [dpAll_len de]; exact em, fun x dx nx nd ne => ?_⟩
  obtain ⟨t1, t2, t3, e, h1, h2, h3⟩ := hg x de
  have sm : Same H3 (upd (upd H3 dx (.own x)) x (.ins CP dx [])) := Same.up (same_new nd) nx
  refine ⟨x, dx, t1, t2, t3, p, e, upd_same, okP_ok ok, Same.tup sm h1, Same.tup sm h2, Same.tup sm h3, fun H' kp ex => ⟨rfl, ?_⟩⟩
  have s' : Same H3 H' := Same.made nx nd kp
  exact q _ _ (g2.trans (g3.trans (Gw.of s'))) ⟨x, rfl, ⟨dx, t1, t2, t3, ex, Same.tup s' h1, Same.tup s' h2, Same.tup s' h3⟩, okP_ok ok⟩⟩
theorem gv_pers0 {ts : TA} (p : PersonD) (eE : EmT K E) (h : GvD T K ts σ H [.str p.a]) (e : p.carried = [] ∧ p.needs = [] ∧ p.shuns = [] := by exact ⟨rfl, rfl, rfl⟩) (ok : okP p = true := by decide +kernel) : Gv T (tMake CP (spPerson K CP) [.ref E.1, .ref E.2.1, .ref E.2.2] E0 ts) σ H (isP K CP p) := ⟨fun H1 g Q q => h.run H1 g _ fun vs H2 g2 dd => by
  have ev := dp_atoms (by rfl) dd
  subst ev
  intro x dx nx nd ne
  obtain ⟨e1, e2, e3⟩ := e
  refine ⟨x, dx, E.1, E.2.1, E.2.2, p, rfl, upd_same, okP_ok ok, by rw [e1]; exact (eE _).1, by rw [e2]; exact (eE _).2.1, by rw [e3]; exact (eE _).2.2, fun H' kp ex => ⟨rfl, q _ _ (g2.trans (Gw.of (Same.made nx nd kp))) ⟨x, rfl, ⟨dx, E.1, E.2.1, E.2.2, ex, by rw [e1]; exact (eE _).1, by rw [e2]; exact (eE _).2.1, by rw [e3]; exact (eE _).2.2⟩, okP_ok ok⟩⟩⟩⟩
theorem pg_c {p : PersonD} (eE : EmT K E) (e : p.needs = [] ∧ p.shuns = []) {H : Hp} {zs : List V} (x : Addr) (h : DpAll K H zs [.tuple (p.carried.map PyData.str)]) : ∃ t1 t2 t3, gA [.ref x, .str p.a] [.ref E.2.1, .ref E.2.2] zs = [.ref x, .str p.a, .ref t1, .ref t2, .ref t3] ∧ SqT K H t1 (p.carried.map V.str) ∧ SqT K H t2 (p.needs.map V.str) ∧ SqT K H t3 (p.shuns.map V.str) := by
  cases h with
  | cons h r =>
    cases r
    obtain ⟨t, rfl, ht⟩ := dp_tup_inv h
    exact ⟨t, E.2.1, E.2.2, rfl, ht, by rw [e.1]; exact (eE _).2.1, by rw [e.2]; exact (eE _).2.2⟩
theorem pg_n {p : PersonD} (eE : EmT K E) (e : p.carried = [] ∧ p.shuns = []) {H : Hp} {zs : List V} (x : Addr) (h : DpAll K H zs [.tuple (p.needs.map PyData.str)]) : ∃ t1 t2 t3, gD [.ref x, .str p.a] [.ref E.1, .ref E.2.2] zs = [.ref x, .str p.a, .ref t1, .ref t2, .ref t3] ∧ SqT K H t1 (p.carried.map V.str) ∧ SqT K H t2 (p.needs.map V.str) ∧ SqT K H t3 (p.shuns.map V.str) := by
  cases h with
  | cons h r =>
    cases r
    obtain ⟨t, rfl, ht⟩ := dp_tup_inv h
    exact ⟨E.1, t, E.2.2, rfl, by rw [e.1]; exact (eE _).1, ht, by rw [e.2]; exact (eE _).2.2⟩
theorem pg_s {p : PersonD} (eE : EmT K E) (e : p.carried = [] ∧ p.needs = []) {H : Hp} {zs : List V} (x : Addr) (h : DpAll K H zs [.tuple (p.shuns.map PyData.str)]) : ∃ t1 t2 t3, gB [.ref x, .str p.a] [.ref E.1, .ref E.2.1] zs = [.ref x, .str p.a, .ref t1, .ref t2, .ref t3] ∧ SqT K H t1 (p.carried.map V.str) ∧ SqT K H t2 (p.needs.map V.str) ∧ SqT K H t3 (p.shuns.map V.str) := by
  cases h with
  | cons h r =>
    cases r
    obtain ⟨t, rfl, ht⟩ := dp_tup_inv h
    exact ⟨E.1, E.2.1, t, rfl, by rw [e.1]; exact (eE _).1, by rw [e.2]; exact (eE _).2.1, ht⟩
theorem pg_ns {p : PersonD} (eE : EmT K E) (e : p.carried = []) {H : Hp} {zs : List V} (x : Addr) (h : DpAll K H zs [.tuple (p.needs.map PyData.str), .tuple (p.shuns.map PyData.str)]) : ∃ t1 t2 t3, gB [.ref x, .str p.a] [.ref E.1] zs = [.ref x, .str p.a, .ref t1, .ref t2, .ref t3] ∧ SqT K H t1 (p.carried.map V.str) ∧ SqT K H t2 (p.needs.map V.str) ∧ SqT K H t3 (p.shuns.map V.str) := by
  cases h with
  | cons h r =>
    cases r with
    | cons h' r =>
      cases r
      obtain ⟨t, rfl, ht⟩ := dp_tup_inv h
      obtain ⟨t', rfl, ht'⟩ := dp_tup_inv h'
      exact ⟨E.1, t, t', rfl, by rw [e]; exact (eE _).1, ht, ht'⟩
/-! ### buildings -/
abbrev keyL (K : PySem.W.Frag) (b : BldD) : List (Str × MP) := b.keys.map fun q => (q.1, isD K (.str q.2))
abbrev doorL (CD : Addr) (b : BldD) : List (Str × MP) := b.doors.map fun q => (q.1, isO CD q.2)
abbrev persL (K : PySem.W.Frag) (CP : Addr) (b : BldD) : List (Str × MP) := b.people.map fun q => (q.1, isP K CP q.2)
theorem gv_bld {ts : TA} (b : BldD) (h : GvA T ts σ H [isD K (.tuple (b.rooms.map PyData.str)), isF (keyL K b), isF (doorL CD b), isF (persL K CP b)]) (ok : b.ok) : Gv T (tMake CB (spBld K CD CP CB) [] E0 ts) σ H (isB K CD CP CB b) := ⟨fun H1 g Q q => h.run H1 g _ fun vs H2 g2 as => by
  obtain ⟨v1, v2, v3, v4, rfl, a1, ⟨k, ok1, kvs, e2, h2, t2⟩, ⟨d, od, dvs, e3, h3, t3⟩, ⟨p, op, pvs, e4, h4, t4⟩⟩ := all4 as
  obtain ⟨r, rfl, hr⟩ := dp_tup_inv a1
  subst e2
  subst e3
  subst e4
  intro x dx nx nd ne
  have sm : Same H2 (upd (upd H2 dx (.own x)) x (.ins CB dx [])) := Same.up (same_new nd) nx
  refine ⟨x, dx, r, k, d, p, b, ok1, od, op, kvs, dvs, pvs, rfl, upd_same, ok, Same.tup sm hr, sm _ _ h2, tab_of (f := fun z => isD K (.str z)) (fun v a q => dp_str q) t2, sm _ _ h3, tab_of (f := isO CD) (fun v a q => doorR.same sm _ _ q) t3, sm _ _ h4, tab_of (f := isP K CP) (fun v a q => persR.same sm _ _ q) t4, fun H' kp hb => ⟨rfl, q _ _ (g2.trans (Gw.of (Same.made nx nd kp))) ⟨x, rfl, hb⟩⟩⟩⟩
theorem b_ins {b : BldD} {m : Str} (hm : ∀ r k dn dd pn pd, (bldFs r k dn dd pn pd).lookup m = none) {H : Hp} {v : V} (h : (isB K CD CP CB b).p H v) : ∃ a dx fs, v = .ref a ∧ H a = some (.ins CB dx fs) ∧ fs.lookup m = none := by
  obtain ⟨x, rfl, ⟨dx, r, k, dn, dd, pn, pd, ok, od, op, kvs, ds, ps, I⟩, _⟩ := h
  exact ⟨x, dx, _, rfl, I.ob, hm ..⟩
theorem gv_reach {to tn tl : TE} {b : BldD} {n : Str} {p : PersonD} {ls : List Str} (o : Gv T to σ H (isB K CD CP CB b)) (an : Gv T tn σ H (isD K (.str n))) (al : Gv T tl σ H (isK CL ls)) (hn : b.people.lookup n = some p := by rfl) (sub : ∀ z ∈ ls, z ∈ b.doors.map (·.1) := by decide +kernel) (few : ls.length ≤ 1000 := by decide +kernel) :
    Gv T (tMeth CB "reach" (spReach K CD CP CB CL) [] E0 to (tCons tn (tCons tl tNil))) σ H (isD K (.list ((reachR b p ls).map PyData.str))) :=
  gv_meth o (ga_cons an (ga_cons al ga_nil)) (b_ins fun _ _ _ _ _ _ => rfl) fun H1 v vs g hb as Q q => by
    obtain ⟨v1, v2, rfl, a1, z, e2, hz⟩ := all2 as
    obtain ⟨x, rfl, hx⟩ := hb
    have a1 := dp_str a1
    subst a1
    subst e2
    refine ⟨x, z, b, n, p, ls, rfl, hx, hn, hz, few, sub, fun H' m g' s' nm hg em => q _ _ (Gw.of s') ?_⟩
    have ef : b.rooms.filter g' = reachR b p ls := List.filter_congr fun z _ => by
      rw [Bool.eq_iff_iff, hg, decide_eq_true_eq, mem_reachL hx.ok]
    rw [← ef]
    exact .lst (.inl (.inl em)) (dp_strs _)
theorem gv_right {to tl : TE} {b : BldD} {ls : List Str} (o : Gv T to σ H (isB K CD CP CB b)) (al : Gv T tl σ H (isK CL ls)) (sub : ∀ z ∈ ls, z ∈ b.doors.map (·.1) := by decide +kernel) (few : ls.length ≤ 1000 := by decide +kernel) :
    Gv T (tMeth CB "is_right" (spRight K CD CP CB CL) [] E0 to (tCons tl tNil)) σ H (isD K (.bool (rightB b ls))) :=
  gv_meth o (ga_cons al ga_nil) (b_ins fun _ _ _ _ _ _ => rfl) fun H1 v vs g hb as Q q => by
    obtain ⟨v2, rfl, z, e2, hz⟩ := all1 as
    obtain ⟨x, rfl, hx⟩ := hb
    subst e2
    refine ⟨x, z, b, ls, rfl, hx, hz, few, sub, fun H' c s' hc => q _ _ (Gw.of s') ?_⟩
    have : c = rightB b ls := by rw [Bool.eq_iff_iff, hc, right_iff hx.ok]; rfl
    rw [this]
    exact .bl _
theorem gv_price {to tl : TE} {b : BldD} {ls : List Str} (o : Gv T to σ H (isB K CD CP CB b)) (al : Gv T tl σ H (isK CL ls)) (sub : ∀ z ∈ ls, z ∈ b.doors.map (·.1) := by decide +kernel) (few : ls.length ≤ 1000 := by decide +kernel) :
    Gv T (tMeth CB "price" (spPrice K CD CP CB CL) [] E0 to (tCons tl tNil)) σ H (isD K (.int (priceOf b ls))) :=
  gv_meth o (ga_cons al ga_nil) (b_ins fun _ _ _ _ _ _ => rfl) fun H1 v vs g hb as Q q => by
    obtain ⟨v2, rfl, z, e2, hz⟩ := all1 as
    obtain ⟨x, rfl, hx⟩ := hb
    subst e2
    exact ⟨x, z, b, ls, rfl, hx, hz, few, sub, fun H' s' => q _ _ (Gw.of s') (.int _)⟩
/-! ### trails and doubts -/
theorem gv_isTrail {tb tn tl tt : TE} {b : BldD} {n : Str} {p : PersonD} {ls tr : List Str} (o : Gv T tb σ H (isB K CD CP CB b)) (an : Gv T tn σ H (isD K (.str n))) (al : Gv T tl σ H (isK CL ls)) (at_ : Gv T tt σ H (isD K (.tuple (tr.map PyData.str)))) (hn : b.people.lookup n = some p) (sub : ∀ z ∈ ls, z ∈ b.doors.map (·.1)) (few : ls.length ≤ 1000) (subt : ∀ z ∈ tr, z ∈ b.doors.map (·.1)) (fewt : tr.length ≤ 1000) :
    Gv T (tCall (spIsTrail K CD CP CB CL) [] E0 (tCons tb (tCons tn (tCons tl (tCons tt tNil))))) σ H (isD K (.bool (roomsOf b p ls tr).isSome)) :=
  gv_call (ga_cons o (ga_cons an (ga_cons al (ga_cons at_ ga_nil)))) fun H1 vs g as Q q => by
    obtain ⟨v0, v1, v2, v3, rfl, ⟨x, e0, hx⟩, a1, ⟨z, e2, hz⟩, a3⟩ := all4 as
    have a1 := dp_str a1
    subst a1
    subst e0
    subst e2
    obtain ⟨t, rfl, ht⟩ := dp_tup_inv a3
    exact ⟨x, z, t, b, n, p, ls, tr, rfl, hx, hn, hz, few, sub, ht, fewt, subt, fun H' s' => q _ _ (Gw.of s') (.bl _)⟩
theorem gv_isComp {tb tn tl tt : TE} {b : BldD} {n : Str} {p : PersonD} {ls tr : List Str} (o : Gv T tb σ H (isB K CD CP CB b)) (an : Gv T tn σ H (isD K (.str n))) (al : Gv T tl σ H (isK CL ls)) (at_ : Gv T tt σ H (isD K (.tuple (tr.map PyData.str)))) (hn : b.people.lookup n = some p) (sub : ∀ z ∈ ls, z ∈ b.doors.map (·.1)) (few : ls.length ≤ 1000) (subt : ∀ z ∈ tr, z ∈ b.doors.map (·.1)) (fewt : tr.length ≤ 1000) :
    Gv T (tCall (spIsComp K CD CP CB CL) [] E0 (tCons tb (tCons tn (tCons tl (tCons tt tNil))))) σ H (isD K (.bool (completeOf b p ls tr))) :=
  gv_call (ga_cons o (ga_cons an (ga_cons al (ga_cons at_ ga_nil)))) fun H1 vs g as Q q => by
    obtain ⟨v0, v1, v2, v3, rfl, ⟨x, e0, hx⟩, a1, ⟨z, e2, hz⟩, a3⟩ := all4 as
    have a1 := dp_str a1
    subst a1
    subst e0
    subst e2
    obtain ⟨t, rfl, ht⟩ := dp_tup_inv a3
    exact ⟨x, z, t, b, n, p, ls, tr, rfl, hx, hn, hz, few, sub, ht, fewt, subt, fun H' s' => q _ _ (Gw.of s') (.bl _)⟩
theorem gv_trailOf {tb tn tl : TE} {b : BldD} {n : Str} {p : PersonD} {ls : List Str} (o : Gv T tb σ H (isB K CD CP CB b)) (an : Gv T tn σ H (isD K (.str n))) (al : Gv T tl σ H (isK CL ls)) (hn : b.people.lookup n = some p := by rfl) (sub : ∀ z ∈ ls, z ∈ b.doors.map (·.1) := by decide +kernel) (few : ls.length ≤ 1000 := by decide +kernel) :
    Gv T (tCall (spTrailOf K CD CP CB CL) [] E0 (tCons tb (tCons tn (tCons tl tNil)))) σ H (isD K (.tuple ((trailOf b p ls).map PyData.str))) :=
  gv_call (ga_cons o (ga_cons an (ga_cons al ga_nil))) fun H1 vs g as Q q => by
    obtain ⟨v0, v1, v2, rfl, ⟨x, e0, hx⟩, a1, z, e2, hz⟩ := all3 as
    have a1 := dp_str a1
    subst a1
    subst e0
    subst e2
    exact ⟨x, z, b, n, p, ls, rfl, hx, hn, hz, few, sub, fun H' t s' ht => q _ _ (Gw.of s') (.tup ht (dp_strs _))⟩
def dvD (d : Dv) : PyData := .tuple [.str (wordOf d.1), .str d.2.1, .tuple (d.2.2.map PyData.str)]
theorem dbt_dp {H : Hp} {v : V} {d : Dv} (h : Dp K H v (dvD d)) : ∃ a, v = .ref a ∧ DbtA K H (a, d) := by
  cases h with
  | tup h r =>
    cases r with
    | cons h1 r =>
      cases r with
      | cons h2 r =>
        cases r with
        | cons h3 r =>
          cases r
          cases h1
          cases h2
          obtain ⟨t, rfl, ht⟩ := dp_tup_inv h3
          exact ⟨_, rfl, ⟨t, h, ht⟩⟩
def okV (b : BldD) (d : Dv) : Bool := (b.people.lookup d.2.1).isSome && decide (d.2.2.length ≤ 60) && d.2.2.all fun z => decide (z ∈ b.doors.map (·.1))
theorem okV_ok {b : BldD} {d : Dv} (h : okV b d = true) : OkV b d := by
  unfold okV at h
  simp only [Bool.and_eq_true, decide_eq_true_eq, List.all_eq_true] at h
  obtain ⟨⟨h1, h2⟩, h3⟩ := h
  obtain ⟨p, hp⟩ := Option.isSome_iff_exists.mp h1
  exact ⟨p, ⟨hp, by omega, h3⟩, h2⟩
theorem gv_isDbt {tb td : TE} {b : BldD} {d : Dv} (o : Gv T tb σ H (isB K CD CP CB b)) (ad : Gv T td σ H (isD K (dvD d))) (ok : okV b d = true) :
    Gv T (tCall (spIsDbt K CD CP CB) [] E0 (tCons tb (tCons td tNil))) σ H (isD K (.bool (dbtV b d))) :=
  gv_call (ga_cons o (ga_cons ad ga_nil)) fun H1 vs g as Q q => by
    obtain ⟨v0, v1, rfl, ⟨x, e0, hx⟩, a1⟩ := all2 as
    subst e0
    obtain ⟨a, rfl, ha⟩ := dbt_dp a1
    obtain ⟨p, h1, h2⟩ := okV_ok ok
    refine ⟨x, a, b, d.1, d.2.1, p, d.2.2, rfl, hx, ha, h1, h2, fun H' s' => q _ _ (Gw.of s') ?_⟩
    unfold dbtV
    rw [h1.1]
    exact .bl _
theorem gv_rules {tb td tl : TE} {b : BldD} {d : Dv} {ls : List Str} (o : Gv T tb σ H (isB K CD CP CB b)) (ad : Gv T td σ H (isD K (dvD d))) (al : Gv T tl σ H (isK CL ls)) (ok : okV b d = true) (sub : ∀ z ∈ ls, z ∈ b.doors.map (·.1)) (few : ls.length ≤ 1000) :
    Gv T (tCall (spRules K CD CP CB CL) [] E0 (tCons tb (tCons td (tCons tl tNil)))) σ H (isD K (.bool (dbtV b d && strV ls d))) :=
  gv_call (ga_cons o (ga_cons ad (ga_cons al ga_nil))) fun H1 vs g as Q q => by
    obtain ⟨v0, v1, v2, rfl, ⟨x, e0, hx⟩, a1, z, e2, hz⟩ := all3 as
    subst e0
    subst e2
    obtain ⟨a, rfl, ha⟩ := dbt_dp a1
    obtain ⟨p, h1, h2⟩ := okV_ok ok
    refine ⟨x, a, z, b, d.1, d.2.1, p, d.2.2, ls, rfl, hx, ha, h1, h2, hz, few, sub, fun H' s' => q _ _ (Gw.of s') ?_⟩
    unfold dbtV
    rw [h1.1]
    exact .bl _
end
end Gv
set_option Elab.async false
set_option linter.all false
set_option maxRecDepth 100000
set_option maxHeartbeats 4000000
namespace Gv
open PySem PySem.Spec PyProof.Rows L2 TxS LkO Lk LkG LamX LkS Ld
/-! ### answers -/
def isCh (K : PySem.W.Frag) (CK CL : Addr) (b : BldD) (ls : List Str) : MP := ⟨fun H v => ∃ y ds, v = .ref y ∧ LkgAt K CK CL H y ls (bestTr b ls) ds ∧ GoodDs b ds ∧ Shown b ls (bestTr b ls) ds ∧ ls.length ≤ 8 ∧ ∀ z ∈ ls, z ∈ b.doors.map (fun q : Str × DoorD => q.1), fun e ⟨y, ds, h1, h2, h3⟩ => ⟨y, ds, h1, h2.extN e, h3⟩⟩
def isNo0 (K : PySem.W.Frag) (CN : Addr) (b : BldD) : MP := ⟨fun H v => ∃ y ds, v = .ref y ∧ NoAt K CN H y ds ∧ GoodDs b ds ∧ ∀ l ∈ byPrice b, (ds.any fun d => strV l d.2) = true, fun e ⟨y, ds, h1, h2, h3⟩ => ⟨y, ds, h1, h2.extN e, h3⟩⟩
def isLkg (K : PySem.W.Frag) (CK CL : Addr) (ls : List Str) (trs : List (Str × List Str)) (dvs : List Dv) : MP := ⟨fun H v => ∃ y ds, v = .ref y ∧ LkgAt K CK CL H y ls trs ds ∧ ds.map (·.2) = dvs, fun e ⟨y, ds, h1, h2, h3⟩ => ⟨y, ds, h1, h2.extN e, h3⟩⟩
def isNo (K : PySem.W.Frag) (CN : Addr) (dvs : List Dv) : MP := ⟨fun H v => ∃ y ds, v = .ref y ∧ NoAt K CN H y ds ∧ ds.map (·.2) = dvs, fun e ⟨y, ds, h1, h2, h3⟩ => ⟨y, ds, h1, h2.extN e, h3⟩⟩
def isTr (K : PySem.W.Frag) (trs : List (Str × List Str)) : MP := ⟨fun H v => ∃ t kvs, v = .ref t ∧ Rd H t (.dK kvs) ∧ Tab (trR K H) kvs trs, fun e ⟨t, kvs, h1, h2, h3⟩ => ⟨t, kvs, h1, by
  rcases h2 with h | ⟨o, h⟩
  · exact .inl (e _ _ h (fun _ z => by cases z))
  · exact .inr ⟨o, e _ _ h (fun _ z => by cases z)⟩, h3.mono (fun v a ⟨u, e1, q⟩ => ⟨u, e1, (NX.ofT e).tup q⟩)⟩⟩
abbrev trL (K : PySem.W.Frag) (trs : List (Str × List Str)) : List (Str × MP) := trs.map fun q => (q.1, isD K (.tuple (q.2.map PyData.str)))
theorem tr_of {K : PySem.W.Frag} {trs : List (Str × List Str)} {H : Hp} {v : V} (h : (isDt (trL K trs)).p H v) : (isTr K trs).p H v := by
  obtain ⟨d, kvs, rfl, h1, h2⟩ := h
  exact ⟨d, kvs, rfl, .inl h1, tab_of (f := fun tr : List Str => isD K (.tuple (tr.map PyData.str))) (fun v a q => dp_tup_inv q) h2⟩
theorem dvs_of {K : PySem.W.Frag} {H : Hp} : ∀ {vs : List V} {dvs : List Dv}, DpAll K H vs (dvs.map dvD) → ∃ ds : List (Addr × Dv), vs = ds.map (fun d => V.ref d.1) ∧ ds.map (·.2) = dvs ∧ ∀ d ∈ ds, DbtA K H d
  | _, [], h => by
    cases h
    exact ⟨[], rfl, rfl, fun _ z => by cases z⟩
  | _, d :: dvs, h => by
    cases h with
    | cons h r =>
      obtain ⟨a, rfl, ha⟩ := dbt_dp h
      obtain ⟨ds, rfl, rfl, hd⟩ := dvs_of r
      refine ⟨(a, d) :: ds, rfl, rfl, fun x hx => ?_⟩
      rcases List.mem_cons.mp hx with e | e
      · rw [e]
        exact ha
      · exact hd x e
section
variable {K : PySem.W.Frag} {H : Hp} {σ : L2.St} {CD CP CB CL CK CN PT : Addr} {E : A3}
theorem gv_cheap {tb : TE} {b : BldD} (c : List Int) (ms : List Str) (o : Gv (tabT PT) tb σ H (isB K CD CP CB b)) (hT : Tabs (tabT PT) H) (lb : leastB b c = true) (ee : pk b c = ms := by rfl) : Gv (tabT PT) (tCall (spCheap K CD CP CB CL CK CN PT) [] E0 (tCons tb tNil)) σ H (isCh K CK CL b (srt ms)) :=
  gv_call (ga_cons o ga_nil) fun H1 vs g as Q q => by
    obtain ⟨v, rfl, x, rfl, hx⟩ := all1 as
    refine ⟨x, b, rfl, hx, g.2 hT, fun H' y i ls ds eN tb hy hi hR good str => ?_, fun H' y ds eN tb hy good str => ?_⟩
    · have no : ∀ l ∈ (byPrice b).take i, ¬ RightS b l := fun l hl => by
        obtain ⟨d, hd, hs⟩ := List.any_eq_true.mp (str l hl)
        exact struck_wrong hx.ok (good.2 d hd).2 hs
      have el := least_B hx.ok lb hi hR no
      rw [ee] at el
      subst el
      obtain ⟨f8, sub⟩ := byPrice_ok hx.ok (List.mem_of_getElem? hi)
      exact q _ _ ⟨eN, fun _ => tb⟩ ⟨y, ds, rfl, hy, good, sound_shown hx.ok hi hR good str, f8, sub⟩
    · unfold leastB at lb
      simp only [Bool.and_eq_true, decide_eq_true_eq] at lb
      obtain ⟨⟨h1, h2⟩, _⟩ := lb
      obtain ⟨d, hd, hs⟩ := List.any_eq_true.mp (str _ (mem_byPrice.mpr ⟨c, h1, rfl⟩))
      exact absurd ((right_same (mem_srt _)).mpr ((right_iff hx.ok).mp h2)) (struck_wrong hx.ok (good.2 d hd).2 hs)
theorem gv_cheap0 {tb : TE} {b : BldD} (o : Gv (tabT PT) tb σ H (isB K CD CP CB b)) (hT : Tabs (tabT PT) H) (wb : wrongB b = true) : Gv (tabT PT) (tCall (spCheap K CD CP CB CL CK CN PT) [] E0 (tCons tb tNil)) σ H (isNo0 K CN b) :=
  gv_call (ga_cons o ga_nil) fun H1 vs g as Q q => by
    obtain ⟨v, rfl, x, rfl, hx⟩ := all1 as
    refine ⟨x, b, rfl, hx, g.2 hT, fun H' y i ls ds eN tb hy hi hR good str => ?_, fun H' y ds eN tb hy good str => ?_⟩
    · exact absurd hR (wrong_B hx.ok wb (List.mem_of_getElem? hi))
    · exact q _ _ ⟨eN, fun _ => tb⟩ ⟨y, ds, rfl, hy, good, str⟩
theorem gv_locks {T : List (Addr × Str)} {t : TE} {b : BldD} {ls : List Str} (h : Gv T t σ H (isCh K CK CL b ls)) (cl : Cls K CK) (na : NoAttr K CK "locks") : Gv T (tFld K t "locks") σ H (isK CL ls) := ⟨fun H1 g Q q => h.run H1 g _ fun v H2 g2 a => by
  obtain ⟨y, ds, rfl, ⟨⟨dx, z, t, l, kvs, h1, h2, _⟩, _⟩, _⟩ := a
  exact ⟨y, CK, dx, _, _, rfl, h1, cl, na, rfl, q _ _ g2 ⟨z, rfl, h2⟩⟩⟩
theorem lkg_ins {m : Str} {ls : List Str} {trs : List (Str × List Str)} {ds : List (Addr × Dv)} {y : Addr} {H : Hp} (hm : ∀ z t l, (lkgFs z t l).lookup m = none) (h : LkgAt K CK CL H y ls trs ds) : ∃ dx fs, H y = some (.ins CK dx fs) ∧ fs.lookup m = none := by
  obtain ⟨⟨dx, z, t, l, kvs, h1, _⟩, _⟩ := h
  exact ⟨dx, _, h1, hm ..⟩
theorem no_ins {ds : List (Addr × Dv)} {y : Addr} {H : Hp} (h : NoAt K CN H y ds) : ∃ dx fs, H y = some (.ins CN dx fs) ∧ fs.lookup ("shows" : Str) = none := by
  obtain ⟨⟨dx, l, h1, _⟩, _⟩ := h
  exact ⟨dx, _, h1, rfl⟩
theorem gv_chShows {to tb : TE} {b : BldD} {ls : List Str} (o : Gv (tabT PT) to σ H (isCh K CK CL b ls)) (a : Gv (tabT PT) tb σ H (isB K CD CP CB b)) (hT : Tabs (tabT PT) H) : Gv (tabT PT) (tMeth CK "shows" (spKShows K CD CP CB CL CK PT) [] E0 to (tCons tb tNil)) σ H (isD K (.bool true)) :=
  gv_meth o (ga_cons a ga_nil) (fun {H v} h => by
    obtain ⟨y, ds, rfl, hy, _⟩ := h
    obtain ⟨dx, fs, h1, h2⟩ := lkg_ins (m := "shows") (fun _ _ _ => rfl) hy
    exact ⟨y, dx, fs, rfl, h1, h2⟩) fun H1 v vs g hv as Q q => by
    obtain ⟨w, rfl, x, rfl, hx⟩ := all1 as
    obtain ⟨y, ds, rfl, hy, good, sh, f8, sub⟩ := hv
    refine ⟨y, x, b, ls, _, ds, rfl, hy, hx, g.2 hT, by omega, sub, fun p hp => ⟨_, best_look hx.ok hp, ?_, ?_⟩, by have := good.1; omega, fun d hd => (good.2 d hd).1, fun H' c eN tb hc => q _ _ ⟨eN, fun _ => tb⟩ ?_⟩
    · have h : (trailOf b p.2 ls).length ≤ 6 := (trail_sub 6 [p.2.a]).1
      omega
    · exact (trail_sub 6 [p.2.a]).2
    · have : c = true := hc.mpr sh
      rw [this]
      exact .bl true
theorem gv_mkLkg {T : List (Addr × Str)} {tl tt td : TE} {ls : List Str} {trs : List (Str × List Str)} {dvs : List Dv} (al : Gv T tl σ H (isK CL ls)) (at_ : Gv T tt σ H (isTr K trs)) (ad : Gv T td σ H (isD K (.list (dvs.map dvD)))) : Gv T (tMake CK (spKIn K CK) [] E0 (tCons tl (tCons tt (tCons td tNil)))) σ H (isLkg K CK CL ls trs dvs) := ⟨fun H1 g Q q => (ga_cons al (ga_cons at_ (ga_cons ad ga_nil))).run H1 g _ fun vs H2 g2 as => by
  obtain ⟨v0, v1, v2, rfl, ⟨z, rfl, hz⟩, ⟨t, kvs, rfl, ht, tb⟩, a2⟩ := all3 as
  cases a2 with
  | lst hl r =>
    obtain ⟨ds, rfl, rfl, hd⟩ := dvs_of r
    intro y dy ny ndy ney
    have b13 : Same H2 (upd (upd H2 dy (.own y)) y (.ins CK dy [])) := (same_new ndy).trans (same_new (by rw [upd_ne (Ne.symm ney)]; exact ny))
    refine ⟨y, dy, z, t, _, kvs, _, rfl, upd_same, ?_, b13.seq hl, fun H' t' l' b14 f1 f2 f3 n1 n2 => ⟨rfl, ?_⟩⟩
    · rcases ht with h | ⟨o, h⟩
      · exact .inl (b13 _ _ h)
      · exact .inr ⟨o, b13 _ _ h⟩
    · have s13 : Same H2 H' := fun b o e => b14 b o (b13 b o e) (ne_of_none e ny)
      exact q _ _ (g2.trans (Gw.of s13)) ⟨y, ds, rfl, ⟨⟨dy, z, t', l', kvs, f1, hz.same s13, f2, tb.mono (fun v a ⟨u, e, q⟩ => ⟨u, e, Same.tup s13 q⟩), f3⟩, fun d h => (hd d h).same s13⟩, rfl⟩⟩
theorem gv_kShows {to tb : TE} {b : BldD} {ls : List Str} {trs : List (Str × List Str)} {dvs : List Dv} (o : Gv (tabT PT) to σ H (isLkg K CK CL ls trs dvs)) (a : Gv (tabT PT) tb σ H (isB K CD CP CB b)) (hT : Tabs (tabT PT) H) (few : ls.length ≤ 1000) (sub : ∀ z ∈ ls, z ∈ b.doors.map (·.1))
    (okt : (b.people.all fun q => match trs.lookup q.1 with | some tr => decide (tr.length ≤ 1000) && tr.all fun z => decide (z ∈ b.doors.map (·.1)) | none => false) = true) (fd : dvs.length ≤ 1000) (okd : dvs.all (okV b) = true) : Gv (tabT PT) (tMeth CK "shows" (spKShows K CD CP CB CL CK PT) [] E0 to (tCons tb tNil)) σ H (isD K (.bool (shownB b ls trs dvs))) :=
  gv_meth o (ga_cons a ga_nil) (fun {H v} h => by
    obtain ⟨y, ds, rfl, hy, _⟩ := h
    obtain ⟨dx, fs, h1, h2⟩ := lkg_ins (m := "shows") (fun _ _ _ => rfl) hy
    exact ⟨y, dx, fs, rfl, h1, h2⟩) fun H1 v vs g hv as Q q => by
    obtain ⟨w, rfl, x, rfl, hx⟩ := all1 as
    obtain ⟨y, ds, rfl, hy, ed⟩ := hv
    subst ed
    have ok : ∀ p ∈ b.people, ∃ tr, trs.lookup p.1 = some tr ∧ tr.length ≤ 1000 ∧ ∀ z ∈ tr, z ∈ b.doors.map (·.1) := fun p hp => by
      have h := List.all_eq_true.mp okt p hp
      cases e : trs.lookup p.1 with
      | none =>
        rw [e] at h
        cases h
      | some tr =>
        rw [e] at h
        simp only [Bool.and_eq_true, decide_eq_true_eq, List.all_eq_true] at h
        exact ⟨tr, rfl, h.1, h.2⟩
    refine ⟨y, x, b, ls, trs, ds, rfl, hy, hx, g.2 hT, few, sub, ok, by rw [List.length_map] at fd; exact fd, fun d hd => okV_ok (List.all_eq_true.mp okd _ (List.mem_map.mpr ⟨d, hd, rfl⟩)), fun H' c eN tb hc => q _ _ ⟨eN, fun _ => tb⟩ ?_⟩
    have : c = shownB b ls trs (ds.map (·.2)) := by rw [Bool.eq_iff_iff, hc, shown_B hx.ok fun p hp => (ok p hp).imp fun _ h => h.1]
    rw [this]
    exact .bl _
theorem gv_mkNo {T : List (Addr × Str)} {td : TE} {dvs : List Dv} (ad : Gv T td σ H (isD K (.list (dvs.map dvD)))) : Gv T (tMake CN (spNIn K CN) [] E0 (tCons td tNil)) σ H (isNo K CN dvs) := ⟨fun H1 g Q q => (ga_cons ad ga_nil).run H1 g _ fun vs H2 g2 as => by
  obtain ⟨v2, rfl, a2⟩ := all1 as
  cases a2 with
  | lst hl r =>
    obtain ⟨ds, rfl, rfl, hd⟩ := dvs_of r
    intro y dy ny ndy ney
    have b13 : Same H2 (upd (upd H2 dy (.own y)) y (.ins CN dy [])) := (same_new ndy).trans (same_new (by rw [upd_ne (Ne.symm ney)]; exact ny))
    refine ⟨y, dy, _, _, rfl, upd_same, b13.seq hl, fun H' l' b14 f1 f3 n2 => ⟨rfl, ?_⟩⟩
    have s13 : Same H2 H' := fun b o e => b14 b o (b13 b o e) (ne_of_none e ny)
    exact q _ _ (g2.trans (Gw.of s13)) ⟨y, ds, rfl, ⟨⟨dy, l', f1, f3⟩, fun d h => (hd d h).same s13⟩, rfl⟩⟩
theorem gv_nShows {to tb : TE} {b : BldD} {dvs : List Dv} (o : Gv (tabT PT) to σ H (isNo K CN dvs)) (a : Gv (tabT PT) tb σ H (isB K CD CP CB b)) (hT : Tabs (tabT PT) H) (fd : dvs.length ≤ 1000) (okd : dvs.all (okV b) = true) : Gv (tabT PT) (tMeth CN "shows" (spNShows K CD CP CB CN PT) [] E0 to (tCons tb tNil)) σ H (isD K (.bool (noneB b dvs))) :=
  gv_meth o (ga_cons a ga_nil) (fun {H v} h => by
    obtain ⟨y, ds, rfl, hy, _⟩ := h
    obtain ⟨dx, fs, h1, h2⟩ := no_ins hy
    exact ⟨y, dx, fs, rfl, h1, h2⟩) fun H1 v vs g hv as Q q => by
    obtain ⟨w, rfl, x, rfl, hx⟩ := all1 as
    obtain ⟨y, ds, rfl, hy, ed⟩ := hv
    subst ed
    refine ⟨y, x, b, ds, rfl, hy, hx, g.2 hT, by rw [List.length_map] at fd; exact fd, fun d hd => okV_ok (List.all_eq_true.mp okd _ (List.mem_map.mpr ⟨d, hd, rfl⟩)), fun H' c eN tb hc => q _ _ ⟨eN, fun _ => tb⟩ ?_⟩
    have : c = noneB b (ds.map (·.2)) := by rw [Bool.eq_iff_iff, hc, none_B]
    rw [this]
    exact .bl _
theorem gv_no0Shows {to tb : TE} {b : BldD} (o : Gv (tabT PT) to σ H (isNo0 K CN b)) (a : Gv (tabT PT) tb σ H (isB K CD CP CB b)) (hT : Tabs (tabT PT) H) : Gv (tabT PT) (tMeth CN "shows" (spNShows K CD CP CB CN PT) [] E0 to (tCons tb tNil)) σ H (isD K (.bool true)) :=
  gv_meth o (ga_cons a ga_nil) (fun {H v} h => by
    obtain ⟨y, ds, rfl, hy, _⟩ := h
    obtain ⟨dx, fs, h1, h2⟩ := no_ins hy
    exact ⟨y, dx, fs, rfl, h1, h2⟩) fun H1 v vs g hv as Q q => by
    obtain ⟨w, rfl, x, rfl, hx⟩ := all1 as
    obtain ⟨y, ds, rfl, hy, good, str⟩ := hv
    refine ⟨y, x, b, ds, rfl, hy, hx, g.2 hT, by have := good.1; omega, fun d hd => (good.2 d hd).1, fun H' c eN tb hc => q _ _ ⟨eN, fun _ => tb⟩ ?_⟩
    have : c = true := hc.mpr ⟨fun d hd => (good.2 d hd).2, str⟩
    rw [this]
    exact .bl _
/-! ### subscripts, slices, dict(..), isinstance -/
theorem dpAll_ix {H : Hp} {vs : List V} {ds : List PyData} {j : Nat} {d : PyData} (h : DpAll K H vs ds) (e : ds[j]? = some d) : ∃ v, vs[j]? = some v ∧ Dp K H v d := by
  have hl := dpAll_len h
  obtain ⟨hj, _⟩ := List.getElem?_eq_some_iff.mp e
  have hv : vs[j]? = some vs[j] := List.getElem?_eq_getElem (by omega)
  obtain ⟨d', e', q⟩ := dpAll_at h hv
  rw [e] at e'
  cases e'
  exact ⟨_, hv, q⟩
theorem gv_ixT {T : List (Addr × Str)} {t : TE} {ds : List PyData} {j : Nat} {d : PyData} (h : Gv T t σ H (isD K (.tuple ds))) (e : ds[j]? = some d) : Gv T (tOp (rIxT K) t (tC (.int j))) σ H (isD K d) := ⟨fun H1 g Q q => h.run H1 g _ fun v H2 g2 a => by
  cases a with
  | tup h r =>
    obtain ⟨u, hu, hd⟩ := dpAll_ix r e
    exact ⟨_, _, j, u, rfl, rfl, h, atI_nat hu, q _ _ g2 hd⟩⟩
theorem gv_isi {T : List (Addr × Str)} {t : TE} {b : BldD} (h : Gv T t σ H (isNo0 K CN b)) {mg : Str → Option Value} (TN : OwnC K mg CN "NoLocking" noF) : Gv T (tCB (rIsi K) (tCons t (tCons (tC (.ref CN)) tNil))) σ H (isD K (.bool true)) := ⟨fun H1 g Q q => h.run H1 g _ fun v H2 g2 a => by
  obtain ⟨y, ds, rfl, ⟨⟨dx, l, h1, _⟩, _⟩, _⟩ := a
  exact ⟨_, _, _, _, true, rfl, .own CN, .base (.ins h1 TN.cl TN.tyc TN.tyg TN.tyt TN.tym), TN.kit, q _ _ g2 (.bl true)⟩⟩
end
end Gv
set_option Elab.async false
set_option linter.all false
set_option maxRecDepth 100000
set_option maxHeartbeats 4000000
namespace Gv
open PySem PySem.Spec PyProof.Rows L2 TxS LkO Lk LkG LamX LkS Ld
section
variable {T : List (Addr × Str)} {K : PySem.W.Frag} {H : Hp} {σ : L2.St}
theorem gs_for {tl : TE} {g : TG} {tb t2 : TS} {D : Ends} {As : List MP} (S : L2.St → Prop) (h : Gv T tl σ H (isL As)) (s0 : S σ)
    (turn : ∀ (i : Nat) (A : MP) v σ' H', As[i]? = some A → Gw T H H' → S σ' → A.p H' v → ∀ D' : Ends, (∀ σ'' H'', Gw T H' H'' → S σ'' → D'.nx σ'' H'') → g v σ' H' fun σ2 H2 => tb D' σ2 H2)
    (rest : ∀ σ' H', Gw T H H' → S σ' → t2 D σ' H') : tSeq (tFor (iList K tl) g tb) t2 D σ H := h.run H .refl _ fun v H1 g1 a => by
  obtain ⟨l, vs, rfl, e1, e2⟩ := a
  have st : ∀ {H'}, Gw T H1 H' → H' l = some (.lst vs) := fun g => g.1 _ _ e1 (fun _ z => by cases z)
  refine ⟨l, rfl, ⟨_, .inl (.inl e1)⟩, for_it (walk_list (xs := vs)) (fun i σ' H' => Gw T H1 H' ∧ S σ') ⟨.refl, s0⟩ (fun i σ' H' _ hP => .inl (.inl (st hP.1))) (fun i x σ' H' H'' hi hP hY => ?_) (fun σ' H' hP => rest σ' H' (g1.trans hP.1) hP.2)⟩
  obtain ⟨rfl, hx⟩ := hY
  obtain ⟨A, hA, a⟩ := e2.at_ hx
  exact turn i A x σ' _ hA (g1.trans hP.1) hP.2 (A.mono hP.1.1 a) _ fun σ'' H'' g'' s'' => ⟨hP.1.trans g'', s''⟩
/-! ### rows -/
theorem row2 {i j : Nat} {d1 d2 : PyData} {v : V} {Q : L2.St → Hp → Prop} (h : (isD K (.tuple [d1, d2])).p H v) (k : ∀ v1 v2, (isD K d1).p H v1 → (isD K d2).p H v2 → Q ((σ.set i (some v1)).set j (some v2)) H) : gTup K 2 (gCons (gName i) (gCons (gName j) gNil)) v σ H Q := by
  cases h with
  | tup h r =>
    cases r with
    | cons h1 r => cases r with
      | cons h2 r =>
        cases r
        exact ⟨_, _, rfl, h, rfl, _, _, rfl, _, _, rfl, rfl, k _ _ h1 h2⟩
theorem row3 {i j l : Nat} {d1 d2 d3 : PyData} {v : V} {Q : L2.St → Hp → Prop} (h : (isD K (.tuple [d1, d2, d3])).p H v) (k : ∀ v1 v2 v3, (isD K d1).p H v1 → (isD K d2).p H v2 → (isD K d3).p H v3 → Q (((σ.set i (some v1)).set j (some v2)).set l (some v3)) H) : gTup K 3 (gCons (gName i) (gCons (gName j) (gCons (gName l) gNil))) v σ H Q := by
  cases h with
  | tup h r =>
    cases r with
    | cons h1 r => cases r with
      | cons h2 r => cases r with
        | cons h3 r =>
          cases r
          exact ⟨_, _, rfl, h, rfl, _, _, rfl, _, _, rfl, _, _, rfl, rfl, k _ _ _ h1 h2 h3⟩
theorem row4 {i j l m : Nat} {d1 d2 d3 d4 : PyData} {v : V} {Q : L2.St → Hp → Prop} (h : (isD K (.tuple [d1, d2, d3, d4])).p H v) (k : ∀ v1 v2 v3 v4, (isD K d1).p H v1 → (isD K d2).p H v2 → (isD K d3).p H v3 → (isD K d4).p H v4 → Q ((((σ.set i (some v1)).set j (some v2)).set l (some v3)).set m (some v4)) H) : gTup K 4 (gCons (gName i) (gCons (gName j) (gCons (gName l) (gCons (gName m) gNil)))) v σ H Q := by
  cases h with
  | tup h r =>
    cases r with
    | cons h1 r => cases r with
      | cons h2 r => cases r with
        | cons h3 r => cases r with
          | cons h4 r =>
            cases r
            exact ⟨_, _, rfl, h, rfl, _, _, rfl, _, _, rfl, _, _, rfl, _, _, rfl, rfl, k _ _ _ _ h1 h2 h3 h4⟩
theorem row5 {i j l m n : Nat} {d1 d2 d3 d4 d5 : PyData} {v : V} {Q : L2.St → Hp → Prop} (h : (isD K (.tuple [d1, d2, d3, d4, d5])).p H v) (k : ∀ v1 v2 v3 v4 v5, (isD K d1).p H v1 → (isD K d2).p H v2 → (isD K d3).p H v3 → (isD K d4).p H v4 → (isD K d5).p H v5 → Q (((((σ.set i (some v1)).set j (some v2)).set l (some v3)).set m (some v4)).set n (some v5)) H) : gTup K 5 (gCons (gName i) (gCons (gName j) (gCons (gName l) (gCons (gName m) (gCons (gName n) gNil))))) v σ H Q := by
  cases h with
  | tup h r =>
    cases r with
    | cons h1 r => cases r with
      | cons h2 r => cases r with
        | cons h3 r => cases r with
          | cons h4 r => cases r with
            | cons h5 r =>
              cases r
              exact ⟨_, _, rfl, h, rfl, _, _, rfl, _, _, rfl, _, _, rfl, _, _, rfl, _, _, rfl, rfl, k _ _ _ _ _ h1 h2 h3 h4 h5⟩
theorem rowT3 {i j l : Nat} {A B C : MP} {v : V} {Q : L2.St → Hp → Prop} (h : (isT K [A, B, C]).p H v) (k : ∀ v1 v2 v3, A.p H v1 → B.p H v2 → C.p H v3 → Q (((σ.set i (some v1)).set j (some v2)).set l (some v3)) H) : gTup K 3 (gCons (gName i) (gCons (gName j) (gCons (gName l) gNil))) v σ H Q := by
  obtain ⟨a, vs, rfl, h1, h2⟩ := h
  obtain ⟨v1, v2, v3, rfl, a1, a2, a3⟩ := all3 h2
  exact ⟨_, _, rfl, h1, rfl, _, _, rfl, _, _, rfl, _, _, rfl, rfl, k _ _ _ a1 a2 a3⟩
/-- all([e for .. in rows]), each True -/
theorem gv_all {tl te : TE} {g : TG} {vs : List Nat} {As : List MP} (h : Gv T tl σ H (isL As)) (few : As.length ≤ 1000)
    (turn : ∀ (i : Nat) (A : MP) v H' (Kt : VK), As[i]? = some A → Gw T H H' → A.p H' v → (∀ H5, Gw T H' H5 → Kt (.bl true) H5) → g v (wipe σ vs) H' fun σ2 H3 => wipe σ2 vs = wipe σ vs ∧ te σ2 H3 Kt) : Gv T (tCB (rAll K) (tCons (tLc (iList K tl) g tYes te vs) tNil)) σ H (isD K (.bool true)) := ⟨fun H0 g0 Q q => h.run H0 g0 _ fun v H1 g1 a => by
  obtain ⟨l, us, rfl, e1, e2⟩ := a
  refine ⟨l, rfl, ⟨_, .inl (.inl e1)⟩, fun D nD => ?_⟩
  have gx : ∀ {H2 : Hp} {o : List V} {u : List V}, Gw T H1 H2 → H2 D = some (.lst u) → Gw T H1 (upd H2 D (.lst o)) := fun g2 e => ⟨fun b o eb n => by
    rw [upd_ne (ne_of_none eb nD)]
    exact g2.1 _ _ eb n, fun t => tabs_put (g2.2 t) e (fun _ z => by cases z) fun _ z => by cases z⟩
  refine lc_it (walk_list (xs := us)) (fun i H' => Gw T H1 H' ∧ H' D = some (.lst ((List.replicate i true).map V.bl))) ⟨Gw.of (same_new nD), upd_same⟩ (fun i H' _ hP => .inl (.inl (hP.1.1 _ _ e1 (fun _ z => by cases z)))) (fun i x H2 H3 hi hP hY => ?_) (fun H2 hP => ?_)
  · obtain ⟨rfl, hx⟩ := hY
    obtain ⟨A, hA, a⟩ := e2.at_ hx
    refine turn i A x _ _ hA (g0.trans (g1.trans hP.1)) (A.mono hP.1.1 a) fun H5 g5 => ?_
    have e5 := g5.1 _ _ hP.2 (fun _ z => by cases z)
    refine ⟨_, e5, small1000 ?_, gx (hP.1.trans g5) e5, by rw [upd_same, List.replicate_succ', List.map_append]; rfl⟩
    rw [List.length_map, List.length_replicate]
    have := e2.len
    omega
  · refine ⟨D, List.replicate us.length true, rfl, .inl (.inl hP.2), ?_⟩
    have : (List.replicate us.length true).all id = true := List.all_eq_true.mpr fun x hx => by
      rw [List.eq_of_mem_replicate hx]
      rfl
    rw [this]
    exact q _ _ (g1.trans hP.1) (.bl true)⟩
theorem gs_set1 {te : TE} {i : Nat} {A : MP} {D : Ends} (h : Gv T te σ H A) (k : ∀ v H1, Gw T H H1 → A.p H1 v → D.nx (σ.set i (some v)) H1) : tAsg te (gName i) D σ H := h.run H .refl _ k
theorem gs_par {ta : TA} {i j : Nat} {A B : MP} {t2 : TS} {D : Ends} (h : GvA T ta σ H [A, B]) (k : ∀ v w H1, Gw T H H1 → A.p H1 v → B.p H1 w → t2 D ((σ.set i (some v)).set j (some w)) H1) : tSeq (tPar i j ta) t2 D σ H := h.run H .refl _ fun vs H1 g as => by
  obtain ⟨v, u, rfl, a, b⟩ := all2 as
  exact ⟨v, u, rfl, k v u H1 g a b⟩
theorem gs_asg2 {te : TE} {i j : Nat} {d1 d2 : PyData} {t2 : TS} {D : Ends} (h : Gv T te σ H (isD K (.tuple [d1, d2]))) (k : ∀ v w H1, Gw T H H1 → (isD K d1).p H1 v → (isD K d2).p H1 w → t2 D ((σ.set i (some v)).set j (some w)) H1) : tSeq (tAsg te (gTup K 2 (gCons (gName i) (gCons (gName j) gNil)))) t2 D σ H := h.run H .refl _ fun v H1 g a => row2 a fun v1 v2 a1 a2 => k v1 v2 H1 g a1 a2
theorem fl_nil : FirmL [] := fun _ h => by cases h
theorem fl_cons {k : Str} {A : MP} {l : List (Str × MP)} (h : Firm A) (r : FirmL l) : FirmL ((k, A) :: l) := fun q hq => by
  rcases List.mem_cons.mp hq with e | e
  · rw [e]
    exact h
  · exact r q e
theorem fl_snoc {k : Str} {A : MP} {l : List (Str × MP)} (r : FirmL l) (h : Firm A) : FirmL (l ++ [(k, A)]) := fun q hq => by
  rcases List.mem_append.mp hq with e | e
  · exact r q e
  · rw [List.mem_singleton.mp e]
    exact h
theorem gv_add {ta tb : TE} {i j : Int} (h : Gv T ta σ H (isD K (.int i))) (r : Gv T tb σ H (isD K (.int j))) : Gv T (tOp (rI0 fun i j => .int (i + j)) ta tb) σ H (isD K (.int (i + j))) := ⟨fun H1 g Q q => h.run H1 g _ fun v H2 g2 a => r.run H2 (g.trans g2) _ fun u H3 g3 b => ⟨i, j, dp_int a, dp_int b, q _ _ (g2.trans g3) (.int _)⟩⟩
theorem gv_mod {ta tb : TE} {i j : Int} (h : Gv T ta σ H (isD K (.int i))) (r : Gv T tb σ H (isD K (.int j))) (pos : 0 < j := by decide) : Gv T (tOp (rI (fun _ j => 0 < j) fun i j => .int (i % j)) ta tb) σ H (isD K (.int (i % j))) := ⟨fun H1 g Q q => h.run H1 g _ fun v H2 g2 a => r.run H2 (g.trans g2) _ fun u H3 g3 b => ⟨i, j, dp_int a, dp_int b, pos, q _ _ (g2.trans g3) (.int _)⟩⟩
theorem l_toD {H : Hp} {v : V} {ds : List PyData} (h : (isL (ds.map (isD K))).p H v) : (isD K (.list ds)).p H v := by
  obtain ⟨a, vs, rfl, h1, h2⟩ := h
  have go : ∀ {vs : List V} {ds : List PyData}, AllP H vs (ds.map (isD K)) → DpAll K H vs ds := fun {vs ds} => by
    induction ds generalizing vs with
    | nil => intro h; cases vs with | nil => exact .nil | cons _ _ => exact h.elim
    | cons d ds ih => intro h; cases vs with | nil => exact h.elim | cons v vs => exact .cons h.1 (ih h.2)
  exact .lst (.inl (.inl h1)) (go h2)
theorem shaped_reach {b : BldD} (ok : b.ok) {p : PersonD} {ls : List Str} : SeqAt.shaped (.list ((reachR b p ls).map PyData.str)) = true := shaped_strsL fun z hz => nm_ok (are_nm ok.rooms z (List.mem_filter.mp hz).1)
end
end Gv
set_option Elab.async false
set_option linter.all false
set_option maxRecDepth 100000
set_option maxHeartbeats 2000000
/-! a != b of an own class that has __eq__ alone -/
namespace LkO
open PySem PySem.Spec PyProof.Rows L2
theorem on_bind (self : Value) : bindSpecial (.builtin "object.__ne__") self = pure (.builtin "object.__ne__", [self]) :=
  (Slot.of (T := "object") (name := "__ne__") (owner := "object") (n := "__ne__") (by rw [typeLookup_type, builtinLookup_eq_fast]; kernel_rfl) (by decide +kernel) (by decide +kernel) (by decide +kernel) (.inl (by decide +kernel)) (by rw [isSubtype_type]; kernel_rfl)).bind self
theorem on_plain : plainId "object.__ne__" = true := by decide +kernel
theorem on_kind : builtinKind "object.__ne__" = some .slot := by decide +kernel
theorem on_split : splitId "object.__ne__" = some ("object", "__ne__") := by decide +kernel
/-- the class has no __ne__ of its own -/
structure NeM (K : PySem.W.Frag) (C : Addr) : Prop where
  ne : PySem.W.findIn K (.ref C) "__ne__" = some (some (.builtin "object.__ne__"))
  top : PySem.W.mroIn K C (.type "object") = some true
section
variable {X : Cx} {CX : CXT} {k : Nat} {C f : Addr} {fd : FuncData} {ps : List Str} {sp : Sp} {E : XK}
/-- both operands instances of C: not what the method promises -/
def rOwnNe (C : Addr) (sp : Sp) (E : XK) : R2 := fun x y H Q => ∃ a dx fs b dy gs, x = .ref a ∧ y = .ref b ∧ H a = some (.ins C dx fs) ∧ H b = some (.ins C dy gs) ∧ sp [.ref a, .ref b] H (fun v H' => ∃ c, v = .bl c ∧ Q (.bl (!c)) H') E
theorem op_ownNe (m : OwnM X.K C f "__eq__") (nm : NeM X.K C) (F : FnOk X.prog X.w X.K X.mg X.base CX k f fd ps sp) (hr : Room (k + 1) X.A) (hb : Binds X.K fd ps []) (hx : Passes CX X E) : OpR X (compareOp .NotEq) (rOwnNe C sp E) := by
  intro pins s σ H x y v u Q I rx ry h
  obtain ⟨a, dx, fs, b, dy, gs, rfl, rfl, ha, hb', q⟩ := h
  cases rx
  cases ry
  obtain ⟨od, J⟩ := inst_of I ha
  obtain ⟨od', J'⟩ := inst_of I hb'
  have kin := I.kIn
  have t1 : PySem.W.Looks (model X.prog X.w) s.heap (isInstance (.ref a) (.type "object")) true := J.type.andThen (PySem.W.looks_mroIn kin nm.top)
  have run : wpAny (model X.prog X.w) X.A (call (.builtin "object.__ne__") [.ref a, .ref b]) (fun v s' => (∃ c, v = .bool c) ∧ EP X pins σ Q v s') X.xe s := by
    refine wpAny_call (codeAny_call_builtin on_plain PySem.F.entry_object_ne (@PySem.W.check_slot (model X.prog X.w) _ _ _ "object.__ne__" "object" "__ne__" (.ref a) [.ref b] [] _ on_kind on_split t1 (PySem.F.args_object_ne_2 _ _) ?_))
    unfold Builtin.«object.__ne__»
    refine wpAny_bind (m := slotArgs "__ne__" 1 _) (wpAny_pure ?_)
    refine wpAny_bind (wpAny_cRoomFor hr.in1.units0 ?_)
    refine wpAny_bind (PySem.W.ifBound_K kin J m.at_ m.fn (thn (run_in1 (vs := [.ref a, .ref b]) F hr.in1 rfl hb hx I (.cons rfl (.cons rfl .nil)) q) fun w s' z => ?_))
    obtain ⟨z0, H', I', rz, c, rfl, q'⟩ := z
    cases rz
    exact wpAny_bind (wpAny_truthy_bool (wpAny_pure ⟨⟨_, rfl⟩, .bl (!c), H', I', rfl, q'⟩))
  have one : wpAny (model X.prog X.w) X.A (tryCompare (.ref a) "__ne__" (.ref b)) (fun r s' => ∃ v, r = some v ∧ EP X pins σ Q v s') X.xe s := by
    unfold tryCompare
    simp only [callSpecialIfBound?, bindSpecialIfBound?]
    refine wpAny_bind (wpAny_holding (wpAny_bind (wpAny_bind (wpAny_bind (J.type.here ((PySem.W.looks_findIn kin nm.ne).here ?_))))))
    have fin : wpAny (model X.prog X.w) X.A (call (.builtin "object.__ne__") ([.ref a] ++ [.ref b]) >>= fun v => pure (some v)) (fun r s' => wpAny (model X.prog X.w) X.A (match r with
        | some .notImplemented | none => pure none
        | some v => pure (some v)) (fun r s' => ∃ v, r = some v ∧ EP X pins σ Q v s') X.xe s') X.xe s := wpAny_bind (wpAny_mono run (fun v s' z => wpAny_pure (by
          obtain ⟨⟨c, rfl⟩, z⟩ := z
          exact wpAny_pure ⟨_, rfl, z⟩)) fun _ _ z => z)
    refine wpAny_bind (wpAny_askSetting (wpAny_ite ?_))
    split
    · exact wpAny_bind (wpAny_of_eq (on_bind _) (wpAny_pure (by exact fin)))
    · exact wpAny_tryCatch (wpAny_bind (wpAny_of_eq (on_bind _) (wpAny_pure (by exact fin))))
  show wpAny _ _ (richCompare .NotEq (.ref a) (.ref b)) _ _ s
  unfold richCompare
  simp only [oneThing_ref]
  refine wpAny_holding (wpAny_bind (wpAny_cRoomFor hr.units0 (wpAny_bind (J.type.here (wpAny_bind (J'.type.here ?_))))))
  rw [if_neg (by simp)]
  refine wpAny_bind (wpAny_pure ?_)
  simp only [Bool.false_eq_true, if_false]
  refine wpAny_bind (wpAny_mono one (fun r s' z => ?_) fun _ _ e => e)
  obtain ⟨v, rfl, hq⟩ := z
  exact wpAny_pure hq
end
end LkO
set_option Elab.async false
set_option linter.all false
set_option maxRecDepth 100000
set_option maxHeartbeats 4000000
-- DEFAULTS fn=cheapest:C.GC:hr10,is_trail:C.GT:hr7,is_complete:C.GM:hr8,is_doubt:C.GI:hr9,rules_out:C.GU:hr10,trail_of:C.GW:hr7,_law_house:GH:hr7; mt=reach:C.MR:hr7:C.T.cl,is_right:C.MV:hr8:C.T.cl,price:C.MPr:hr4:C.T.cl; own=ownE:(op_ownEq (E := E0) mE FE hr1 bE pass0); ints=_law_worth _law_cell
namespace Lw
open PySem PySem.Spec PyProof.Rows L2 TxS LkO Lk LkG LamX LkS Ld Gv
def nine : List Int := [1, 2, 3, 4, 5, 6, 7, 8, 9]
theorem by_nine {p : Int → Bool} (h : nine.all p = true) {w : Int} (h1 : 1 ≤ w) (h9 : w ≤ 9) : p w = true := List.all_eq_true.mp h w (by
  have : w = 1 ∨ w = 2 ∨ w = 3 ∨ w = 4 ∨ w = 5 ∨ w = 6 ∨ w = 7 ∨ w = 8 ∨ w = 9 := by omega
  rcases this with e | e | e | e | e | e | e | e | e <;> rw [e] <;> decide)
abbrev dFront : DoorD := ⟨"hall", "den", none, false, 1⟩
abbrev dCell (w : Int) : DoorD := ⟨"den", "vault", some "iron", false, w⟩
abbrev dStair : DoorD := ⟨"hall", "attic", none, true, 1⟩
abbrev pAnn : PersonD := ⟨"hall", [], [], ["vault"]⟩
abbrev pBob : PersonD := ⟨"attic", [], ["den"], []⟩
def houseD (w : Int) : BldD := ⟨["hall", "den", "attic", "vault"], [("iron", "attic")], [("front", dFront), ("cellar", dCell w), ("stairs", dStair)], [("ann", pAnn), ("bob", pBob)]⟩
theorem house_ok {w : Int} (h1 : 1 ≤ w) (h9 : w ≤ 9) : (houseD w).ok := okB_ok (by_nine (p := fun w => okB (houseD w)) (by decide +kernel) h1 h9)
/-- what the law's defs stand on -/
structure P35 (P : Program) (w : World) (K : PySem.W.Frag) (mg : Str → Option Value) (base : Heap) (CD CP CB CL CK CN PT : Addr) (E : A3) : Prop where
  B : Blt mg
  T : OwnC K mg CB "Building" bldF
  TL : LkC K mg CL
  TK : OwnC K mg CK "Locking" lkgF
  TN : OwnC K mg CN "NoLocking" noF
  door : ∃ f fd, Mk K CD f ∧ mg "Door" = some (.ref CD) ∧ DoorFn K f fd ∧ FnOk P w K mg base CX0 3 f fd doorPs (spDoor CD)
  pers : ∃ f fd, Mk K CP f ∧ mg "Person" = some (.ref CP) ∧ PersFn K E f fd ∧ FnOk P w K mg base CX0 3 f fd persPs (spPerson K CP)
  eE : EmT K E
  bld : ∃ f fd, Mk K CB f ∧ mg "Building" = some (.ref CB) ∧ Binds K fd ["self", "rooms", "keys", "doors", "people"] [] ∧ FnOk P w K mg base CX0 5 f fd ["self", "rooms", "keys", "doors", "people"] (spBld K CD CP CB)
  lks : ∃ f, Mk K CL f ∧ FnR P w K mg base CX0 2 f (spNew CL)
  or : ∃ f fd, OwnM K CL f (PySem.dunder Operator.BitOr.info.2) ∧ FnOk P w K mg base CX0 4 f fd ["self", "other"] (spBin CL gOr) ∧ Binds K fd ["self", "other"] []
  EL : EqM P w K mg base CL (spEqL CL)
  OK : MkO P w K mg base CK 1 ["self", "locks", "trails", "doubts"] (spKIn K CK)
  ON : MkO P w K mg base CN 1 ["self", "doubts"] (spNIn K CN)
  MR : Mt P w K mg base 7 CB "reach" ["self", "name", "locks"] (spReach K CD CP CB CL)
  MV : Mt P w K mg base 8 CB "is_right" ["self", "locks"] (spRight K CD CP CB CL)
  MPr : Mt P w K mg base 4 CB "price" ["self", "locks"] (spPrice K CD CP CB CL)
  SK : Mt P w K mg base 11 CK "shows" ["self", "building"] (spKShows K CD CP CB CL CK PT)
  SN : Mt P w K mg base 11 CN "shows" ["self", "building"] (spNShows K CD CP CB CN PT)
  GC : Fn P w K mg base 10 "cheapest" ["building"] (spCheap K CD CP CB CL CK CN PT)
  GT : Fn P w K mg base 7 "is_trail" ["building", "name", "locks", "trail"] (spIsTrail K CD CP CB CL)
  GM : Fn P w K mg base 8 "is_complete" ["building", "name", "locks", "trail"] (spIsComp K CD CP CB CL)
  GI : Fn P w K mg base 9 "is_doubt" ["building", "doubt"] (spIsDbt K CD CP CB)
  GU : Fn P w K mg base 10 "rules_out" ["building", "doubt", "locks"] (spRules K CD CP CB CL)
  GW : Fn P w K mg base 7 "trail_of" ["building", "name", "locks"] (spTrailOf K CD CP CB CL)
section
variable {P : Program} {w : World} {K : PySem.W.Frag} {mg : Str → Option Value} {base : Heap} {CD CP CB CL CK CN PT : Addr} {E : A3}
def spHouse (K : PySem.W.Frag) (CD CP CB PT : Addr) : Sp := fun vs H Q _ => ∃ c : Int, vs = [.int c] ∧ 1 ≤ c ∧ c ≤ 9 ∧ ∀ r H', Gw (tabT PT) H H' → (isB K CD CP CB (houseD c)).p H' r → Q r H'
abbrev nHouse : List Str := ["_law_worth", "_law_doors", "_law_people"]
theorem scHouse : FnScope nHouse ["_law_worth"] (defScope s__law_house) := ⟨rfl, rfl, rfl, by decide +kernel, rfl, by decide +kernel, by decide +kernel⟩
theorem ok_house {f : Addr} {fd : FuncData} (F : Fun K "_law_house" "_law_house" s__law_house f fd) (C : P35 P w K mg base CD CP CB CL CK CN PT E) : FnOk P w K mg base CX0 7 f fd ["_law_worth"] (spHouse K CD CP CB PT) := by
  obtain ⟨fD, fdD, mkD, gD', FD0, FD⟩ := C.door
  obtain ⟨fP, fdP, mkP, gP', FP0, FP⟩ := C.pers
  obtain ⟨fB, fdB, mkB, gB', bB, FB⟩ := C.bld
  obtain ⟨_, vD0, bD0⟩ := kb_d0 FD0
  obtain ⟨_, kbDkc⟩ := kb_dkc FD0
  obtain ⟨_, kbDb⟩ := kb_db FD0
  obtain ⟨_, kbPs⟩ := kb_ps FP0
  obtain ⟨_, kbPn⟩ := kb_pn FP0
  refine F.ok scHouse (fun vs H Q E h => ?_) (fun cdv A outer s H vs Q E hr h => ?_)
  · obtain ⟨c, rfl, _⟩ := h
    rfl
  · obtain ⟨c, rfl, c1, c9, q⟩ := h
    have hr4 := hr.mono (show 4 ≤ 6 by decide)
    have hr6 := hr
    refine ⟨_, (pss_cons (ps_set (i := 1) scHouse.nd rfl (.inl rfl) (pe_disp (pps_cons pe_str (pe_make (E := E0) mkD FD hr4 (by rfl) gD' bD0 vD0 pass0 (pa_cons pe_str (pa_cons pe_str pa_nil))) (pps_cons pe_str (pe_makeK (n := 2) (E := E0) mkD FD hr4 (by rfl) gD' kbDkc pass0 (pa_cons pe_str (pa_cons pe_str pa_nil)) (pk_cons pe_str (pk_cons (pv 0) pk_nil))) pps_nil)) (by rfl) (by rfl) (fun z => by cases z) (by decide)))
      (pss_cons (ps_dput (hu_of hr) (pv 1) pe_str (pe_makeK (n := 2) (E := E0) mkD FD hr4 (by rfl) gD' kbDb pass0 (pa_cons pe_str (pa_cons pe_str pa_nil)) (pk_cons pe_bl pk_nil)) rfl)
      (pss_cons (ps_set (i := 2) scHouse.nd rfl (.inl rfl) (pe_frz (pe_disp (pps_cons pe_str (pe_makeK (n := 1) (E := E0) mkP FP hr4 (by rfl) gP' kbPs pass0 (pa_cons pe_str pa_nil) (pk_cons (pe_tup (pa_cons pe_str pa_nil)) pk_nil)) (pps_cons pe_str (pe_makeK (n := 1) (E := E0) mkP FP hr4 (by rfl) gP' kbPn pass0 (pa_cons pe_str pa_nil) (pk_cons (pe_tup (pa_cons pe_str pa_nil)) pk_nil)) pps_nil)) (by rfl) (by rfl) (fun z => by cases z) (by decide))))
      (pss_one (ps_frz (ps_ret (pe_make (E := E0) mkB FB hr6 (by rfl) gB' bB .nil pass0 (pa_cons (pe_tup (pa_cons pe_str (pa_cons pe_str (pa_cons pe_str (pa_cons pe_str pa_nil))))) (pa_cons (pe_frz (pe_disp (pps_cons pe_str pe_str pps_nil) (by rfl) (by rfl) (fun z => by cases z) (by decide))) (pa_cons (pv 1) (pa_cons (pv 2) pa_nil))))))))))), ?_⟩
    have G : Gw (tabT PT) H H := .refl
    have f_w : (isD K (.int c)).p H (.int c) := .int c
    have okc : okD (dCell c) = true := by_nine (p := fun c => okD (dCell c)) (by decide +kernel) c1 c9
    refine gs_setD (T := tabT PT) ["front", "cellar"] (gp_cons (gv_door0 (K := K) ⟨"hall", "den", none, false, 1⟩ (gd_cons (gv_s (K := K) _) (gd_cons (gv_s (K := K) _) gd_nil))) (gp_cons (gv_doorK (K := K) ⟨"den", "vault", some "iron", false, c⟩ (gd_cons (gv_s (K := K) _) (gd_cons (gv_s (K := K) _) gd_nil)) (gd_cons (gv_s (K := K) _) (gd_cons (gv_v f_w) gd_nil)) rfl rfl (fun _ => rfl) okc) gp_nil)) (fl_cons firm_O (fl_cons firm_O fl_nil)) fun v__law_doors Hc g f__law_doors vd__law_doors => ?_
    replace vd__law_doors := vd__law_doors _ G
    replace f_w := MP.mono _ g.1 f_w
    replace G := G.trans g
    refine gs_put (T := tabT PT) f__law_doors rfl (gv_doorK (K := K) ⟨"hall", "attic", none, true, 1⟩ (gd_cons (gv_s _) (gd_cons (gv_s _) gd_nil)) (gd_cons (gv_b _) gd_nil) rfl rfl (fun _ => rfl) (by decide +kernel)) (fl_cons firm_O (fl_cons firm_O fl_nil)) firm_O ["front", "cellar"] fun H2 en2 x2 _ f_doors => ?_
    replace G := x2 _ G vd__law_doors
    refine gs_set (T := tabT PT) (gv_frz ["ann", "bob"] (gp_cons (gv_persK ⟨"hall", [], [], ["vault"]⟩ (gd_cons (gv_s (K := K) _) gd_nil) (gd_cons (gv_tupD (gd_cons (gv_s (K := K) _) gd_nil)) gd_nil) rfl (pg_s (p := ⟨"hall", [], [], ["vault"]⟩) C.eE ⟨rfl, rfl⟩) (by decide +kernel)) (gp_cons (gv_persK ⟨"attic", [], ["den"], []⟩ (gd_cons (gv_s (K := K) _) gd_nil) (gd_cons (gv_tupD (gd_cons (gv_s (K := K) _) gd_nil)) gd_nil) rfl (pg_n (p := ⟨"attic", [], ["den"], []⟩) C.eE ⟨rfl, rfl⟩) (by decide +kernel)) gp_nil)) (fl_cons firm_P (fl_cons firm_P fl_nil))) fun v__law_people Hc g f__law_people => ?_
    replace f_doors := MP.mono _ g.1 f_doors
    replace G := G.trans g
    refine gs_frz (T := tabT PT) f_doors (fl_cons firm_O (fl_cons firm_O (fl_cons firm_O fl_nil))) fun H4 en4 x4 _ f_doors => ?_
    replace G := x4 _ G vd__law_doors
    replace f__law_people := (firm_F (fl_cons firm_P (fl_cons firm_P fl_nil))).go en4 f__law_people
    have fP : (isF (persL K CP (houseD c))).p H4 _ := f__law_people
    have fD : (isF (doorL CD (houseD c))).p H4 _ := f_doors
    exact gs_ret (T := tabT PT) (gv_bld (houseD c) (ga_cons (gv_tupD (gd_cons (gv_s _) (gd_cons (gv_s _) (gd_cons (gv_s _) (gd_cons (gv_s _) gd_nil))))) (ga_cons (gv_frz ["iron"] (gp_cons (gv_s (K := K) _) gp_nil) (fl_cons firm_D fl_nil)) (ga_cons (gv_v fD) (ga_cons (gv_v fP) ga_nil)))) (house_ok c1 c9)) fun v Hc g5 a => q _ _ (G.trans g5) a
end
end Lw
set_option Elab.async false
set_option linter.all false
set_option maxRecDepth 100000
set_option maxHeartbeats 4000000
-- DEFAULTS fn=cheapest:C.GC:hr10,is_trail:C.GT:hr7,is_complete:C.GM:hr8,is_doubt:C.GI:hr9,rules_out:C.GU:hr10,trail_of:C.GW:hr7,_law_house:GH:hr7; mt=reach:C.MR:hr7:C.T.cl:CB:(spReach K CD CP CB CL),is_right:C.MV:hr8:C.T.cl,price:C.MPr:hr4:C.T.cl; own=ownE:(op_ownEq (E := E0) mE FE hr1 bE pass0); ints=_law_worth _law_cell; hT=0
-- GV _law_house => (gv_house @A c1 c9)
-- GV reach => (gv_reach @A)
-- GV is_right => (gv_right @A)
-- GV price => (gv_price @A)
namespace Lw
open PySem PySem.Spec PyProof.Rows L2 TxS LkO Lk LkG LamX LkS Ld Gv
section
variable {P : Program} {w : World} {K : PySem.W.Frag} {mg : Str → Option Value} {base : Heap} {CD CP CB CL CK CN PT : Addr} {E : A3}
theorem gv_house {H : Hp} {σ : L2.St} {t : TE} {c : Int} (h : Gv (tabT PT) t σ H (isD K (.int c))) (c1 : 1 ≤ c) (c9 : c ≤ 9) : Gv (tabT PT) (tCall (spHouse K CD CP CB PT) [] E0 (tCons t tNil)) σ H (isB K CD CP CB (houseD c)) :=
  gv_call (ga_cons h ga_nil) fun H1 vs g as Q q => by
    obtain ⟨v, rfl, a⟩ := all1 as
    have := dp_int a
    subst this
    exact ⟨c, rfl, c1, c9, fun r H' g' b => q _ _ g' b⟩
theorem gs_forT {T : List (Addr × Str)} {H : Hp} {σ : L2.St} {tl : TE} {g : TG} {tb t2 : TS} {D : Ends} {zs : List Str} (S : Nat → L2.St → Hp → Prop) (h : Gv T tl σ H (isD K (.tuple (zs.map PyData.str)))) (s0 : ∀ H1, Gw T H H1 → S 0 σ H1)
    (turn : ∀ (i : Nat) (z : Str) σ' H', zs[i]? = some z → Gw T H H' → S i σ' H' → ∀ D' : Ends, (∀ σ'' H'', Gw T H' H'' → S (i + 1) σ'' H'' → D'.nx σ'' H'') → g (.str z) σ' H' fun σ2 H2 => tb D' σ2 H2)
    (rest : ∀ σ' H', Gw T H H' → S zs.length σ' H' → t2 D σ' H') : tSeq (tFor (iTup K tl) g tb) t2 D σ H := h.run H .refl _ fun v H1 g1 a => by
  obtain ⟨l, rfl, e1⟩ := dp_tup_inv a
  refine ⟨l, rfl, ⟨_, e1⟩, for_it (walk_tup (xs := zs.map V.str)) (fun i σ' H' => Gw T H1 H' ∧ S i σ' H') ⟨.refl, s0 _ g1⟩ (fun i σ' H' _ hP => (NX.ofT hP.1.1).tup e1) (fun i x σ' H' H'' hi hP hY => ?_) (fun σ' H' hP => rest σ' H' (g1.trans hP.1) (by have := hP.2; rw [List.length_map] at this; exact this))⟩
  obtain ⟨rfl, hx⟩ := hY
  rw [List.getElem?_map] at hx
  cases hz : zs[i]? with
  | none => rw [hz] at hx; cases hx
  | some z =>
    rw [hz] at hx
    cases hx
    exact turn i z σ' _ hz (g1.trans hP.1) hP.2 _ fun σ'' H'' g'' s'' => ⟨hP.1.trans g'', s''⟩
/-! ### _law_reaches_right -/
abbrev RowR := List Str × List Str × List Str × Bool
def rowsR : List RowR := [([], ["hall", "den", "attic", "vault"], ["hall", "den", "attic", "vault"], false), (["front"], ["hall", "attic"], ["hall", "attic"], false), (["cellar"], ["hall", "den", "attic"], ["hall", "den", "attic"], true), (["stairs"], ["hall", "den"], ["attic"], false), (["front", "stairs"], ["hall"], ["attic"], false),
  (["cellar", "stairs"], ["hall", "den"], ["attic"], false), (["front", "cellar"], ["hall", "attic"], ["hall", "attic"], false)]
abbrev encR (K : PySem.W.Frag) (r : RowR) : MP := isD K (.tuple [.tuple (r.1.map PyData.str), .list (r.2.1.map PyData.str), .list (r.2.2.1.map PyData.str), .bool r.2.2.2])
def lsOf (zs : List Str) : List Str := zs.foldl (fun acc z => gOr (srt [z]) acc) []
def chkR (w : Int) (r : RowR) : Bool := (r.1.all isNm) && (r.1.length ≤ 8) && ((List.range (r.1.length + 1)).all fun i => (lsOf (r.1.take i)).length ≤ 8) && ((lsOf r.1).all fun z => decide (z ∈ (houseD w).doors.map (·.1))) && decide ((lsOf r.1).length ≤ 1000) && !(!PyData.eqv (.list ((reachR (houseD w) pAnn (lsOf r.1)).map PyData.str)) (.list (r.2.1.map PyData.str))) && !(!PyData.eqv (.list ((reachR (houseD w) pBob (lsOf r.1)).map PyData.str)) (.list (r.2.2.1.map PyData.str))) && !(!PyData.eqv (.bool (rightB (houseD w) (lsOf r.1))) (.bool r.2.2.2)) && SeqAt.shaped (.list (r.2.1.map PyData.str)) && SeqAt.shaped (.list (r.2.2.1.map PyData.str))
theorem chkR_all : (nine.all fun w => rowsR.all (chkR w)) = true := by decide +kernel
abbrev pX : PersonD := ⟨"a", ["brass"], [], []⟩
abbrev pY : PersonD := ⟨"a", [], [], []⟩
abbrev pZ : PersonD := ⟨"d", ["iron"], [], []⟩
abbrev pW : PersonD := ⟨"c", ["iron", "brass"], [], []⟩
def towerD : BldD := ⟨["a", "b", "c", "d"], [("brass", "c"), ("iron", "d")], [("in", ⟨"a", "b", some "brass", false, 1⟩), ("on", ⟨"b", "c", some "iron", false, 1⟩), ("up", ⟨"b", "d", none, true, 1⟩)], [("x", pX), ("y", pY), ("z", pZ), ("w", pW)]⟩
theorem tower_ok : towerD.ok := okB_ok (by decide +kernel)
theorem lsOf_next {zs : List Str} {i : Nat} {z : Str} (h : zs[i]? = some z) : lsOf (zs.take (i + 1)) = gOr (srt [z]) (lsOf (zs.take i)) := by
  unfold lsOf
  rw [take_next1 h, List.foldl_append]
  rfl
theorem price_c {c : Int} (c1 : 1 ≤ c) (c9 : c ≤ 9) : (!PyData.eqv (.int (priceOf (houseD c) (srt ["stairs", "cellar"]))) (.int (c + 1)) || !PyData.eqv (.int (priceOf (houseD c) [])) (.int 0)) = false := by
  have h := by_nine (p := fun c => !(!PyData.eqv (.int (priceOf (houseD c) (srt ["stairs", "cellar"]))) (.int (c + 1)) || !PyData.eqv (.int (priceOf (houseD c) [])) (.int 0))) (by decide +kernel) c1 c9
  simpa using h
theorem shaped_b (b : Bool) : SeqAt.shaped (.bool b) = true := by cases b <;> decide +kernel
theorem shaped_i (i : Int) : SeqAt.shaped (.int i) = true := by
  show (PyData.canLay0 (.int i) && decide (PyData.depth (.int i) ≤ 64)) = true
  simp [PyData.canLay0, PyData.depth]
abbrev RowT := Str × List Str
def rowsT : List RowT := [("x", ["a", "b", "c", "d"]), ("y", ["a"]), ("z", ["b", "c", "d"]), ("w", ["c"])]
abbrev encT (K : PySem.W.Frag) (r : RowT) : MP := isD K (.tuple [.str r.1, .list (r.2.map PyData.str)])
def chkT (r : RowT) : Bool := (towerD.people.lookup r.1).isSome && (match towerD.people.lookup r.1 with | some p => PyData.eqv (.list ((reachR towerD p []).map PyData.str)) (.list (r.2.map PyData.str)) | none => false) && SeqAt.shaped (.list (r.2.map PyData.str))
theorem chkT_all : rowsT.all chkT = true := by decide +kernel
theorem tower_end : (PyData.eqv (.list ((reachR towerD pX (srt ["up"])).map PyData.str)) (.list [.str "a", .str "b"]) && PyData.eqv (.list ((reachR towerD pZ (srt ["on"])).map PyData.str)) (.list [.str "b", .str "d"])) = true := by decide +kernel
def spWorth (PT : Addr) : Sp := fun vs H Q _ => ∃ c : Int, vs = [.int c] ∧ 1 ≤ c ∧ c ≤ 9 ∧ Tabs (tabT PT) H ∧ ∀ H', Gw (tabT PT) H H' → Q (.bl true) H'
abbrev nReach : List Str := ["_law_worth", "_law_house_here", "_law_rows", "_law_names", "_law_first", "_law_second", "_law_due", "_law_locks", "_law_name", "_law_doors", "_law_people", "_law_tower"]
theorem scReach' : FnScope nReach ["_law_worth"] (defScope s__law_reaches_right) := ⟨rfl, rfl, rfl, by decide +kernel, rfl, by decide +kernel, by decide +kernel⟩
theorem ok_reaches {f : Addr} {fd : FuncData} (F : Fun K "_law_reaches_right" "_law_reaches_right" s__law_reaches_right f fd) (C : P35 P w K mg base CD CP CB CL CK CN PT E) (GH : Fn P w K mg base 7 "_law_house" ["_law_worth"] (spHouse K CD CP CB PT)) : FnOk P w K mg base CX0 9 f fd ["_law_worth"] (spWorth PT) := by
  obtain ⟨fD, fdD, mkD, gD', FD0, FD⟩ := C.door
  obtain ⟨fP, fdP, mkP, gP', FP0, FP⟩ := C.pers
  obtain ⟨fB, fdB, mkB, gB', bB, FB⟩ := C.bld
  obtain ⟨fL, mL, GL⟩ := C.lks
  obtain ⟨fO, fdO, mO, GO, bO⟩ := C.or
  obtain ⟨_, kbDk⟩ := kb_dk FD0
  obtain ⟨_, kbDb⟩ := kb_db FD0
  obtain ⟨_, vP0, bP0⟩ := kb_p0 FP0
  obtain ⟨_, kbPc⟩ := kb_pc FP0
  refine F.ok scReach' (fun vs H Q E h => ?_) (fun cdv A outer s H vs Q E hr h => ?_)
  · obtain ⟨c, rfl, _⟩ := h
    rfl
  · obtain ⟨c, rfl, c1, c9, hT, q⟩ := h
    have hr3 := hr.mono (show 3 ≤ 8 by decide)
    have hr4 := hr.mono (show 4 ≤ 8 by decide)
    have hr6 := hr.mono (show 6 ≤ 8 by decide)
    have hr7 := hr.mono (show 7 ≤ 8 by decide)
    have hr8 := hr
    refine ⟨_, (pss_cons (ps_set (i := 1) scReach'.nd rfl (.inl rfl) (pe_fn GH hr7 (by rfl) (pa_cons (pv 0) pa_nil)))
      (pss_cons (ps_set (i := 2) scReach'.nd rfl (.inl rfl) (pe_lst (pa_cons (pe_tup (pa_cons (pe_tup pa_nil) (pa_cons (pe_lst (pa_cons pe_str (pa_cons pe_str (pa_cons pe_str (pa_cons pe_str pa_nil))))) (pa_cons (pe_lst (pa_cons pe_str (pa_cons pe_str (pa_cons pe_str (pa_cons pe_str pa_nil))))) (pa_cons pe_bl pa_nil))))) pa_nil)))
      (pss_cons (ps_set (i := 2) scReach'.nd rfl (.inl rfl) (pe_op op_cat (pv 2) (pe_lst (pa_cons (pe_tup (pa_cons (pe_tup (pa_cons pe_str pa_nil)) (pa_cons (pe_lst (pa_cons pe_str (pa_cons pe_str pa_nil))) (pa_cons (pe_lst (pa_cons pe_str (pa_cons pe_str pa_nil))) (pa_cons pe_bl pa_nil))))) pa_nil))))
      (pss_cons (ps_set (i := 2) scReach'.nd rfl (.inl rfl) (pe_op op_cat (pv 2) (pe_lst (pa_cons (pe_tup (pa_cons (pe_tup (pa_cons pe_str pa_nil)) (pa_cons (pe_lst (pa_cons pe_str (pa_cons pe_str (pa_cons pe_str pa_nil)))) (pa_cons (pe_lst (pa_cons pe_str (pa_cons pe_str (pa_cons pe_str pa_nil)))) (pa_cons pe_bl pa_nil))))) pa_nil))))
      (pss_cons (ps_set (i := 2) scReach'.nd rfl (.inl rfl) (pe_op op_cat (pv 2) (pe_lst (pa_cons (pe_tup (pa_cons (pe_tup (pa_cons pe_str pa_nil)) (pa_cons (pe_lst (pa_cons pe_str (pa_cons pe_str pa_nil))) (pa_cons (pe_lst (pa_cons pe_str pa_nil)) (pa_cons pe_bl pa_nil))))) pa_nil))))
      (pss_cons (ps_set (i := 2) scReach'.nd rfl (.inl rfl) (pe_op op_cat (pv 2) (pe_lst (pa_cons (pe_tup (pa_cons (pe_tup (pa_cons pe_str (pa_cons pe_str pa_nil))) (pa_cons (pe_lst (pa_cons pe_str pa_nil)) (pa_cons (pe_lst (pa_cons pe_str pa_nil)) (pa_cons pe_bl pa_nil))))) pa_nil))))
      (pss_cons (ps_set (i := 2) scReach'.nd rfl (.inl rfl) (pe_op op_cat (pv 2) (pe_lst (pa_cons (pe_tup (pa_cons (pe_tup (pa_cons pe_str (pa_cons pe_str pa_nil))) (pa_cons (pe_lst (pa_cons pe_str (pa_cons pe_str pa_nil))) (pa_cons (pe_lst (pa_cons pe_str pa_nil)) (pa_cons pe_bl pa_nil))))) pa_nil))))
      (pss_cons (ps_set (i := 2) scReach'.nd rfl (.inl rfl) (pe_op op_cat (pv 2) (pe_lst (pa_cons (pe_tup (pa_cons (pe_tup (pa_cons pe_str (pa_cons pe_str pa_nil))) (pa_cons (pe_lst (pa_cons pe_str (pa_cons pe_str pa_nil))) (pa_cons (pe_lst (pa_cons pe_str (pa_cons pe_str pa_nil))) (pa_cons pe_bl pa_nil))))) pa_nil))))
      (pss_cons (ps_for PassesOwn.never rfl (pi_list (pv 2)) (pg_tup rfl (pgs_cons (pg_name (i := 3) scReach'.nd rfl (Or.inl rfl)) (pgs_cons (pg_name (i := 4) scReach'.nd rfl (Or.inl rfl)) (pgs_cons (pg_name (i := 5) scReach'.nd rfl (Or.inl rfl)) (pgs_cons (pg_name (i := 6) scReach'.nd rfl (Or.inl rfl)) pgs_nil))))) (pss_cons (ps_set (i := 7) scReach'.nd rfl (.inl rfl) (pe_makeR0 (E := E0) mL GL hr3 (by rfl) C.TL.mgC pass0))
      (pss_cons (ps_for PassesOwn.never rfl (pi_tup (pv 3)) (pg_name (i := 8) scReach'.nd rfl (Or.inl rfl)) (pss_one (ps_set (i := 7) scReach'.nd rfl (.inl rfl) (pe_op (op_own (E := E0) C.TL.sf mO GO hr4 bO pass0) (StX.pe_makeR (E := E0) mL GL hr3 (by rfl) C.TL.mgC pass0 (pa_cons (pv 8) pa_nil)) (pv 7)))))
      (pss_cons (ps_if (pt_cmpR (op_neD hr.units) (pe_mt C.MR hr7 C.T.cl (pv 1) (pa_cons pe_str (pa_cons (pv 7) pa_nil))) (pv 4) (nomark _)) (pss_one (ps_ret pe_bl)) pss_nil)
      (pss_cons (ps_if (pt_cmpR (op_neD hr.units) (pe_mt C.MR hr7 C.T.cl (pv 1) (pa_cons pe_str (pa_cons (pv 7) pa_nil))) (pv 5) (nomark _)) (pss_one (ps_ret pe_bl)) pss_nil)
      (pss_one (ps_if (pt_cmpR (op_neD hr.units) (pe_mt C.MV hr8 C.T.cl (pv 1) (pa_cons (pv 7) pa_nil)) (pv 6) (nomark _)) (pss_one (ps_ret pe_bl)) pss_nil)))))))
      (pss_cons (ps_if (PW.pt (pw_or (pt_cmpR (op_neD hr.units) (pe_mt C.MPr hr4 C.T.cl (pv 1) (pa_cons (StX.pe_makeR (E := E0) mL GL hr3 (by rfl) C.TL.mgC pass0 (pa_cons pe_str (pa_cons pe_str pa_nil))) pa_nil)) (pe_op op_add (pv 0) pe_int) (nomark _)) (pw_or1 (pt_cmpR (op_neD hr.units) (pe_mt C.MPr hr4 C.T.cl (pv 1) (pa_cons (pe_makeR0 (E := E0) mL GL hr3 (by rfl) C.TL.mgC pass0) pa_nil)) pe_int (nomark _))))) (pss_one (ps_ret pe_bl)) pss_nil)
      (pss_cons (ps_set (i := 9) scReach'.nd rfl (.inl rfl) (pe_disp (pps_cons pe_str (pe_makeK (n := 2) (E := E0) mkD FD hr4 (by rfl) gD' kbDk pass0 (pa_cons pe_str (pa_cons pe_str pa_nil)) (pk_cons pe_str pk_nil)) (pps_cons pe_str (pe_makeK (n := 2) (E := E0) mkD FD hr4 (by rfl) gD' kbDk pass0 (pa_cons pe_str (pa_cons pe_str pa_nil)) (pk_cons pe_str pk_nil)) pps_nil)) (by rfl) (by rfl) (fun z => by cases z) (by decide)))
      (pss_cons (ps_dput (hu_of hr) (pv 9) pe_str (pe_makeK (n := 2) (E := E0) mkD FD hr4 (by rfl) gD' kbDb pass0 (pa_cons pe_str (pa_cons pe_str pa_nil)) (pk_cons pe_bl pk_nil)) rfl)
      (pss_cons (ps_set (i := 10) scReach'.nd rfl (.inl rfl) (pe_disp (pps_cons pe_str (pe_makeK (n := 1) (E := E0) mkP FP hr4 (by rfl) gP' kbPc pass0 (pa_cons pe_str pa_nil) (pk_cons (pe_tup (pa_cons pe_str pa_nil)) pk_nil)) (pps_cons pe_str (pe_make (E := E0) mkP FP hr4 (by rfl) gP' bP0 vP0 pass0 (pa_cons pe_str pa_nil)) (pps_cons pe_str (pe_makeK (n := 1) (E := E0) mkP FP hr4 (by rfl) gP' kbPc pass0 (pa_cons pe_str pa_nil) (pk_cons (pe_tup (pa_cons pe_str pa_nil)) pk_nil)) pps_nil))) (by rfl) (by rfl) (fun z => by cases z) (by decide)))
      (pss_cons (ps_dput (hu_of hr) (pv 10) pe_str (pe_makeK (n := 1) (E := E0) mkP FP hr4 (by rfl) gP' kbPc pass0 (pa_cons pe_str pa_nil) (pk_cons (pe_tup (pa_cons pe_str (pa_cons pe_str pa_nil))) pk_nil)) rfl)
      (pss_cons (ps_frz (ps_frz (ps_set (i := 11) scReach'.nd rfl (.inr rfl) (pe_make (E := E0) mkB FB hr6 (by rfl) gB' bB .nil pass0 (pa_cons (pe_tup (pa_cons pe_str (pa_cons pe_str (pa_cons pe_str (pa_cons pe_str pa_nil))))) (pa_cons (pe_frz (pe_disp (pps_cons pe_str pe_str (pps_cons pe_str pe_str pps_nil)) (by rfl) (by rfl) (fun z => by cases z) (by decide))) (pa_cons (pv 9) (pa_cons (pv 10) pa_nil))))))))
      (pss_cons (ps_set (i := 2) scReach'.nd rfl (.inl rfl) (pe_lst (pa_cons (pe_tup (pa_cons pe_str (pa_cons (pe_lst (pa_cons pe_str (pa_cons pe_str (pa_cons pe_str (pa_cons pe_str pa_nil))))) pa_nil))) (pa_cons (pe_tup (pa_cons pe_str (pa_cons (pe_lst (pa_cons pe_str pa_nil)) pa_nil))) (pa_cons (pe_tup (pa_cons pe_str (pa_cons (pe_lst (pa_cons pe_str (pa_cons pe_str (pa_cons pe_str pa_nil)))) pa_nil))) pa_nil)))))
      (pss_cons (ps_set (i := 2) scReach'.nd rfl (.inl rfl) (pe_op op_cat (pv 2) (pe_lst (pa_cons (pe_tup (pa_cons pe_str (pa_cons (pe_lst (pa_cons pe_str pa_nil)) pa_nil))) pa_nil))))
      (pss_cons (ps_if (pt_not (pt_val (pe_callB (cr_all rfl) (by rfl) C.B.all PyProof.Rows.boot_all (pa_cons (pe_lc (own := [("_law_name", 8), ("_law_due", 6)]) (g := (gTup K 2 (gCons (gName 8) (gCons (gName 6) gNil)))) (tt := tYes) (te := (tOp (rEqD K) (tMeth CB "reach" (spReach K CD CP CB CL) [] E0 (tVar 11) (tCons (tVar 8) (tCons _ tNil))) (tVar 6))) rfl scReach'.nd  (pi_list (pv 2)) (blkOk_by (N := nReach) (sc := defScope s__law_reaches_right) (by decide +kernel)) (fun _ _ _ _ _ => (pg_tup rfl (pgs_cons (pg_name (i := 8) scReach'.nd rfl (Or.inl rfl)) (pgs_cons (pg_name (i := 6) scReach'.nd rfl (Or.inl rfl)) pgs_nil)))) (fun _ _ _ _ _ => pts_nil) (fun _ _ _ _ _ => (pe_cmpR (op_eqD hr.units) (pe_mt C.MR hr7 C.T.cl (pv 11) (pa_cons (pv 8) (pa_cons (pe_makeR0 (E := E0) mL GL hr3 (by rfl) C.TL.mgC pass0) pa_nil))) (pv 6) (nomark _)))) pa_nil)))) (pss_one (ps_ret pe_bl)) pss_nil)
      (pss_one (ps_ret (pe_and (pe_cmpR (op_eqD hr.units) (pe_mt C.MR hr7 C.T.cl (pv 11) (pa_cons pe_str (pa_cons (StX.pe_makeR (E := E0) mL GL hr3 (by rfl) C.TL.mgC pass0 (pa_cons pe_str pa_nil)) pa_nil))) (pe_lst (pa_cons pe_str (pa_cons pe_str pa_nil))) (nomark _)) (pe_one (pe_cmpR (op_eqD hr.units) (pe_mt C.MR hr7 C.T.cl (pv 11) (pa_cons pe_str (pa_cons (StX.pe_makeR (E := E0) mL GL hr3 (by rfl) C.TL.mgC pass0 (pa_cons pe_str pa_nil)) pa_nil))) (pe_lst (pa_cons pe_str (pa_cons pe_str pa_nil))) (nomark _)))))))))))))))))))))))), ?_⟩
    have G : Gw (tabT PT) H H := .refl
    have f_w : (isD K (.int c)).p H (.int c) := .int c
    refine gs_set (T := tabT PT) (gv_house (gv_v f_w) c1 c9) fun v__law_house_here Hc g f__law_house_here => ?_
    replace f_w := MP.mono _ g.1 f_w
    replace G := G.trans g
    refine gs_set (T := tabT PT) (gv_lst (ga_cons (gv_tupD (gd_cons (gv_tupD gd_nil) (gd_cons (gv_lstD (gd_cons (gv_s (K := K) _) (gd_cons (gv_s (K := K) _) (gd_cons (gv_s (K := K) _) (gd_cons (gv_s (K := K) _) gd_nil))))) (gd_cons (gv_lstD (gd_cons (gv_s (K := K) _) (gd_cons (gv_s (K := K) _) (gd_cons (gv_s (K := K) _) (gd_cons (gv_s (K := K) _) gd_nil))))) (gd_cons (gv_b (K := K) _) gd_nil))))) ga_nil)) fun v__law_rows Hc g f__law_rows => ?_
    replace f_w := MP.mono _ g.1 f_w
    replace f__law_house_here := MP.mono _ g.1 f__law_house_here
    replace G := G.trans g
    refine gs_set (T := tabT PT) (gv_cat (gv_v f__law_rows) (gv_lst (ga_cons (gv_tupD (gd_cons (gv_tupD (gd_cons (gv_s (K := K) _) gd_nil)) (gd_cons (gv_lstD (gd_cons (gv_s (K := K) _) (gd_cons (gv_s (K := K) _) gd_nil))) (gd_cons (gv_lstD (gd_cons (gv_s (K := K) _) (gd_cons (gv_s (K := K) _) gd_nil))) (gd_cons (gv_b (K := K) _) gd_nil))))) ga_nil))) fun v__law_rows Hc g f__law_rows => ?_
    replace f_w := MP.mono _ g.1 f_w
    replace f__law_house_here := MP.mono _ g.1 f__law_house_here
    replace G := G.trans g
    refine gs_set (T := tabT PT) (gv_cat (gv_v f__law_rows) (gv_lst (ga_cons (gv_tupD (gd_cons (gv_tupD (gd_cons (gv_s (K := K) _) gd_nil)) (gd_cons (gv_lstD (gd_cons (gv_s (K := K) _) (gd_cons (gv_s (K := K) _) (gd_cons (gv_s (K := K) _) gd_nil)))) (gd_cons (gv_lstD (gd_cons (gv_s (K := K) _) (gd_cons (gv_s (K := K) _) (gd_cons (gv_s (K := K) _) gd_nil)))) (gd_cons (gv_b (K := K) _) gd_nil))))) ga_nil))) fun v__law_rows Hc g f__law_rows => ?_
    replace f_w := MP.mono _ g.1 f_w
    replace f__law_house_here := MP.mono _ g.1 f__law_house_here
    replace G := G.trans g
    refine gs_set (T := tabT PT) (gv_cat (gv_v f__law_rows) (gv_lst (ga_cons (gv_tupD (gd_cons (gv_tupD (gd_cons (gv_s (K := K) _) gd_nil)) (gd_cons (gv_lstD (gd_cons (gv_s (K := K) _) (gd_cons (gv_s (K := K) _) gd_nil))) (gd_cons (gv_lstD (gd_cons (gv_s (K := K) _) gd_nil)) (gd_cons (gv_b (K := K) _) gd_nil))))) ga_nil))) fun v__law_rows Hc g f__law_rows => ?_
    replace f_w := MP.mono _ g.1 f_w
    replace f__law_house_here := MP.mono _ g.1 f__law_house_here
    replace G := G.trans g
    refine gs_set (T := tabT PT) (gv_cat (gv_v f__law_rows) (gv_lst (ga_cons (gv_tupD (gd_cons (gv_tupD (gd_cons (gv_s (K := K) _) (gd_cons (gv_s (K := K) _) gd_nil))) (gd_cons (gv_lstD (gd_cons (gv_s (K := K) _) gd_nil)) (gd_cons (gv_lstD (gd_cons (gv_s (K := K) _) gd_nil)) (gd_cons (gv_b (K := K) _) gd_nil))))) ga_nil))) fun v__law_rows Hc g f__law_rows => ?_
    replace f_w := MP.mono _ g.1 f_w
    replace f__law_house_here := MP.mono _ g.1 f__law_house_here
    replace G := G.trans g
    refine gs_set (T := tabT PT) (gv_cat (gv_v f__law_rows) (gv_lst (ga_cons (gv_tupD (gd_cons (gv_tupD (gd_cons (gv_s (K := K) _) (gd_cons (gv_s (K := K) _) gd_nil))) (gd_cons (gv_lstD (gd_cons (gv_s (K := K) _) (gd_cons (gv_s (K := K) _) gd_nil))) (gd_cons (gv_lstD (gd_cons (gv_s (K := K) _) gd_nil)) (gd_cons (gv_b (K := K) _) gd_nil))))) ga_nil))) fun v__law_rows Hc g f__law_rows => ?_
    replace f_w := MP.mono _ g.1 f_w
    replace f__law_house_here := MP.mono _ g.1 f__law_house_here
    replace G := G.trans g
    refine gs_set (T := tabT PT) (gv_cat (gv_v f__law_rows) (gv_lst (ga_cons (gv_tupD (gd_cons (gv_tupD (gd_cons (gv_s (K := K) _) (gd_cons (gv_s (K := K) _) gd_nil))) (gd_cons (gv_lstD (gd_cons (gv_s (K := K) _) (gd_cons (gv_s (K := K) _) gd_nil))) (gd_cons (gv_lstD (gd_cons (gv_s (K := K) _) (gd_cons (gv_s (K := K) _) gd_nil))) (gd_cons (gv_b (K := K) _) gd_nil))))) ga_nil))) fun v__law_rows Hc g f__law_rows => ?_
    replace f_w := MP.mono _ g.1 f_w
    replace f__law_house_here := MP.mono _ g.1 f__law_house_here
    replace G := G.trans g
    have fR : (isL (rowsR.map (encR K))).p Hc v__law_rows := f__law_rows
    have okb := house_ok c1 c9
    refine gs_for (T := tabT PT) (fun σ => ∃ y3 y4 y5 y6 y7 y8, σ = [some (.int c), some v__law_house_here, some v__law_rows, y3, y4, y5, y6, y7, y8, none, none, none]) (gv_v fR) ⟨_, _, _, _, _, _, rfl⟩ (fun i A v σ' H' hA g' hS a D' kk => ?_) (fun σ' H' g' hS => ?_)
    · obtain ⟨y3, y4, y5, y6, y7, y8, rfl⟩ := hS
      rw [List.getElem?_map] at hA
      cases hri : rowsR[i]? with
      | none => rw [hri] at hA; cases hA
      | some r =>
        rw [hri] at hA
        cases hA
        have ck := List.all_eq_true.mp (by_nine (p := fun w => rowsR.all (chkR w)) chkR_all c1 c9) r (List.mem_of_getElem? hri)
        unfold chkR at ck
        simp only [Bool.and_eq_true, decide_eq_true_eq] at ck
        obtain ⟨⟨⟨⟨⟨⟨⟨⟨⟨k1, k2⟩, k3⟩, k4⟩, k5⟩, k6⟩, k7⟩, k8⟩, k9⟩, k10⟩ := ck
        have k4 : ∀ z ∈ lsOf r.1, z ∈ (houseD c).doors.map (·.1) := fun z hz => of_decide_eq_true (List.all_eq_true.mp k4 z hz)
        have nt : ∀ {b : Bool}, (!b) = true → b = false := fun {b} h => by cases b <;> simp_all
        have fh := MP.mono _ g'.1 f__law_house_here
        refine row4 a fun v1 v2 v3 v4 a1 a2 a3 a4 => ?_
        refine gs_set (T := tabT PT) gv_lks0 fun v_l H1 g1 f_l => ?_
        replace a1 := MP.mono _ g1.1 a1
        replace a2 := MP.mono _ g1.1 a2
        replace a3 := MP.mono _ g1.1 a3
        replace a4 := MP.mono _ g1.1 a4
        replace fh := MP.mono _ g1.1 fh
        refine gs_forT (T := tabT PT) (zs := r.1) (fun i σ H => ∃ vl y8, σ = [some (.int c), some v__law_house_here, some v__law_rows, some v1, some v2, some v3, some v4, some vl, y8, none, none, none] ∧ (isK CL (lsOf (r.1.take i))).p H vl) (gv_v a1) (fun H2 g2 => ⟨v_l, y8, rfl, MP.mono _ g2.1 f_l⟩) (fun i z σ2 H2 hz g2 ⟨vl, y8, e, fl⟩ D2 k2' => ?_) (fun σ2 H2 g2 ⟨vl, y8, e, fl⟩ => ?_)
        · subst e
          have fz : (isD K (.str z)).p H2 (.str z) := .str z
          have hzm : z ∈ r.1 := List.mem_of_getElem? hz
          have hil : i < r.1.length + 1 := by have := (List.getElem?_eq_some_iff.mp hz).1; omega
          have l8 := of_decide_eq_true (List.all_eq_true.mp k3 i (List.mem_range.mpr hil))
          have l1 : (srt [z]).length ≤ 1 := len_srt [z]
          refine gs_set1 (T := tabT PT) (gv_or (gv_lks (K := K) [z] (gd_cons (gv_v fz) gd_nil) rfl (fun y hy => by rw [List.mem_singleton.mp hy]; exact List.all_eq_true.mp k1 z hzm) (by show 1 < 64; decide)) (gv_v fl) (by omega)) fun v5 H3 g3 f5 => ?_
          refine k2' _ _ g3 ⟨v5, _, rfl, ?_⟩
          rw [lsOf_next hz]
          exact f5
        · subst e
          rw [List.take_length] at fl
          replace a2 := MP.mono _ g2.1 a2
          replace a3 := MP.mono _ g2.1 a3
          replace a4 := MP.mono _ g2.1 a4
          replace fh := MP.mono _ g2.1 fh
          refine gs_if (T := tabT PT) (gb_test (gv_neD (gv_reach (gv_v fh) (gv_s _) (gv_v fl) rfl k4 k5) (gv_v a2) (shaped_reach okb) k9)) (nt k6) fun H3 g3 => ?_
          replace a3 := MP.mono _ g3.1 a3
          replace a4 := MP.mono _ g3.1 a4
          replace fh := MP.mono _ g3.1 fh
          replace fl := MP.mono _ g3.1 fl
          refine gs_if (T := tabT PT) (gb_test (gv_neD (gv_reach (gv_v fh) (gv_s _) (gv_v fl) rfl k4 k5) (gv_v a3) (shaped_reach okb) k10)) (nt k7) fun H4 g4 => ?_
          replace a4 := MP.mono _ g4.1 a4
          replace fh := MP.mono _ g4.1 fh
          replace fl := MP.mono _ g4.1 fl
          refine gs_if1 (T := tabT PT) (gb_test (gv_neD (gv_right (gv_v fh) (gv_v fl) k4 k5) (gv_v a4) (shaped_b _) (shaped_b _))) (nt k8) fun H5 g5 => ?_
          exact kk _ _ (g1.trans (g2.trans (g3.trans (g4.trans g5)))) ⟨_, _, _, _, _, _, rfl⟩
    · obtain ⟨y3, y4, y5, y6, y7, y8, rfl⟩ := hS
      replace G := G.trans g'
      replace f__law_house_here := MP.mono _ g'.1 f__law_house_here
      have f_w : (isD K (.int c)).p H' (.int c) := .int c
      refine gs_if (T := tabT PT) (gb_or (gb_test (gv_neD (gv_price (gv_v f__law_house_here) (gv_lks (K := K) ["stairs", "cellar"] (gd_cons (gv_s (K := K) _) (gd_cons (gv_s (K := K) _) gd_nil))) (by show ∀ z ∈ srt ["stairs", "cellar"], z ∈ (["front", "cellar", "stairs"] : List Str); decide +kernel)) (gv_add (gv_v f_w) (gv_i (K := K) _)) (shaped_i _) (shaped_i _))) (gb_test (gv_neD (gv_price (gv_v f__law_house_here) gv_lks0 (fun _ h => by cases h)) (gv_i (K := K) _) (shaped_i _) (shaped_i _)))) (price_c c1 c9) fun Hc g => ?_
      replace G := G.trans g
      refine gs_setD (T := tabT PT) ["in", "on"] (gp_cons (gv_doorK (K := K) ⟨"a", "b", some "brass", false, 1⟩ (gd_cons (gv_s (K := K) _) (gd_cons (gv_s (K := K) _) gd_nil)) (gd_cons (gv_s (K := K) _) gd_nil) rfl rfl (fun _ => rfl) (by decide +kernel)) (gp_cons (gv_doorK (K := K) ⟨"b", "c", some "iron", false, 1⟩ (gd_cons (gv_s (K := K) _) (gd_cons (gv_s (K := K) _) gd_nil)) (gd_cons (gv_s (K := K) _) gd_nil) rfl rfl (fun _ => rfl) (by decide +kernel)) gp_nil)) (fl_cons firm_O (fl_cons firm_O fl_nil)) fun v__law_doors Hc g f__law_doors vd__law_doors => ?_
      replace vd__law_doors := vd__law_doors _ G
      replace G := G.trans g
      refine gs_put (T := tabT PT) f__law_doors rfl (gv_doorK (K := K) ⟨"b", "d", none, true, 1⟩ (gd_cons (gv_s _) (gd_cons (gv_s _) gd_nil)) (gd_cons (gv_b _) gd_nil) rfl rfl (fun _ => rfl) (by decide +kernel)) (fl_cons firm_O (fl_cons firm_O fl_nil)) firm_O ["in", "on"] fun H2 en2 x2 _ f_doors => ?_
      replace G := x2 _ G vd__law_doors
      refine gs_setD (T := tabT PT) ["x", "y", "z"] (gp_cons (gv_persK ⟨"a", ["brass"], [], []⟩ (gd_cons (gv_s (K := K) _) gd_nil) (gd_cons (gv_tupD (gd_cons (gv_s (K := K) _) gd_nil)) gd_nil) rfl (pg_c (p := ⟨"a", ["brass"], [], []⟩) C.eE ⟨rfl, rfl⟩) (by decide +kernel)) (gp_cons (gv_pers0 ⟨"a", [], [], []⟩ C.eE (gd_cons (gv_s (K := K) _) gd_nil)) (gp_cons (gv_persK ⟨"d", ["iron"], [], []⟩ (gd_cons (gv_s (K := K) _) gd_nil) (gd_cons (gv_tupD (gd_cons (gv_s (K := K) _) gd_nil)) gd_nil) rfl (pg_c (p := ⟨"d", ["iron"], [], []⟩) C.eE ⟨rfl, rfl⟩) (by decide +kernel)) gp_nil))) (fl_cons firm_P (fl_cons firm_P (fl_cons firm_P fl_nil))) fun v__law_people Hc g f__law_people vd__law_people => ?_
      replace vd__law_people := vd__law_people _ G
      replace f_doors := MP.mono _ g.1 f_doors
      replace G := G.trans g
      refine gs_put (T := tabT PT) f__law_people rfl (gv_persK ⟨"c", ["iron", "brass"], [], []⟩ (gd_cons (gv_s _) gd_nil) (gd_cons (gv_tupD (gd_cons (gv_s _) (gd_cons (gv_s _) gd_nil))) gd_nil) rfl (pg_c (p := ⟨"c", ["iron", "brass"], [], []⟩) C.eE ⟨rfl, rfl⟩) (by decide +kernel)) (fl_cons firm_P (fl_cons firm_P (fl_cons firm_P fl_nil))) firm_P ["x", "y", "z"] fun H3 en3 x3 o3 f_people => ?_
      replace G := x3 _ G vd__law_people
      replace f_doors := o3 _ _ f_doors (fl_cons firm_O (fl_cons firm_O (fl_cons firm_O fl_nil))) (by show (["x", "y", "z"] : List Str) ≠ (["in", "on", "up"] : List Str); decide +kernel)
      refine gs_frz (T := tabT PT) f_doors (fl_cons firm_O (fl_cons firm_O (fl_cons firm_O fl_nil))) fun H4 en4 x4 o4 f_doors => ?_
      replace G := x4 _ G vd__law_doors
      replace f_people := o4 _ _ f_people (fl_cons firm_P (fl_cons firm_P (fl_cons firm_P (fl_cons firm_P fl_nil)))) (by show (["in", "on", "up"] : List Str) ≠ (["x", "y", "z", "w"] : List Str); decide +kernel)
      refine gs_frz (T := tabT PT) f_people (fl_cons firm_P (fl_cons firm_P (fl_cons firm_P (fl_cons firm_P fl_nil)))) fun H5 en5 x5 _ f_people => ?_
      replace G := x5 _ G vd__law_people
      replace f_doors := (firm_F (fl_cons firm_O (fl_cons firm_O (fl_cons firm_O fl_nil)))).go en5 f_doors
      refine gs_set (T := tabT PT) (gv_bld towerD (ga_cons (gv_tupD (gd_cons (gv_s (K := K) _) (gd_cons (gv_s (K := K) _) (gd_cons (gv_s (K := K) _) (gd_cons (gv_s (K := K) _) gd_nil))))) (ga_cons (gv_frz ["brass", "iron"] (gp_cons (gv_s (K := K) _) (gp_cons (gv_s (K := K) _) gp_nil)) (fl_cons firm_D (fl_cons firm_D fl_nil))) (ga_cons (gv_v f_doors) (ga_cons (gv_v f_people) ga_nil)))) tower_ok) fun v__law_tower Hc g f__law_tower => ?_
      replace f_doors := MP.mono _ g.1 f_doors
      replace f_people := MP.mono _ g.1 f_people
      replace G := G.trans g
      refine gs_set (T := tabT PT) (gv_lst (ga_cons (gv_tupD (gd_cons (gv_s (K := K) _) (gd_cons (gv_lstD (gd_cons (gv_s (K := K) _) (gd_cons (gv_s (K := K) _) (gd_cons (gv_s (K := K) _) (gd_cons (gv_s (K := K) _) gd_nil))))) gd_nil))) (ga_cons (gv_tupD (gd_cons (gv_s (K := K) _) (gd_cons (gv_lstD (gd_cons (gv_s (K := K) _) gd_nil)) gd_nil))) (ga_cons (gv_tupD (gd_cons (gv_s (K := K) _) (gd_cons (gv_lstD (gd_cons (gv_s (K := K) _) (gd_cons (gv_s (K := K) _) (gd_cons (gv_s (K := K) _) gd_nil)))) gd_nil))) ga_nil)))) fun v__law_rows Hc g f__law_rows => ?_
      replace f_doors := MP.mono _ g.1 f_doors
      replace f_people := MP.mono _ g.1 f_people
      replace f__law_tower := MP.mono _ g.1 f__law_tower
      replace G := G.trans g
      refine gs_set (T := tabT PT) (gv_cat (gv_v f__law_rows) (gv_lst (ga_cons (gv_tupD (gd_cons (gv_s (K := K) _) (gd_cons (gv_lstD (gd_cons (gv_s (K := K) _) gd_nil)) gd_nil))) ga_nil))) fun v__law_rows Hc g f__law_rows => ?_
      replace f_doors := MP.mono _ g.1 f_doors
      replace f_people := MP.mono _ g.1 f_people
      replace f__law_tower := MP.mono _ g.1 f__law_tower
      replace G := G.trans g
      have fT : (isL (rowsT.map (encT K))).p Hc v__law_rows := f__law_rows
      refine gs_if (T := tabT PT) (gb_not (gb_test (gv_all (gv_v fT) (Nat.le_of_ble_eq_true rfl) fun i A v H' Kt hA g' a kt => ?_))) rfl fun Hc g => ?_
      · rw [List.getElem?_map] at hA
        cases hri : rowsT[i]? with
        | none => rw [hri] at hA; cases hA
        | some r =>
          rw [hri] at hA
          cases hA
          have ck := List.all_eq_true.mp chkT_all r (List.mem_of_getElem? hri)
          unfold chkT at ck
          simp only [Bool.and_eq_true, decide_eq_true_eq] at ck
          obtain ⟨⟨k1, k2⟩, k3⟩ := ck
          obtain ⟨p, hp⟩ := Option.isSome_iff_exists.mp k1
          rw [hp] at k2
          have ft := MP.mono _ g'.1 f__law_tower
          refine row2 a fun v1 v2 a1 a2 => ⟨rfl, ?_⟩
          refine (gv_eqD (T := tabT PT) (gv_reach (gv_v ft) (gv_v a1) gv_lks0 hp (fun _ h => by cases h) (by decide)) (gv_v a2) (shaped_reach tower_ok) k3).run _ .refl _ fun v5 H5 g5 a5 => ?_
          rw [show PyData.eqv (.list ((reachR towerD p []).map PyData.str)) (.list (r.2.map PyData.str)) = true from k2] at a5
          rw [dp_bool a5]
          exact kt _ g5
      · replace G := G.trans g
        replace f__law_tower := MP.mono _ g.1 f__law_tower
        refine gs_ret (T := tabT PT) (gv_and (gv_eqD (gv_reach (p := pX) (gv_v f__law_tower) (gv_s (K := K) _) (gv_lks (K := K) ["up"] (gd_cons (gv_s (K := K) _) gd_nil))) (gv_lstD (gd_cons (gv_s (K := K) _) (gd_cons (gv_s (K := K) _) gd_nil))) (shaped_reach tower_ok)) (gv_eqD (gv_reach (p := pZ) (gv_v f__law_tower) (gv_s (K := K) _) (gv_lks (K := K) ["on"] (gd_cons (gv_s (K := K) _) gd_nil))) (gv_lstD (gd_cons (gv_s (K := K) _) (gd_cons (gv_s (K := K) _) gd_nil))) (shaped_reach tower_ok))) fun v H7 g7 a7 => ?_
        rw [tower_end] at a7
        have ev := dp_bool a7
        subst ev
        exact q _ (G.trans g7)
end
end Lw
set_option Elab.async false
set_option linter.all false
set_option maxRecDepth 100000
set_option maxHeartbeats 4000000
-- DEFAULTS fn=cheapest:C.GC:hr10,is_trail:C.GT:hr7:(spIsTrail K CD CP CB CL),is_complete:C.GM:hr8:(spIsComp K CD CP CB CL),is_doubt:C.GI:hr9:(spIsDbt K CD CP CB),rules_out:C.GU:hr10:(spRules K CD CP CB CL),trail_of:C.GW:hr7,_law_house:GH:hr7; mt=reach:C.MR:hr7:C.T.cl:CB:(spReach K CD CP CB CL),is_right:C.MV:hr8:C.T.cl,price:C.MPr:hr4:C.T.cl; own=ownE:(op_ownEq (E := E0) mE FE hr1 bE pass0); ints=_law_worth _law_cell; hT=0
-- GV _law_house => (gv_house @A (by decide) (by decide))
-- GV trail_of => (gv_trailOf @A)
namespace Lw
open PySem PySem.Spec PyProof.Rows L2 TxS LkO Lk LkG LamX LkS Ld Gv
theorem nt {b : Bool} (h : (!b) = true) : b = false := by cases b <;> simp_all
section
variable {P : Program} {w : World} {K : PySem.W.Frag} {mg : Str → Option Value} {base : Heap} {CD CP CB CL CK CN PT : Addr} {E : A3}
theorem house3_ok : (houseD 3).ok := house_ok (by decide) (by decide)
/-! ### _law_trails_right -/
abbrev RowU := Str × List Str × List Str × Bool × Bool
def rowsU : List RowU := [("ann", [], [], true, false), ("ann", [], ["front", "stairs", "cellar"], true, true), ("ann", [], ["stairs", "front", "cellar"], true, true), ("ann", [], ["front", "cellar"], false, false), ("ann", [], ["front", "stairs"], true, false), ("ann", ["cellar"], ["stairs", "front"], true, true),
  ("ann", ["cellar"], ["stairs", "front", "cellar"], false, false), ("ann", [], ["front", "front"], false, false), ("bob", [], ["stairs", "front", "cellar"], true, true), ("bob", [], ["front"], false, false), ("bob", ["stairs"], [], true, true), ("bob", [], ["stairs", "stairs"], false, false)]
abbrev encU (K : PySem.W.Frag) (r : RowU) : MP := isD K (.tuple [.str r.1, .tuple (r.2.1.map PyData.str), .tuple (r.2.2.1.map PyData.str), .bool r.2.2.2.1, .bool r.2.2.2.2])
def lk1 : List Str → List Str
  | [] => []
  | z :: _ => srt [z]
def chkU (r : RowU) : Bool := match (houseD 3).people.lookup r.1 with
  | none => false
  | some p => (r.2.1.all isNm) && SeqAt.shaped (.tuple (r.2.1.map PyData.str)) && ((lk1 r.2.1).all fun z => decide (z ∈ (houseD 3).doors.map (·.1))) && decide ((lk1 r.2.1).length ≤ 1000) && (r.2.2.1.all fun z => decide (z ∈ (houseD 3).doors.map (·.1))) && decide (r.2.2.1.length ≤ 1000) && !(!PyData.eqv (.bool (roomsOf (houseD 3) p (lk1 r.2.1) r.2.2.1).isSome) (.bool r.2.2.2.1)) && !(!PyData.eqv (.bool (completeOf (houseD 3) p (lk1 r.2.1) r.2.2.1)) (.bool r.2.2.2.2))
theorem chkU_all : rowsU.all chkU = true := by decide +kernel
def spTrue (PT : Addr) : Sp := fun vs H Q _ => vs = [] ∧ Tabs (tabT PT) H ∧ ∀ H', Gw (tabT PT) H H' → Q (.bl true) H'
abbrev nTrails : List Str := ["_law_house_here", "_law_rows", "_law_name", "_law_names", "_law_trail", "_law_due", "_law_whole", "_law_locks"]
theorem scTrails : FnScope nTrails [] (defScope s__law_trails_right) := ⟨rfl, rfl, rfl, by decide +kernel, rfl, by decide +kernel, by decide +kernel⟩
theorem trails_end : PyData.eqv (.tuple ((trailOf (houseD 3) pBob (srt ["stairs"])).map PyData.str)) (.tuple []) = true := by decide +kernel
theorem ok_trails {f : Addr} {fd : FuncData} (F : Fun K "_law_trails_right" "_law_trails_right" s__law_trails_right f fd) (C : P35 P w K mg base CD CP CB CL CK CN PT E) (GH : Fn P w K mg base 7 "_law_house" ["_law_worth"] (spHouse K CD CP CB PT)) : FnOk P w K mg base CX0 9 f fd [] (spTrue PT) := by
  obtain ⟨fL, mL, GL⟩ := C.lks
  refine F.ok scTrails (fun vs H Q E h => ?_) (fun cdv A outer s H vs Q E hr h => ?_)
  · obtain ⟨rfl, _⟩ := h
    rfl
  · obtain ⟨rfl, hT, q⟩ := h
    have hr3 := hr.mono (show 3 ≤ 8 by decide)
    have hr7 := hr.mono (show 7 ≤ 8 by decide)
    have hr8 := hr
    refine ⟨_, (pss_cons (ps_set (i := 0) scTrails.nd rfl (.inl rfl) (pe_fn GH hr7 (by rfl) (pa_cons pe_int pa_nil)))
      (pss_cons (ps_set (i := 1) scTrails.nd rfl (.inl rfl) (pe_lst (pa_cons (pe_tup (pa_cons pe_str (pa_cons (pe_tup pa_nil) (pa_cons (pe_tup pa_nil) (pa_cons pe_bl (pa_cons pe_bl pa_nil)))))) pa_nil)))
      (pss_cons (ps_set (i := 1) scTrails.nd rfl (.inl rfl) (pe_op op_cat (pv 1) (pe_lst (pa_cons (pe_tup (pa_cons pe_str (pa_cons (pe_tup pa_nil) (pa_cons (pe_tup (pa_cons pe_str (pa_cons pe_str (pa_cons pe_str pa_nil)))) (pa_cons pe_bl (pa_cons pe_bl pa_nil)))))) pa_nil))))
      (pss_cons (ps_set (i := 1) scTrails.nd rfl (.inl rfl) (pe_op op_cat (pv 1) (pe_lst (pa_cons (pe_tup (pa_cons pe_str (pa_cons (pe_tup pa_nil) (pa_cons (pe_tup (pa_cons pe_str (pa_cons pe_str (pa_cons pe_str pa_nil)))) (pa_cons pe_bl (pa_cons pe_bl pa_nil)))))) pa_nil))))
      (pss_cons (ps_set (i := 1) scTrails.nd rfl (.inl rfl) (pe_op op_cat (pv 1) (pe_lst (pa_cons (pe_tup (pa_cons pe_str (pa_cons (pe_tup pa_nil) (pa_cons (pe_tup (pa_cons pe_str (pa_cons pe_str pa_nil))) (pa_cons pe_bl (pa_cons pe_bl pa_nil)))))) pa_nil))))
      (pss_cons (ps_set (i := 1) scTrails.nd rfl (.inl rfl) (pe_op op_cat (pv 1) (pe_lst (pa_cons (pe_tup (pa_cons pe_str (pa_cons (pe_tup pa_nil) (pa_cons (pe_tup (pa_cons pe_str (pa_cons pe_str pa_nil))) (pa_cons pe_bl (pa_cons pe_bl pa_nil)))))) pa_nil))))
      (pss_cons (ps_set (i := 1) scTrails.nd rfl (.inl rfl) (pe_op op_cat (pv 1) (pe_lst (pa_cons (pe_tup (pa_cons pe_str (pa_cons (pe_tup (pa_cons pe_str pa_nil)) (pa_cons (pe_tup (pa_cons pe_str (pa_cons pe_str pa_nil))) (pa_cons pe_bl (pa_cons pe_bl pa_nil)))))) pa_nil))))
      (pss_cons (ps_set (i := 1) scTrails.nd rfl (.inl rfl) (pe_op op_cat (pv 1) (pe_lst (pa_cons (pe_tup (pa_cons pe_str (pa_cons (pe_tup (pa_cons pe_str pa_nil)) (pa_cons (pe_tup (pa_cons pe_str (pa_cons pe_str (pa_cons pe_str pa_nil)))) (pa_cons pe_bl (pa_cons pe_bl pa_nil)))))) pa_nil))))
      (pss_cons (ps_set (i := 1) scTrails.nd rfl (.inl rfl) (pe_op op_cat (pv 1) (pe_lst (pa_cons (pe_tup (pa_cons pe_str (pa_cons (pe_tup pa_nil) (pa_cons (pe_tup (pa_cons pe_str (pa_cons pe_str pa_nil))) (pa_cons pe_bl (pa_cons pe_bl pa_nil)))))) pa_nil))))
      (pss_cons (ps_set (i := 1) scTrails.nd rfl (.inl rfl) (pe_op op_cat (pv 1) (pe_lst (pa_cons (pe_tup (pa_cons pe_str (pa_cons (pe_tup pa_nil) (pa_cons (pe_tup (pa_cons pe_str (pa_cons pe_str (pa_cons pe_str pa_nil)))) (pa_cons pe_bl (pa_cons pe_bl pa_nil)))))) pa_nil))))
      (pss_cons (ps_set (i := 1) scTrails.nd rfl (.inl rfl) (pe_op op_cat (pv 1) (pe_lst (pa_cons (pe_tup (pa_cons pe_str (pa_cons (pe_tup pa_nil) (pa_cons (pe_tup (pa_cons pe_str pa_nil)) (pa_cons pe_bl (pa_cons pe_bl pa_nil)))))) pa_nil))))
      (pss_cons (ps_set (i := 1) scTrails.nd rfl (.inl rfl) (pe_op op_cat (pv 1) (pe_lst (pa_cons (pe_tup (pa_cons pe_str (pa_cons (pe_tup (pa_cons pe_str pa_nil)) (pa_cons (pe_tup pa_nil) (pa_cons pe_bl (pa_cons pe_bl pa_nil)))))) pa_nil))))
      (pss_cons (ps_set (i := 1) scTrails.nd rfl (.inl rfl) (pe_op op_cat (pv 1) (pe_lst (pa_cons (pe_tup (pa_cons pe_str (pa_cons (pe_tup pa_nil) (pa_cons (pe_tup (pa_cons pe_str (pa_cons pe_str pa_nil))) (pa_cons pe_bl (pa_cons pe_bl pa_nil)))))) pa_nil))))
      (pss_cons (ps_for PassesOwn.never rfl (pi_list (pv 1)) (pg_tup rfl (pgs_cons (pg_name (i := 2) scTrails.nd rfl (Or.inl rfl)) (pgs_cons (pg_name (i := 3) scTrails.nd rfl (Or.inl rfl)) (pgs_cons (pg_name (i := 4) scTrails.nd rfl (Or.inl rfl)) (pgs_cons (pg_name (i := 5) scTrails.nd rfl (Or.inl rfl)) (pgs_cons (pg_name (i := 6) scTrails.nd rfl (Or.inl rfl)) pgs_nil)))))) (pss_cons (ps_set (i := 7) scTrails.nd rfl (.inl rfl) (pe_ifExp (pt_cmpR (op_eqD hr.units) (pv 3) (pe_tup pa_nil) (nomark _)) (pe_makeR0 (E := E0) mL GL hr3 (by rfl) C.TL.mgC pass0) (StX.pe_makeR (E := E0) mL GL hr3 (by rfl) C.TL.mgC pass0 (pa_cons (pe_ix ix_tup (pv 3) pe_int (fun _ _ => rfl)) pa_nil))))
      (pss_cons (ps_if (pt_cmpR (op_neD hr.units) (pe_fn C.GT hr7 (by rfl) (pa_cons (pv 0) (pa_cons (pv 2) (pa_cons (pv 7) (pa_cons (pv 4) pa_nil))))) (pv 5) (nomark _)) (pss_one (ps_ret pe_bl)) pss_nil)
      (pss_one (ps_if (pt_cmpR (op_neD hr.units) (pe_fn C.GM hr8 (by rfl) (pa_cons (pv 0) (pa_cons (pv 2) (pa_cons (pv 7) (pa_cons (pv 4) pa_nil))))) (pv 6) (nomark _)) (pss_one (ps_ret pe_bl)) pss_nil)))))
      (pss_cons (ps_if (pt_cmpR (op_neD hr.units) (pe_fn C.GW hr7 (by rfl) (pa_cons (pv 0) (pa_cons pe_str (pa_cons (pe_makeR0 (E := E0) mL GL hr3 (by rfl) C.TL.mgC pass0) pa_nil)))) (pe_tup (pa_cons pe_str (pa_cons pe_str (pa_cons pe_str pa_nil)))) (nomark _)) (pss_one (ps_ret pe_bl)) pss_nil)
      (pss_cons (ps_if (pt_cmpR (op_neD hr.units) (pe_fn C.GW hr7 (by rfl) (pa_cons (pv 0) (pa_cons pe_str (pa_cons (StX.pe_makeR (E := E0) mL GL hr3 (by rfl) C.TL.mgC pass0 (pa_cons pe_str pa_nil)) pa_nil)))) (pe_tup (pa_cons pe_str pa_nil)) (nomark _)) (pss_one (ps_ret pe_bl)) pss_nil)
      (pss_cons (ps_if (pt_cmpR (op_neD hr.units) (pe_fn C.GW hr7 (by rfl) (pa_cons (pv 0) (pa_cons pe_str (pa_cons (StX.pe_makeR (E := E0) mL GL hr3 (by rfl) C.TL.mgC pass0 (pa_cons pe_str pa_nil)) pa_nil)))) (pe_tup (pa_cons pe_str (pa_cons pe_str pa_nil))) (nomark _)) (pss_one (ps_ret pe_bl)) pss_nil)
      (pss_one (ps_ret (pe_cmpR (op_eqD hr.units) (pe_fn C.GW hr7 (by rfl) (pa_cons (pv 0) (pa_cons pe_str (pa_cons (StX.pe_makeR (E := E0) mL GL hr3 (by rfl) C.TL.mgC pass0 (pa_cons pe_str pa_nil)) pa_nil)))) (pe_tup pa_nil) (nomark _))))))))))))))))))))), ?_⟩
    have G : Gw (tabT PT) H H := .refl
    refine gs_set (T := tabT PT) (gv_house (gv_i (K := K) _) (by decide) (by decide)) fun v__law_house_here Hc g f__law_house_here => ?_
    replace G := G.trans g
    refine gs_set (T := tabT PT) (gv_lst (ga_cons (gv_tupD (gd_cons (gv_s (K := K) _) (gd_cons (gv_tupD gd_nil) (gd_cons (gv_tupD gd_nil) (gd_cons (gv_b (K := K) _) (gd_cons (gv_b (K := K) _) gd_nil)))))) ga_nil)) fun v__law_rows Hc g f__law_rows => ?_
    replace f__law_house_here := MP.mono _ g.1 f__law_house_here
    replace G := G.trans g
    refine gs_set (T := tabT PT) (gv_cat (gv_v f__law_rows) (gv_lst (ga_cons (gv_tupD (gd_cons (gv_s (K := K) _) (gd_cons (gv_tupD gd_nil) (gd_cons (gv_tupD (gd_cons (gv_s (K := K) _) (gd_cons (gv_s (K := K) _) (gd_cons (gv_s (K := K) _) gd_nil)))) (gd_cons (gv_b (K := K) _) (gd_cons (gv_b (K := K) _) gd_nil)))))) ga_nil))) fun v__law_rows Hc g f__law_rows => ?_
    replace f__law_house_here := MP.mono _ g.1 f__law_house_here
    replace G := G.trans g
    refine gs_set (T := tabT PT) (gv_cat (gv_v f__law_rows) (gv_lst (ga_cons (gv_tupD (gd_cons (gv_s (K := K) _) (gd_cons (gv_tupD gd_nil) (gd_cons (gv_tupD (gd_cons (gv_s (K := K) _) (gd_cons (gv_s (K := K) _) (gd_cons (gv_s (K := K) _) gd_nil)))) (gd_cons (gv_b (K := K) _) (gd_cons (gv_b (K := K) _) gd_nil)))))) ga_nil))) fun v__law_rows Hc g f__law_rows => ?_
    replace f__law_house_here := MP.mono _ g.1 f__law_house_here
    replace G := G.trans g
    refine gs_set (T := tabT PT) (gv_cat (gv_v f__law_rows) (gv_lst (ga_cons (gv_tupD (gd_cons (gv_s (K := K) _) (gd_cons (gv_tupD gd_nil) (gd_cons (gv_tupD (gd_cons (gv_s (K := K) _) (gd_cons (gv_s (K := K) _) gd_nil))) (gd_cons (gv_b (K := K) _) (gd_cons (gv_b (K := K) _) gd_nil)))))) ga_nil))) fun v__law_rows Hc g f__law_rows => ?_
    replace f__law_house_here := MP.mono _ g.1 f__law_house_here
    replace G := G.trans g
    refine gs_set (T := tabT PT) (gv_cat (gv_v f__law_rows) (gv_lst (ga_cons (gv_tupD (gd_cons (gv_s (K := K) _) (gd_cons (gv_tupD gd_nil) (gd_cons (gv_tupD (gd_cons (gv_s (K := K) _) (gd_cons (gv_s (K := K) _) gd_nil))) (gd_cons (gv_b (K := K) _) (gd_cons (gv_b (K := K) _) gd_nil)))))) ga_nil))) fun v__law_rows Hc g f__law_rows => ?_
    replace f__law_house_here := MP.mono _ g.1 f__law_house_here
    replace G := G.trans g
    refine gs_set (T := tabT PT) (gv_cat (gv_v f__law_rows) (gv_lst (ga_cons (gv_tupD (gd_cons (gv_s (K := K) _) (gd_cons (gv_tupD (gd_cons (gv_s (K := K) _) gd_nil)) (gd_cons (gv_tupD (gd_cons (gv_s (K := K) _) (gd_cons (gv_s (K := K) _) gd_nil))) (gd_cons (gv_b (K := K) _) (gd_cons (gv_b (K := K) _) gd_nil)))))) ga_nil))) fun v__law_rows Hc g f__law_rows => ?_
    replace f__law_house_here := MP.mono _ g.1 f__law_house_here
    replace G := G.trans g
    refine gs_set (T := tabT PT) (gv_cat (gv_v f__law_rows) (gv_lst (ga_cons (gv_tupD (gd_cons (gv_s (K := K) _) (gd_cons (gv_tupD (gd_cons (gv_s (K := K) _) gd_nil)) (gd_cons (gv_tupD (gd_cons (gv_s (K := K) _) (gd_cons (gv_s (K := K) _) (gd_cons (gv_s (K := K) _) gd_nil)))) (gd_cons (gv_b (K := K) _) (gd_cons (gv_b (K := K) _) gd_nil)))))) ga_nil))) fun v__law_rows Hc g f__law_rows => ?_
    replace f__law_house_here := MP.mono _ g.1 f__law_house_here
    replace G := G.trans g
    refine gs_set (T := tabT PT) (gv_cat (gv_v f__law_rows) (gv_lst (ga_cons (gv_tupD (gd_cons (gv_s (K := K) _) (gd_cons (gv_tupD gd_nil) (gd_cons (gv_tupD (gd_cons (gv_s (K := K) _) (gd_cons (gv_s (K := K) _) gd_nil))) (gd_cons (gv_b (K := K) _) (gd_cons (gv_b (K := K) _) gd_nil)))))) ga_nil))) fun v__law_rows Hc g f__law_rows => ?_
    replace f__law_house_here := MP.mono _ g.1 f__law_house_here
    replace G := G.trans g
    refine gs_set (T := tabT PT) (gv_cat (gv_v f__law_rows) (gv_lst (ga_cons (gv_tupD (gd_cons (gv_s (K := K) _) (gd_cons (gv_tupD gd_nil) (gd_cons (gv_tupD (gd_cons (gv_s (K := K) _) (gd_cons (gv_s (K := K) _) (gd_cons (gv_s (K := K) _) gd_nil)))) (gd_cons (gv_b (K := K) _) (gd_cons (gv_b (K := K) _) gd_nil)))))) ga_nil))) fun v__law_rows Hc g f__law_rows => ?_
    replace f__law_house_here := MP.mono _ g.1 f__law_house_here
    replace G := G.trans g
    refine gs_set (T := tabT PT) (gv_cat (gv_v f__law_rows) (gv_lst (ga_cons (gv_tupD (gd_cons (gv_s (K := K) _) (gd_cons (gv_tupD gd_nil) (gd_cons (gv_tupD (gd_cons (gv_s (K := K) _) gd_nil)) (gd_cons (gv_b (K := K) _) (gd_cons (gv_b (K := K) _) gd_nil)))))) ga_nil))) fun v__law_rows Hc g f__law_rows => ?_
    replace f__law_house_here := MP.mono _ g.1 f__law_house_here
    replace G := G.trans g
    refine gs_set (T := tabT PT) (gv_cat (gv_v f__law_rows) (gv_lst (ga_cons (gv_tupD (gd_cons (gv_s (K := K) _) (gd_cons (gv_tupD (gd_cons (gv_s (K := K) _) gd_nil)) (gd_cons (gv_tupD gd_nil) (gd_cons (gv_b (K := K) _) (gd_cons (gv_b (K := K) _) gd_nil)))))) ga_nil))) fun v__law_rows Hc g f__law_rows => ?_
    replace f__law_house_here := MP.mono _ g.1 f__law_house_here
    replace G := G.trans g
    refine gs_set (T := tabT PT) (gv_cat (gv_v f__law_rows) (gv_lst (ga_cons (gv_tupD (gd_cons (gv_s (K := K) _) (gd_cons (gv_tupD gd_nil) (gd_cons (gv_tupD (gd_cons (gv_s (K := K) _) (gd_cons (gv_s (K := K) _) gd_nil))) (gd_cons (gv_b (K := K) _) (gd_cons (gv_b (K := K) _) gd_nil)))))) ga_nil))) fun v__law_rows Hc g f__law_rows => ?_
    replace f__law_house_here := MP.mono _ g.1 f__law_house_here
    replace G := G.trans g
    have fR : (isL (rowsU.map (encU K))).p Hc v__law_rows := f__law_rows
    refine gs_for (T := tabT PT) (fun σ => ∃ y2 y3 y4 y5 y6 y7, σ = [some v__law_house_here, some v__law_rows, y2, y3, y4, y5, y6, y7]) (gv_v fR) ⟨_, _, _, _, _, _, rfl⟩ (fun i A v σ' H' hA g' hS a D' kk => ?_) (fun σ' H' g' hS => ?_)
    · obtain ⟨y2, y3, y4, y5, y6, y7, rfl⟩ := hS
      rw [List.getElem?_map] at hA
      cases hri : rowsU[i]? with
      | none => rw [hri] at hA; cases hA
      | some r =>
        rw [hri] at hA
        cases hA
        have ck := List.all_eq_true.mp chkU_all r (List.mem_of_getElem? hri)
        unfold chkU at ck
        cases hp : (houseD 3).people.lookup r.1 with
        | none => rw [hp] at ck; cases ck
        | some p =>
        rw [hp] at ck
        simp only [Bool.and_eq_true, decide_eq_true_eq] at ck
        obtain ⟨⟨⟨⟨⟨⟨⟨k1, k2⟩, k3⟩, k4⟩, k5⟩, k6⟩, k7⟩, k8⟩ := ck
        have k3 : ∀ z ∈ lk1 r.2.1, z ∈ (houseD 3).doors.map (·.1) := fun z hz => of_decide_eq_true (List.all_eq_true.mp k3 z hz)
        have k5 : ∀ z ∈ r.2.2.1, z ∈ (houseD 3).doors.map (·.1) := fun z hz => of_decide_eq_true (List.all_eq_true.mp k5 z hz)
        have fh := MP.mono _ g'.1 f__law_house_here
        refine row5 a fun v1 v2 v3 v4 v5 a1 a2 a3 a4 a5 => ?_
        refine gs_set (T := tabT PT) (A := isK CL (lk1 r.2.1)) (gv_if (gb_test (gv_eqD (gv_v a2) (gv_tupD gd_nil) k2)) (fun e => ?_) (fun e => ?_)) fun v_l H1 g1 f_l => ?_
        · cases hz : r.2.1 with
          | nil => exact gv_lks0
          | cons z l =>
            rw [hz] at e
            simp [PyData.eqv, PyData.eqvAll] at e
        · cases hz : r.2.1 with
          | nil =>
            rw [hz] at e
            simp [PyData.eqv, PyData.eqvAll] at e
          | cons z l =>
            have fz : (isD K (.tuple ((z :: l).map PyData.str))).p H' v2 := by rw [← hz]; exact a2
            refine gv_lks (K := K) [z] (gd_cons (gv_ixT (j := 0) (gv_v fz) rfl) gd_nil) rfl (fun y hy => ?_) (by show 1 < 64; decide)
            rw [List.mem_singleton.mp hy]
            exact List.all_eq_true.mp k1 z (by rw [hz]; exact List.mem_cons_self)
        replace a1 := MP.mono _ g1.1 a1
        replace a3 := MP.mono _ g1.1 a3
        replace a4 := MP.mono _ g1.1 a4
        replace a5 := MP.mono _ g1.1 a5
        replace fh := MP.mono _ g1.1 fh
        refine gs_if (T := tabT PT) (gb_test (gv_neD (gv_isTrail (gv_v fh) (gv_v a1) (gv_v f_l) (gv_v a3) hp k3 k4 k5 k6) (gv_v a4) (shaped_b _) (shaped_b _))) (nt k7) fun H3 g3 => ?_
        replace a1 := MP.mono _ g3.1 a1
        replace a3 := MP.mono _ g3.1 a3
        replace a5 := MP.mono _ g3.1 a5
        replace fh := MP.mono _ g3.1 fh
        replace f_l := MP.mono _ g3.1 f_l
        refine gs_if1 (T := tabT PT) (gb_test (gv_neD (gv_isComp (gv_v fh) (gv_v a1) (gv_v f_l) (gv_v a3) hp k3 k4 k5 k6) (gv_v a5) (shaped_b _) (shaped_b _))) (nt k8) fun H5 g5 => ?_
        exact kk _ _ (g1.trans (g3.trans g5)) ⟨_, _, _, _, _, _, rfl⟩
    · obtain ⟨y2, y3, y4, y5, y6, y7, rfl⟩ := hS
      replace G := G.trans g'
      replace f__law_house_here := MP.mono _ g'.1 f__law_house_here
      refine gs_if (T := tabT PT) (gb_test (gv_neD (gv_trailOf (gv_v f__law_house_here) (gv_s (K := K) _) gv_lks0) (gv_tupD (gd_cons (gv_s (K := K) _) (gd_cons (gv_s (K := K) _) (gd_cons (gv_s (K := K) _) gd_nil)))))) (by decide +kernel) fun Hc g => ?_
      replace f__law_house_here := MP.mono _ g.1 f__law_house_here
      replace G := G.trans g
      refine gs_if (T := tabT PT) (gb_test (gv_neD (gv_trailOf (gv_v f__law_house_here) (gv_s (K := K) _) (gv_lks (K := K) ["front"] (gd_cons (gv_s (K := K) _) gd_nil))) (gv_tupD (gd_cons (gv_s (K := K) _) gd_nil)))) (by decide +kernel) fun Hc g => ?_
      replace f__law_house_here := MP.mono _ g.1 f__law_house_here
      replace G := G.trans g
      refine gs_if (T := tabT PT) (gb_test (gv_neD (gv_trailOf (gv_v f__law_house_here) (gv_s (K := K) _) (gv_lks (K := K) ["cellar"] (gd_cons (gv_s (K := K) _) gd_nil))) (gv_tupD (gd_cons (gv_s (K := K) _) (gd_cons (gv_s (K := K) _) gd_nil))))) (by decide +kernel) fun Hc g => ?_
      replace f__law_house_here := MP.mono _ g.1 f__law_house_here
      replace G := G.trans g
      refine gs_ret (T := tabT PT) (gv_eqD (gv_trailOf (gv_v f__law_house_here) (gv_s (K := K) _) (gv_lks (K := K) ["stairs"] (gd_cons (gv_s (K := K) _) gd_nil))) (gv_tupD gd_nil)) fun v Hc g a => ?_
      rw [trails_end] at a
      have ev := dp_bool a
      subst ev
      exact q _ (G.trans g)
/-! ### _law_doubts_right -/
abbrev RowV := Dv × Bool
abbrev dv1 : Dv := (true, "ann", ["front", "stairs", "cellar"])
abbrev dv2 : Dv := (false, "bob", ["front", "stairs"])
def rowsV : List RowV := [(dv1, true), ((true, "ann", ["stairs", "front", "cellar"]), true), (dv2, true), ((false, "bob", ["front"]), true), ((false, "bob", ["front", "cellar"]), true), ((true, "ann", ["front", "stairs"]), false), ((true, "ann", ["cellar"]), false), ((true, "bob", ["stairs", "front", "cellar"]), false),
  ((false, "ann", ["front"]), false), ((false, "bob", ["cellar"]), false), ((false, "bob", ["stairs", "front"]), false), ((false, "bob", ["front", "front"]), false), ((false, "bob", []), false), ((true, "ann", []), false)]
abbrev encV (K : PySem.W.Frag) (r : RowV) : MP := isD K (.tuple [dvD r.1, .bool r.2])
def chkV (r : RowV) : Bool := okV (houseD 3) r.1 && !(!PyData.eqv (.bool (dbtV (houseD 3) r.1)) (.bool r.2))
theorem chkV_all : rowsV.all chkV = true := by decide +kernel
abbrev RowW := Dv × List Str × Bool
def rowsW : List RowW := [(dv1, [], true), (dv1, srt ["stairs"], false), (dv1, srt ["cellar", "front"], false), (dv2, srt ["front", "stairs"], true), (dv2, srt ["stairs", "cellar", "front"], true), (dv2, srt ["front"], false), (dv2, [], false), ((false, "bob", ["cellar"]), srt ["cellar"], false), ((true, "ann", ["cellar"]), [], false)]
abbrev encW (K : PySem.W.Frag) (CL : Addr) (r : RowW) : MP := isT K [isD K (dvD r.1), isK CL r.2.1, isD K (.bool r.2.2)]
def chkW (r : RowW) : Bool := okV (houseD 3) r.1 && (r.2.1.all fun z => decide (z ∈ (houseD 3).doors.map (·.1))) && decide (r.2.1.length ≤ 1000) && PyData.eqv (.bool (dbtV (houseD 3) r.1 && strV r.2.1 r.1)) (.bool r.2.2)
theorem chkW_all : rowsW.all chkW = true := by decide +kernel
abbrev nDoubts : List Str := ["_law_house_here", "_law_first", "_law_second", "_law_rows", "_law_doubt", "_law_due", "_law_locks"]
theorem scDoubts : FnScope nDoubts [] (defScope s__law_doubts_right) := ⟨rfl, rfl, rfl, by decide +kernel, rfl, by decide +kernel, by decide +kernel⟩
theorem ok_doubts {f : Addr} {fd : FuncData} (F : Fun K "_law_doubts_right" "_law_doubts_right" s__law_doubts_right f fd) (C : P35 P w K mg base CD CP CB CL CK CN PT E) (GH : Fn P w K mg base 7 "_law_house" ["_law_worth"] (spHouse K CD CP CB PT)) : FnOk P w K mg base CX0 11 f fd [] (spTrue PT) := by
  obtain ⟨fL, mL, GL⟩ := C.lks
  refine F.ok scDoubts (fun vs H Q E h => ?_) (fun cdv A outer s H vs Q E hr h => ?_)
  · obtain ⟨rfl, _⟩ := h
    rfl
  · obtain ⟨rfl, hT, q⟩ := h
    have hr3 := hr.mono (show 3 ≤ 10 by decide)
    have hr7 := hr.mono (show 7 ≤ 10 by decide)
    have hr9 := hr.mono (show 9 ≤ 10 by decide)
    have hr10 := hr
    refine ⟨_, (pss_cons (ps_set (i := 0) scDoubts.nd rfl (.inr rfl) (pe_fn GH hr7 (by rfl) (pa_cons pe_int pa_nil)))
      (pss_cons (ps_asg (pe_tup (pa_cons (pe_tup (pa_cons pe_str (pa_cons pe_str (pa_cons (pe_tup (pa_cons pe_str (pa_cons pe_str (pa_cons pe_str pa_nil)))) pa_nil)))) (pa_cons (pe_tup (pa_cons pe_str (pa_cons pe_str (pa_cons (pe_tup (pa_cons pe_str (pa_cons pe_str pa_nil))) pa_nil)))) pa_nil))) (pg_tup rfl (pgs_cons (pg_name (i := 1) scDoubts.nd rfl (Or.inl rfl)) (pgs_cons (pg_name (i := 2) scDoubts.nd rfl (Or.inl rfl)) pgs_nil))))
      (pss_cons (ps_set (i := 3) scDoubts.nd rfl (.inl rfl) (pe_lst (pa_cons (pe_tup (pa_cons (pv 1) (pa_cons pe_bl pa_nil))) (pa_cons (pe_tup (pa_cons (pe_tup (pa_cons pe_str (pa_cons pe_str (pa_cons (pe_tup (pa_cons pe_str (pa_cons pe_str (pa_cons pe_str pa_nil)))) pa_nil)))) (pa_cons pe_bl pa_nil))) pa_nil))))
      (pss_cons (ps_set (i := 3) scDoubts.nd rfl (.inl rfl) (pe_op op_cat (pv 3) (pe_lst (pa_cons (pe_tup (pa_cons (pv 2) (pa_cons pe_bl pa_nil))) (pa_cons (pe_tup (pa_cons (pe_tup (pa_cons pe_str (pa_cons pe_str (pa_cons (pe_tup (pa_cons pe_str pa_nil)) pa_nil)))) (pa_cons pe_bl pa_nil))) pa_nil)))))
      (pss_cons (ps_set (i := 3) scDoubts.nd rfl (.inl rfl) (pe_op op_cat (pv 3) (pe_lst (pa_cons (pe_tup (pa_cons (pe_tup (pa_cons pe_str (pa_cons pe_str (pa_cons (pe_tup (pa_cons pe_str (pa_cons pe_str pa_nil))) pa_nil)))) (pa_cons pe_bl pa_nil))) pa_nil))))
      (pss_cons (ps_set (i := 3) scDoubts.nd rfl (.inl rfl) (pe_op op_cat (pv 3) (pe_lst (pa_cons (pe_tup (pa_cons (pe_tup (pa_cons pe_str (pa_cons pe_str (pa_cons (pe_tup (pa_cons pe_str (pa_cons pe_str pa_nil))) pa_nil)))) (pa_cons pe_bl pa_nil))) pa_nil))))
      (pss_cons (ps_set (i := 3) scDoubts.nd rfl (.inl rfl) (pe_op op_cat (pv 3) (pe_lst (pa_cons (pe_tup (pa_cons (pe_tup (pa_cons pe_str (pa_cons pe_str (pa_cons (pe_tup (pa_cons pe_str pa_nil)) pa_nil)))) (pa_cons pe_bl pa_nil))) pa_nil))))
      (pss_cons (ps_set (i := 3) scDoubts.nd rfl (.inl rfl) (pe_op op_cat (pv 3) (pe_lst (pa_cons (pe_tup (pa_cons (pe_tup (pa_cons pe_str (pa_cons pe_str (pa_cons (pe_tup (pa_cons pe_str (pa_cons pe_str (pa_cons pe_str pa_nil)))) pa_nil)))) (pa_cons pe_bl pa_nil))) pa_nil))))
      (pss_cons (ps_set (i := 3) scDoubts.nd rfl (.inl rfl) (pe_op op_cat (pv 3) (pe_lst (pa_cons (pe_tup (pa_cons (pe_tup (pa_cons pe_str (pa_cons pe_str (pa_cons (pe_tup (pa_cons pe_str pa_nil)) pa_nil)))) (pa_cons pe_bl pa_nil))) pa_nil))))
      (pss_cons (ps_set (i := 3) scDoubts.nd rfl (.inl rfl) (pe_op op_cat (pv 3) (pe_lst (pa_cons (pe_tup (pa_cons (pe_tup (pa_cons pe_str (pa_cons pe_str (pa_cons (pe_tup (pa_cons pe_str pa_nil)) pa_nil)))) (pa_cons pe_bl pa_nil))) pa_nil))))
      (pss_cons (ps_set (i := 3) scDoubts.nd rfl (.inl rfl) (pe_op op_cat (pv 3) (pe_lst (pa_cons (pe_tup (pa_cons (pe_tup (pa_cons pe_str (pa_cons pe_str (pa_cons (pe_tup (pa_cons pe_str (pa_cons pe_str pa_nil))) pa_nil)))) (pa_cons pe_bl pa_nil))) pa_nil))))
      (pss_cons (ps_set (i := 3) scDoubts.nd rfl (.inl rfl) (pe_op op_cat (pv 3) (pe_lst (pa_cons (pe_tup (pa_cons (pe_tup (pa_cons pe_str (pa_cons pe_str (pa_cons (pe_tup (pa_cons pe_str (pa_cons pe_str pa_nil))) pa_nil)))) (pa_cons pe_bl pa_nil))) (pa_cons (pe_tup (pa_cons (pe_tup (pa_cons pe_str (pa_cons pe_str (pa_cons (pe_tup pa_nil) pa_nil)))) (pa_cons pe_bl pa_nil))) pa_nil)))))
      (pss_cons (ps_set (i := 3) scDoubts.nd rfl (.inl rfl) (pe_op op_cat (pv 3) (pe_lst (pa_cons (pe_tup (pa_cons (pe_tup (pa_cons pe_str (pa_cons pe_str (pa_cons (pe_tup pa_nil) pa_nil)))) (pa_cons pe_bl pa_nil))) pa_nil))))
      (pss_cons (ps_for PassesOwn.never rfl (pi_list (pv 3)) (pg_tup rfl (pgs_cons (pg_name (i := 4) scDoubts.nd rfl (Or.inl rfl)) (pgs_cons (pg_name (i := 5) scDoubts.nd rfl (Or.inl rfl)) pgs_nil))) (pss_one (ps_if (pt_cmpR (op_neD hr.units) (pe_fn C.GI hr9 (by rfl) (pa_cons (pv 0) (pa_cons (pv 4) pa_nil))) (pv 5) (nomark _)) (pss_one (ps_ret pe_bl)) pss_nil)))
      (pss_cons (ps_set (i := 3) scDoubts.nd rfl (.inl rfl) (pe_lst (pa_cons (pe_tup (pa_cons (pv 1) (pa_cons (pe_makeR0 (E := E0) mL GL hr3 (by rfl) C.TL.mgC pass0) (pa_cons pe_bl pa_nil)))) (pa_cons (pe_tup (pa_cons (pv 1) (pa_cons (StX.pe_makeR (E := E0) mL GL hr3 (by rfl) C.TL.mgC pass0 (pa_cons pe_str pa_nil)) (pa_cons pe_bl pa_nil)))) pa_nil))))
      (pss_cons (ps_set (i := 3) scDoubts.nd rfl (.inl rfl) (pe_op op_cat (pv 3) (pe_lst (pa_cons (pe_tup (pa_cons (pv 1) (pa_cons (StX.pe_makeR (E := E0) mL GL hr3 (by rfl) C.TL.mgC pass0 (pa_cons pe_str (pa_cons pe_str pa_nil))) (pa_cons pe_bl pa_nil)))) pa_nil))))
      (pss_cons (ps_set (i := 3) scDoubts.nd rfl (.inl rfl) (pe_op op_cat (pv 3) (pe_lst (pa_cons (pe_tup (pa_cons (pv 2) (pa_cons (StX.pe_makeR (E := E0) mL GL hr3 (by rfl) C.TL.mgC pass0 (pa_cons pe_str (pa_cons pe_str pa_nil))) (pa_cons pe_bl pa_nil)))) pa_nil))))
      (pss_cons (ps_set (i := 3) scDoubts.nd rfl (.inl rfl) (pe_op op_cat (pv 3) (pe_lst (pa_cons (pe_tup (pa_cons (pv 2) (pa_cons (StX.pe_makeR (E := E0) mL GL hr3 (by rfl) C.TL.mgC pass0 (pa_cons pe_str (pa_cons pe_str (pa_cons pe_str pa_nil)))) (pa_cons pe_bl pa_nil)))) pa_nil))))
      (pss_cons (ps_set (i := 3) scDoubts.nd rfl (.inl rfl) (pe_op op_cat (pv 3) (pe_lst (pa_cons (pe_tup (pa_cons (pv 2) (pa_cons (StX.pe_makeR (E := E0) mL GL hr3 (by rfl) C.TL.mgC pass0 (pa_cons pe_str pa_nil)) (pa_cons pe_bl pa_nil)))) (pa_cons (pe_tup (pa_cons (pv 2) (pa_cons (pe_makeR0 (E := E0) mL GL hr3 (by rfl) C.TL.mgC pass0) (pa_cons pe_bl pa_nil)))) pa_nil)))))
      (pss_cons (ps_set (i := 3) scDoubts.nd rfl (.inl rfl) (pe_op op_cat (pv 3) (pe_lst (pa_cons (pe_tup (pa_cons (pe_tup (pa_cons pe_str (pa_cons pe_str (pa_cons (pe_tup (pa_cons pe_str pa_nil)) pa_nil)))) (pa_cons (StX.pe_makeR (E := E0) mL GL hr3 (by rfl) C.TL.mgC pass0 (pa_cons pe_str pa_nil)) (pa_cons pe_bl pa_nil)))) pa_nil))))
      (pss_cons (ps_set (i := 3) scDoubts.nd rfl (.inl rfl) (pe_op op_cat (pv 3) (pe_lst (pa_cons (pe_tup (pa_cons (pe_tup (pa_cons pe_str (pa_cons pe_str (pa_cons (pe_tup (pa_cons pe_str pa_nil)) pa_nil)))) (pa_cons (pe_makeR0 (E := E0) mL GL hr3 (by rfl) C.TL.mgC pass0) (pa_cons pe_bl pa_nil)))) pa_nil))))
      (pss_one (ps_ret (pe_callB (cr_all rfl) (by rfl) C.B.all PyProof.Rows.boot_all (pa_cons (pe_lc (own := [("_law_doubt", 4), ("_law_locks", 6), ("_law_due", 5)]) (g := (gTup K 3 (gCons (gName 4) (gCons (gName 6) (gCons (gName 5) gNil))))) (tt := tYes) (te := (tOp (rEqD K) (tCall (spRules K CD CP CB CL) [] E0 (tCons (tVar 0) (tCons (tVar 4) (tCons (tVar 6) tNil)))) (tVar 5))) rfl scDoubts.nd  (pi_list (pv 3)) (blkOk_by (N := nDoubts) (sc := defScope s__law_doubts_right) (by decide +kernel)) (fun _ _ _ _ _ => (pg_tup rfl (pgs_cons (pg_name (i := 4) scDoubts.nd rfl (Or.inl rfl)) (pgs_cons (pg_name (i := 6) scDoubts.nd rfl (Or.inl rfl)) (pgs_cons (pg_name (i := 5) scDoubts.nd rfl (Or.inl rfl)) pgs_nil))))) (fun _ _ _ _ _ => pts_nil) (fun _ _ _ _ _ => (pe_cmpR (op_eqD hr.units) (pe_fn C.GU hr10 (by rfl) (pa_cons (pv 0) (pa_cons (pv 4) (pa_cons (pv 6) pa_nil)))) (pv 5) (nomark _)))) pa_nil))))))))))))))))))))))))), ?_⟩
    have G : Gw (tabT PT) H H := .refl
    refine gs_set (T := tabT PT) (gv_house (gv_i (K := K) _) (by decide) (by decide)) fun v__law_house_here Hc g f__law_house_here => ?_
    replace G := G.trans g
    refine gs_asg2 (T := tabT PT) (K := K) (gv_tupD (gd_cons (gv_tupD (gd_cons (gv_s (K := K) _) (gd_cons (gv_s (K := K) _) (gd_cons (gv_tupD (gd_cons (gv_s (K := K) _) (gd_cons (gv_s (K := K) _) (gd_cons (gv_s (K := K) _) gd_nil)))) gd_nil)))) (gd_cons (gv_tupD (gd_cons (gv_s (K := K) _) (gd_cons (gv_s (K := K) _) (gd_cons (gv_tupD (gd_cons (gv_s (K := K) _) (gd_cons (gv_s (K := K) _) gd_nil))) gd_nil)))) gd_nil))) fun v1 v2 Hc g f_1 f_2 => ?_
    replace G := G.trans g
    replace f__law_house_here := MP.mono _ g.1 f__law_house_here
    refine gs_set (T := tabT PT) (gv_lst (ga_cons (gv_tupD (gd_cons (gv_v f_1) (gd_cons (gv_b (K := K) _) gd_nil))) (ga_cons (gv_tupD (gd_cons (gv_tupD (gd_cons (gv_s (K := K) _) (gd_cons (gv_s (K := K) _) (gd_cons (gv_tupD (gd_cons (gv_s (K := K) _) (gd_cons (gv_s (K := K) _) (gd_cons (gv_s (K := K) _) gd_nil)))) gd_nil)))) (gd_cons (gv_b (K := K) _) gd_nil))) ga_nil))) fun v__law_rows Hc g f__law_rows => ?_
    replace f__law_house_here := MP.mono _ g.1 f__law_house_here
    replace f_1 := MP.mono _ g.1 f_1
    replace f_2 := MP.mono _ g.1 f_2
    replace G := G.trans g
    refine gs_set (T := tabT PT) (gv_cat (gv_v f__law_rows) (gv_lst (ga_cons (gv_tupD (gd_cons (gv_v f_2) (gd_cons (gv_b (K := K) _) gd_nil))) (ga_cons (gv_tupD (gd_cons (gv_tupD (gd_cons (gv_s (K := K) _) (gd_cons (gv_s (K := K) _) (gd_cons (gv_tupD (gd_cons (gv_s (K := K) _) gd_nil)) gd_nil)))) (gd_cons (gv_b (K := K) _) gd_nil))) ga_nil)))) fun v__law_rows Hc g f__law_rows => ?_
    replace f__law_house_here := MP.mono _ g.1 f__law_house_here
    replace f_1 := MP.mono _ g.1 f_1
    replace f_2 := MP.mono _ g.1 f_2
    replace G := G.trans g
    refine gs_set (T := tabT PT) (gv_cat (gv_v f__law_rows) (gv_lst (ga_cons (gv_tupD (gd_cons (gv_tupD (gd_cons (gv_s (K := K) _) (gd_cons (gv_s (K := K) _) (gd_cons (gv_tupD (gd_cons (gv_s (K := K) _) (gd_cons (gv_s (K := K) _) gd_nil))) gd_nil)))) (gd_cons (gv_b (K := K) _) gd_nil))) ga_nil))) fun v__law_rows Hc g f__law_rows => ?_
    replace f__law_house_here := MP.mono _ g.1 f__law_house_here
    replace f_1 := MP.mono _ g.1 f_1
    replace f_2 := MP.mono _ g.1 f_2
    replace G := G.trans g
    refine gs_set (T := tabT PT) (gv_cat (gv_v f__law_rows) (gv_lst (ga_cons (gv_tupD (gd_cons (gv_tupD (gd_cons (gv_s (K := K) _) (gd_cons (gv_s (K := K) _) (gd_cons (gv_tupD (gd_cons (gv_s (K := K) _) (gd_cons (gv_s (K := K) _) gd_nil))) gd_nil)))) (gd_cons (gv_b (K := K) _) gd_nil))) ga_nil))) fun v__law_rows Hc g f__law_rows => ?_
    replace f__law_house_here := MP.mono _ g.1 f__law_house_here
    replace f_1 := MP.mono _ g.1 f_1
    replace f_2 := MP.mono _ g.1 f_2
    replace G := G.trans g
    refine gs_set (T := tabT PT) (gv_cat (gv_v f__law_rows) (gv_lst (ga_cons (gv_tupD (gd_cons (gv_tupD (gd_cons (gv_s (K := K) _) (gd_cons (gv_s (K := K) _) (gd_cons (gv_tupD (gd_cons (gv_s (K := K) _) gd_nil)) gd_nil)))) (gd_cons (gv_b (K := K) _) gd_nil))) ga_nil))) fun v__law_rows Hc g f__law_rows => ?_
    replace f__law_house_here := MP.mono _ g.1 f__law_house_here
    replace f_1 := MP.mono _ g.1 f_1
    replace f_2 := MP.mono _ g.1 f_2
    replace G := G.trans g
    refine gs_set (T := tabT PT) (gv_cat (gv_v f__law_rows) (gv_lst (ga_cons (gv_tupD (gd_cons (gv_tupD (gd_cons (gv_s (K := K) _) (gd_cons (gv_s (K := K) _) (gd_cons (gv_tupD (gd_cons (gv_s (K := K) _) (gd_cons (gv_s (K := K) _) (gd_cons (gv_s (K := K) _) gd_nil)))) gd_nil)))) (gd_cons (gv_b (K := K) _) gd_nil))) ga_nil))) fun v__law_rows Hc g f__law_rows => ?_
    replace f__law_house_here := MP.mono _ g.1 f__law_house_here
    replace f_1 := MP.mono _ g.1 f_1
    replace f_2 := MP.mono _ g.1 f_2
    replace G := G.trans g
    refine gs_set (T := tabT PT) (gv_cat (gv_v f__law_rows) (gv_lst (ga_cons (gv_tupD (gd_cons (gv_tupD (gd_cons (gv_s (K := K) _) (gd_cons (gv_s (K := K) _) (gd_cons (gv_tupD (gd_cons (gv_s (K := K) _) gd_nil)) gd_nil)))) (gd_cons (gv_b (K := K) _) gd_nil))) ga_nil))) fun v__law_rows Hc g f__law_rows => ?_
    replace f__law_house_here := MP.mono _ g.1 f__law_house_here
    replace f_1 := MP.mono _ g.1 f_1
    replace f_2 := MP.mono _ g.1 f_2
    replace G := G.trans g
    refine gs_set (T := tabT PT) (gv_cat (gv_v f__law_rows) (gv_lst (ga_cons (gv_tupD (gd_cons (gv_tupD (gd_cons (gv_s (K := K) _) (gd_cons (gv_s (K := K) _) (gd_cons (gv_tupD (gd_cons (gv_s (K := K) _) gd_nil)) gd_nil)))) (gd_cons (gv_b (K := K) _) gd_nil))) ga_nil))) fun v__law_rows Hc g f__law_rows => ?_
    replace f__law_house_here := MP.mono _ g.1 f__law_house_here
    replace f_1 := MP.mono _ g.1 f_1
    replace f_2 := MP.mono _ g.1 f_2
    replace G := G.trans g
    refine gs_set (T := tabT PT) (gv_cat (gv_v f__law_rows) (gv_lst (ga_cons (gv_tupD (gd_cons (gv_tupD (gd_cons (gv_s (K := K) _) (gd_cons (gv_s (K := K) _) (gd_cons (gv_tupD (gd_cons (gv_s (K := K) _) (gd_cons (gv_s (K := K) _) gd_nil))) gd_nil)))) (gd_cons (gv_b (K := K) _) gd_nil))) ga_nil))) fun v__law_rows Hc g f__law_rows => ?_
    replace f__law_house_here := MP.mono _ g.1 f__law_house_here
    replace f_1 := MP.mono _ g.1 f_1
    replace f_2 := MP.mono _ g.1 f_2
    replace G := G.trans g
    refine gs_set (T := tabT PT) (gv_cat (gv_v f__law_rows) (gv_lst (ga_cons (gv_tupD (gd_cons (gv_tupD (gd_cons (gv_s (K := K) _) (gd_cons (gv_s (K := K) _) (gd_cons (gv_tupD (gd_cons (gv_s (K := K) _) (gd_cons (gv_s (K := K) _) gd_nil))) gd_nil)))) (gd_cons (gv_b (K := K) _) gd_nil))) (ga_cons (gv_tupD (gd_cons (gv_tupD (gd_cons (gv_s (K := K) _) (gd_cons (gv_s (K := K) _) (gd_cons (gv_tupD gd_nil) gd_nil)))) (gd_cons (gv_b (K := K) _) gd_nil))) ga_nil)))) fun v__law_rows Hc g f__law_rows => ?_
    replace f__law_house_here := MP.mono _ g.1 f__law_house_here
    replace f_1 := MP.mono _ g.1 f_1
    replace f_2 := MP.mono _ g.1 f_2
    replace G := G.trans g
    refine gs_set (T := tabT PT) (gv_cat (gv_v f__law_rows) (gv_lst (ga_cons (gv_tupD (gd_cons (gv_tupD (gd_cons (gv_s (K := K) _) (gd_cons (gv_s (K := K) _) (gd_cons (gv_tupD gd_nil) gd_nil)))) (gd_cons (gv_b (K := K) _) gd_nil))) ga_nil))) fun v__law_rows Hc g f__law_rows => ?_
    replace f__law_house_here := MP.mono _ g.1 f__law_house_here
    replace f_1 := MP.mono _ g.1 f_1
    replace f_2 := MP.mono _ g.1 f_2
    replace G := G.trans g
    have fR : (isL (rowsV.map (encV K))).p Hc v__law_rows := f__law_rows
    refine gs_for (T := tabT PT) (fun σ => ∃ y4 y5 y6, σ = [some v__law_house_here, some v1, some v2, some v__law_rows, y4, y5, y6]) (gv_v fR) ⟨_, _, _, rfl⟩ (fun i A v σ' H' hA g' hS a D' kk => ?_) (fun σ' H' g' hS => ?_)
    · obtain ⟨y4, y5, y6, rfl⟩ := hS
      rw [List.getElem?_map] at hA
      cases hri : rowsV[i]? with
      | none => rw [hri] at hA; cases hA
      | some r =>
        rw [hri] at hA
        cases hA
        have ck := List.all_eq_true.mp chkV_all r (List.mem_of_getElem? hri)
        unfold chkV at ck
        simp only [Bool.and_eq_true] at ck
        have fh := MP.mono _ g'.1 f__law_house_here
        refine row2 a fun w1 w2 a1 a2 => ?_
        refine gs_if1 (T := tabT PT) (gb_test (gv_neD (gv_isDbt (gv_v fh) (gv_v a1) ck.1) (gv_v a2) (shaped_b _) (shaped_b _))) (nt ck.2) fun H5 g5 => ?_
        exact kk _ _ g5 ⟨_, _, _, rfl⟩
    · obtain ⟨y4, y5, y6, rfl⟩ := hS
      replace G := G.trans g'
      replace f__law_house_here := MP.mono _ g'.1 f__law_house_here
      replace f_1 := MP.mono _ g'.1 f_1
      replace f_2 := MP.mono _ g'.1 f_2
      refine gs_set (T := tabT PT) (gv_lst (ga_cons (gv_tup (K := K) (ga_cons (gv_v f_1) (ga_cons gv_lks0 (ga_cons (gv_b (K := K) _) ga_nil)))) (ga_cons (gv_tup (K := K) (ga_cons (gv_v f_1) (ga_cons (gv_lks (K := K) ["stairs"] (gd_cons (gv_s (K := K) _) gd_nil)) (ga_cons (gv_b (K := K) _) ga_nil)))) ga_nil))) fun v__law_rows Hc g f__law_rows => ?_
      replace f__law_house_here := MP.mono _ g.1 f__law_house_here
      replace f_1 := MP.mono _ g.1 f_1
      replace f_2 := MP.mono _ g.1 f_2
      replace G := G.trans g
      refine gs_set (T := tabT PT) (gv_cat (gv_v f__law_rows) (gv_lst (ga_cons (gv_tup (K := K) (ga_cons (gv_v f_1) (ga_cons (gv_lks (K := K) ["cellar", "front"] (gd_cons (gv_s (K := K) _) (gd_cons (gv_s (K := K) _) gd_nil))) (ga_cons (gv_b (K := K) _) ga_nil)))) ga_nil))) fun v__law_rows Hc g f__law_rows => ?_
      replace f__law_house_here := MP.mono _ g.1 f__law_house_here
      replace f_1 := MP.mono _ g.1 f_1
      replace f_2 := MP.mono _ g.1 f_2
      replace G := G.trans g
      refine gs_set (T := tabT PT) (gv_cat (gv_v f__law_rows) (gv_lst (ga_cons (gv_tup (K := K) (ga_cons (gv_v f_2) (ga_cons (gv_lks (K := K) ["front", "stairs"] (gd_cons (gv_s (K := K) _) (gd_cons (gv_s (K := K) _) gd_nil))) (ga_cons (gv_b (K := K) _) ga_nil)))) ga_nil))) fun v__law_rows Hc g f__law_rows => ?_
      replace f__law_house_here := MP.mono _ g.1 f__law_house_here
      replace f_1 := MP.mono _ g.1 f_1
      replace f_2 := MP.mono _ g.1 f_2
      replace G := G.trans g
      refine gs_set (T := tabT PT) (gv_cat (gv_v f__law_rows) (gv_lst (ga_cons (gv_tup (K := K) (ga_cons (gv_v f_2) (ga_cons (gv_lks (K := K) ["stairs", "cellar", "front"] (gd_cons (gv_s (K := K) _) (gd_cons (gv_s (K := K) _) (gd_cons (gv_s (K := K) _) gd_nil)))) (ga_cons (gv_b (K := K) _) ga_nil)))) ga_nil))) fun v__law_rows Hc g f__law_rows => ?_
      replace f__law_house_here := MP.mono _ g.1 f__law_house_here
      replace f_1 := MP.mono _ g.1 f_1
      replace f_2 := MP.mono _ g.1 f_2
      replace G := G.trans g
      refine gs_set (T := tabT PT) (gv_cat (gv_v f__law_rows) (gv_lst (ga_cons (gv_tup (K := K) (ga_cons (gv_v f_2) (ga_cons (gv_lks (K := K) ["front"] (gd_cons (gv_s (K := K) _) gd_nil)) (ga_cons (gv_b (K := K) _) ga_nil)))) (ga_cons (gv_tup (K := K) (ga_cons (gv_v f_2) (ga_cons gv_lks0 (ga_cons (gv_b (K := K) _) ga_nil)))) ga_nil)))) fun v__law_rows Hc g f__law_rows => ?_
      replace f__law_house_here := MP.mono _ g.1 f__law_house_here
      replace f_1 := MP.mono _ g.1 f_1
      replace f_2 := MP.mono _ g.1 f_2
      replace G := G.trans g
      refine gs_set (T := tabT PT) (gv_cat (gv_v f__law_rows) (gv_lst (ga_cons (gv_tup (K := K) (ga_cons (gv_tupD (gd_cons (gv_s (K := K) _) (gd_cons (gv_s (K := K) _) (gd_cons (gv_tupD (gd_cons (gv_s (K := K) _) gd_nil)) gd_nil)))) (ga_cons (gv_lks (K := K) ["cellar"] (gd_cons (gv_s (K := K) _) gd_nil)) (ga_cons (gv_b (K := K) _) ga_nil)))) ga_nil))) fun v__law_rows Hc g f__law_rows => ?_
      replace f__law_house_here := MP.mono _ g.1 f__law_house_here
      replace f_1 := MP.mono _ g.1 f_1
      replace f_2 := MP.mono _ g.1 f_2
      replace G := G.trans g
      refine gs_set (T := tabT PT) (gv_cat (gv_v f__law_rows) (gv_lst (ga_cons (gv_tup (K := K) (ga_cons (gv_tupD (gd_cons (gv_s (K := K) _) (gd_cons (gv_s (K := K) _) (gd_cons (gv_tupD (gd_cons (gv_s (K := K) _) gd_nil)) gd_nil)))) (ga_cons gv_lks0 (ga_cons (gv_b (K := K) _) ga_nil)))) ga_nil))) fun v__law_rows Hc g f__law_rows => ?_
      replace f__law_house_here := MP.mono _ g.1 f__law_house_here
      replace f_1 := MP.mono _ g.1 f_1
      replace f_2 := MP.mono _ g.1 f_2
      replace G := G.trans g
      have fW : (isL (rowsW.map (encW K CL))).p Hc v__law_rows := f__law_rows
      refine gs_ret (T := tabT PT) (gv_all (gv_v fW) (Nat.le_of_ble_eq_true rfl) fun i A v H' Kt hA g' a kt => ?_) fun v Hc g a => ?_
      · rw [List.getElem?_map] at hA
        cases hri : rowsW[i]? with
        | none => rw [hri] at hA; cases hA
        | some r =>
          rw [hri] at hA
          cases hA
          have ck := List.all_eq_true.mp chkW_all r (List.mem_of_getElem? hri)
          unfold chkW at ck
          simp only [Bool.and_eq_true, decide_eq_true_eq] at ck
          obtain ⟨⟨⟨k1, k2⟩, k3⟩, k4⟩ := ck
          have k2 : ∀ z ∈ r.2.1, z ∈ (houseD 3).doors.map (·.1) := fun z hz => of_decide_eq_true (List.all_eq_true.mp k2 z hz)
          have fh := MP.mono _ g'.1 f__law_house_here
          refine rowT3 a fun w1 w2 w3 a1 a2 a3 => ⟨rfl, ?_⟩
          refine (gv_eqD (T := tabT PT) (gv_rules (gv_v fh) (gv_v a1) (gv_v a2) k1 k2 k3) (gv_v a3) (shaped_b _) (shaped_b _)).run _ .refl _ fun v5 H5 g5 a5 => ?_
          rw [k4] at a5
          rw [dp_bool a5]
          exact kt _ g5
      · have ev := dp_bool a
        subst ev
        exact q _ (G.trans g)
end
end Lw
set_option Elab.async false
set_option linter.all false
set_option maxRecDepth 100000
set_option maxHeartbeats 4000000
namespace Gv
open PySem PySem.Spec PyProof.Rows L2 TxS LkO Lk LkG LamX LkS Ld
section
variable {T : List (Addr × Str)} {K : PySem.W.Frag} {H : Hp} {σ : L2.St}
theorem gv_first {t : TE} {A B : MP} (h : Gv T t σ H (isL [A, B])) : Gv T (tSl (rSlL K) t tNoPart (tPart (tC (.int 1)))) σ H (isL [A]) := ⟨fun H1 g Q q => h.run H1 g _ fun v H2 g2 a => by
  obtain ⟨l, vs, rfl, e1, e2⟩ := a
  obtain ⟨v1, v2, rfl, a1, a2⟩ := all2 e2
  refine ⟨1, rfl, l, _, rfl, .inl (.inl e1), fun p np => q _ _ (g2.trans (Gw.of (same_new np))) ⟨p, [v1], rfl, by rw [upd_same]; rfl, A.mono (ExtN.of (same_new np)) a1, trivial⟩⟩⟩
theorem gv_second {t : TE} {A B : MP} (h : Gv T t σ H (isL [A, B])) : Gv T (tSl (rSlL K) t (tPart (tC (.int 1))) tNoPart) σ H (isL [B]) := ⟨fun H1 g Q q => h.run H1 g _ fun v H2 g2 a => by
  obtain ⟨l, vs, rfl, e1, e2⟩ := a
  obtain ⟨v1, v2, rfl, a1, a2⟩ := all2 e2
  refine ⟨1, rfl, l, _, rfl, .inl (.inl e1), fun p np => q _ _ (g2.trans (Gw.of (same_new np))) ⟨p, [v2], rfl, by rw [upd_same]; rfl, B.mono (ExtN.of (same_new np)) a2, trivial⟩⟩⟩
theorem gv_toL {t : TE} {As : List MP} {dvs : List Dv} (h : Gv T t σ H (isL As)) (e : As = (dvs.map dvD).map (isD K) := by rfl) : Gv T t σ H (isD K (.list (dvs.map dvD))) := h.to fun a => l_toD (by rw [← e]; exact a)
/-! ### dict(..), d[k] = v for trails -/
def putT (trs : List (Str × List Str)) (n : Str) (tr : List Str) : List (Str × List Str) := trs.map fun q => if q.1 = n then (q.1, tr) else q
theorem firm_trL {trs : List (Str × List Str)} : FirmL (trL K trs) := fun q hq => by
  obtain ⟨p, _, rfl⟩ := List.mem_map.mp hq
  exact firm_D
theorem tab_putT {H : Hp} {n : Str} {u : V} {tr : List Str} (hu : (isD K (.tuple (tr.map PyData.str))).p H u) : ∀ {kvs : List (Key × V)} {trs : List (Str × List Str)}, TabM H kvs (trL K trs) → TabM H (kvs.map fun kv => if kv.1 = .inr n then (kv.1, u) else kv) (trL K (putT trs n tr))
  | _, [], h => by
    cases h
    exact .nil
  | _, q :: trs, h => by
    cases h with
    | cons a r =>
      refine .cons ?_ (tab_putT hu r)
      obtain ⟨a1, a2⟩ := a
      dsimp only at a1 a2 ⊢
      by_cases e : q.1 = n
      · rw [if_pos e, if_pos (by rw [a1, e])]
        exact ⟨a1, hu⟩
      · rw [if_neg e, if_neg (by rw [a1]; intro z; injection z with z; exact e z)]
        exact ⟨a1, a2⟩
theorem putK_has {kvs : List (Key × V)} {k : Key} {v : V} (h : k ∈ kvs.map (·.1)) : putK kvs k v = kvs.map fun kv => if kv.1 = k then (kv.1, v) else kv := by
  unfold putK
  rw [if_pos]
  rw [List.any_eq_true]
  obtain ⟨p, hp, e⟩ := List.mem_map.mp h
  exact ⟨p, hp, decide_eq_true e⟩
theorem gs_upd {tk tv : TE} {t2 : TS} {D : Ends} {i : Nat} {v : V} {n : Str} {trs : List (Str × List Str)} {tr : List Str} (a : (isDt (trL K trs)).p H v) (hi : σ[i]? = some (some v)) (hk : Gv T tk σ H (isD K (.str n))) (hv : Gv T tv σ H (isD K (.tuple (tr.map PyData.str)))) (has : n ∈ trs.map (·.1)) (few : trs.length ≤ 100)
    (kk : ∀ H1, EN H H1 → (∀ H0, Gw T H0 H → Vd H0 v → Gw T H0 H1) → (isDt (trL K (putT trs n tr))).p H1 v → t2 D σ H1) : tSeq (sDPut (tVar i) tk tv) t2 D σ H := hv.run H .refl _ fun u H1 g1 b => ⟨v, hi, hk.run H1 g1 _ fun y H2 g2 c => by
  have ey := dp_str c
  subst ey
  obtain ⟨d, kvs, rfl, e1, tb⟩ := (isDt (trL K trs)).mono (g1.trans g2).1 a
  have b2 := (isD K (.tuple (tr.map PyData.str))).mono g2.1 b
  have hm : (Sum.inr n : Key) ∈ kvs.map (·.1) := by
    rw [tb.keys]
    obtain ⟨q, hq, e⟩ := List.mem_map.mp has
    exact List.mem_map.mpr ⟨n, List.mem_map.mpr ⟨_, List.mem_map.mpr ⟨q, hq, rfl⟩, e⟩, rfl⟩
  have lk : kvs.length = trs.length := by rw [Paired.length tb, List.length_map]
  refine ⟨d, _, rfl, .inl ⟨kvs, .inr n, e1, rfl, small1000 (by omega), rfl⟩, ?_⟩
  rw [putK_has hm]
  have en : ∀ o, EN H2 (upd H2 d o) := fun o => EN.put e1
  exact kk _ ((EN.of (g1.trans g2).1).trans (en _)) (fun H0 g0 vd => ext_put rfl (g0.trans (g1.trans g2)) vd e1 (fun _ z => by cases z) fun _ z => by cases z) ⟨d, _, rfl, upd_same, tab_en (en _) firm_trL (tab_putT b2 tb)⟩⟩
theorem gs_dict {te : TE} {t2 : TS} {D : Ends} {i : Nat} {l : List (Str × MP)} (h : Gv T te σ H (isDt l)) (k : ∀ v H1, Gw T H H1 → (isDt l).p H1 v → Vd H v → t2 D (σ.set i (some v)) H1) : tSeq (tAsg (tCB (fun xs H Q => ∃ (a : Addr) (kvs : List (Key × V)), xs = [.ref a] ∧ Rd H a (.dK kvs) ∧ ∀ p, H p = none → Q (.ref p) (upd H p (.dK kvs))) (tCons te tNil)) (gName i)) t2 D σ H := h.run H .refl _ fun v H1 g1 a => by
  obtain ⟨d, kvs, rfl, e1, tb⟩ := a
  refine ⟨d, kvs, rfl, .inl e1, fun p np => k _ _ (g1.trans (Gw.of (same_new np))) ⟨p, kvs, rfl, upd_same, tb.mono fun v A q => A.mono (ExtN.of (same_new np)) q⟩ ⟨p, rfl, fun o e => ?_⟩⟩
  by_cases n : ∀ ps, o ≠ .tbl ps
  · have := g1.1 _ _ e n
    rw [np] at this
    cases this
  · exact Classical.byContradiction fun z => n fun ps q => z ⟨ps, q⟩
theorem gv_tr {t : TE} {trs : List (Str × List Str)} (h : Gv T t σ H (isDt (trL K trs))) : Gv T t σ H (isTr K trs) := h.to tr_of
end
end Gv
set_option Elab.async false
set_option linter.all false
set_option maxRecDepth 100000
set_option maxHeartbeats 4000000
-- DEFAULTS fn=cheapest:C.GC:hr10,is_trail:C.GT:hr7:(spIsTrail K CD CP CB CL),is_complete:C.GM:hr8:(spIsComp K CD CP CB CL),is_doubt:C.GI:hr9:(spIsDbt K CD CP CB),rules_out:C.GU:hr10:(spRules K CD CP CB CL),trail_of:C.GW:hr7,_law_house:GH:hr7; mt=reach:C.MR:hr7:C.T.cl:CB:(spReach K CD CP CB CL),is_right:C.MV:hr8:C.T.cl,price:C.MPr:hr4:C.T.cl; own=ownE:(op_ownEq (E := E0) mE FE hr1 bE pass0); ints=_law_worth _law_cell; none=_law_torn; frzat=_law_doors _law_people
-- GV _law_house => (gv_house @A c1 c9)
namespace Lw
open PySem PySem.Spec PyProof.Rows L2 TxS LkO Lk LkG LamX LkS Ld Gv
section
variable {P : Program} {w : World} {K : PySem.W.Frag} {mg : Str → Option Value} {base : Heap} {CD CP CB CL CK CN PT : Addr} {E : A3}
/-! ### _law_cheapest_right -/
abbrev d3 (c : Int) : DoorD := ⟨"a", "c", none, false, 1 + c % 3⟩
abbrev pAt (wants : List Str) : PersonD := ⟨"a", [], wants, ["c"]⟩
def placeD (c : Int) (wants : List Str) : BldD := ⟨["a", "b", "c"], [], [("one", ⟨"a", "b", none, false, 1⟩), ("two", ⟨"b", "c", none, false, 1⟩), ("three", d3 c)], [("x", pAt wants)]⟩
def freeD (c : Int) : BldD := ⟨["a", "b", "c"], [], [("one", ⟨"a", "b", none, false, 1⟩), ("two", ⟨"b", "c", none, false, 1⟩), ("three", d3 c)], [("x", ⟨"a", [], ["c", "b", "a"], []⟩)]⟩
def tornD : BldD := ⟨["a", "b"], [], [("go", ⟨"a", "b", none, false, 1⟩)], [("x", ⟨"a", [], ["b"], []⟩), ("y", ⟨"a", [], [], ["b"]⟩)]⟩
def badD : BldD := ⟨["a", "b"], [], [("go", ⟨"b", "a", none, false, 1⟩)], [("x", ⟨"a", [], [], ["a"]⟩), ("y", ⟨"a", [], ["b"], []⟩)]⟩
theorem torn_ok : tornD.ok := okB_ok (by decide +kernel)
theorem bad_ok : badD.ok := okB_ok (by decide +kernel)
abbrev RowC := List Str × Str × Str × List Int
def rowsC : List RowC := [([], "one", "three", [0, 2]), (["b"], "two", "three", [1, 2])]
abbrev encC (K : PySem.W.Frag) (r : RowC) : MP := isD K (.tuple [.tuple (r.1.map PyData.str), .tuple [.str r.2.1, .str r.2.2.1]])
def chkC (c : Int) (r : RowC) : Bool := okP (pAt r.1) && okB (placeD c r.1) && leastB (placeD c r.1) r.2.2.2 && decide (pk (placeD c r.1) r.2.2.2 = [r.2.1, r.2.2.1]) && isNm r.2.1 && isNm r.2.2.1
theorem chkC_all : (nine.all fun c => rowsC.all (chkC c)) = true := by decide +kernel
theorem d3_ok {c : Int} (c1 : 1 ≤ c) (c9 : c ≤ 9) : okD (d3 c) = true := by_nine (p := fun c => okD (d3 c)) (by decide +kernel) c1 c9
theorem free_ok {c : Int} (c1 : 1 ≤ c) (c9 : c ≤ 9) : (freeD c).ok := okB_ok (by_nine (p := fun c => okB (freeD c)) (by decide +kernel) c1 c9)
abbrev nCh : List Str := ["_law_worth", "_law_house_here", "_law_found", "_law_doors", "_law_rows", "_law_wants", "_law_due", "_law_place", "_law_free", "_law_people", "_law_torn", "_law_some", "_law_bad"]
theorem scCh : FnScope nCh ["_law_worth"] (defScope s__law_cheapest_right) := ⟨rfl, rfl, rfl, by decide +kernel, rfl, by decide +kernel, by decide +kernel⟩
theorem ok_ch {f : Addr} {fd : FuncData} (F : Fun K "_law_cheapest_right" "_law_cheapest_right" s__law_cheapest_right f fd) (C : P35 P w K mg base CD CP CB CL CK CN PT E) (GH : Fn P w K mg base 7 "_law_house" ["_law_worth"] (spHouse K CD CP CB PT)) : FnOk P w K mg base CX0 12 f fd ["_law_worth"] (spWorth PT) := by
  obtain ⟨fD, fdD, mkD, gD', FD0, FD⟩ := C.door
  obtain ⟨fP, fdP, mkP, gP', FP0, FP⟩ := C.pers
  obtain ⟨fB, fdB, mkB, gB', bB, FB⟩ := C.bld
  obtain ⟨fL, mL, GL⟩ := C.lks
  obtain ⟨fE, fdE, mE1, mE2, bE, FE⟩ := C.EL.ex
  have mE : OwnM K CL fE "__eq__" := ⟨mE1, mE2⟩
  obtain ⟨fN, fdN, mkN, bN, FN⟩ := C.ON.ex
  obtain ⟨_, vD0, bD0⟩ := kb_d0 FD0
  obtain ⟨_, kbDc⟩ := kb_dc FD0
  obtain ⟨_, kbPn⟩ := kb_pn FP0
  obtain ⟨_, kbPs⟩ := kb_ps FP0
  obtain ⟨_, kbPns⟩ := kb_pns FP0
  refine F.ok scCh (fun vs H Q E h => ?_) (fun cdv A outer s H vs Q E hr h => ?_)
  · obtain ⟨c, rfl, _⟩ := h
    rfl
  · obtain ⟨c, rfl, c1, c9, hT, q⟩ := h
    have hr1 := hr.mono (show 1 ≤ 11 by decide)
    have hr2 := hr.mono (show 2 ≤ 11 by decide)
    have hr3 := hr.mono (show 3 ≤ 11 by decide)
    have hr4 := hr.mono (show 4 ≤ 11 by decide)
    have hr6 := hr.mono (show 6 ≤ 11 by decide)
    have hr7 := hr.mono (show 7 ≤ 11 by decide)
    have hr10 := hr.mono (show 10 ≤ 11 by decide)
    have hr11 := hr
    refine ⟨_, (pss_cons (ps_set (i := 1) scCh.nd rfl (.inl rfl) (pe_fn GH hr7 (by rfl) (pa_cons (pv 0) pa_nil)))
      (pss_cons (ps_set (i := 2) scCh.nd rfl (.inl rfl) (pe_fn C.GC hr10 (by rfl) (pa_cons (pv 1) pa_nil)))
      (pss_cons (ps_if (PW.pt (pw_or (pt_not (pt_cmpR (op_ownEq (E := E0) mE FE hr1 bE pass0) (pe_fld (pv 2) rfl) (StX.pe_makeR (E := E0) mL GL hr3 (by rfl) C.TL.mgC pass0 (pa_cons pe_str pa_nil)) (nomark _))) (pw_or1 (pt_cmpR op_notBl (pe_mt C.SK hr11 C.TK.cl (pv 2) (pa_cons (pv 1) pa_nil)) pe_bl (nomark _))))) (pss_one (ps_ret pe_bl)) pss_nil)
      (pss_cons (ps_set (i := 3) scCh.nd rfl (.inl rfl) (pe_frz (pe_disp (pps_cons pe_str (pe_make (E := E0) mkD FD hr4 (by rfl) gD' bD0 vD0 pass0 (pa_cons pe_str (pa_cons pe_str pa_nil))) (pps_cons pe_str (pe_make (E := E0) mkD FD hr4 (by rfl) gD' bD0 vD0 pass0 (pa_cons pe_str (pa_cons pe_str pa_nil))) (pps_cons pe_str (pe_makeK (n := 2) (E := E0) mkD FD hr4 (by rfl) gD' kbDc pass0 (pa_cons pe_str (pa_cons pe_str pa_nil)) (pk_cons (pe_op op_add pe_int (pe_op op_mod (pv 0) pe_int)) pk_nil)) pps_nil))) (by rfl) (by rfl) (fun z => by cases z) (by decide))))
      (pss_cons (ps_set (i := 4) scCh.nd rfl (.inl rfl) (pe_lst (pa_cons (pe_tup (pa_cons (pe_tup pa_nil) (pa_cons (pe_tup (pa_cons pe_str (pa_cons pe_str pa_nil))) pa_nil))) (pa_cons (pe_tup (pa_cons (pe_tup (pa_cons pe_str pa_nil)) (pa_cons (pe_tup (pa_cons pe_str (pa_cons pe_str pa_nil))) pa_nil))) pa_nil))))
      (pss_cons (ps_for PassesOwn.never rfl (pi_list (pv 4)) (pg_tup rfl (pgs_cons (pg_name (i := 5) scCh.nd rfl (Or.inl rfl)) (pgs_cons (pg_name (i := 6) scCh.nd rfl (Or.inl rfl)) pgs_nil))) (pss_cons (ps_set (i := 7) scCh.nd rfl (.inl rfl) (pe_make (E := E0) mkB FB hr6 (by rfl) gB' bB .nil pass0 (pa_cons (pe_tup (pa_cons pe_str (pa_cons pe_str (pa_cons pe_str pa_nil)))) (pa_cons (pe_frz pe_dnewK) (pa_cons (pv 3) (pa_cons (pe_frz (pe_disp (pps_cons pe_str (pe_makeK (n := 1) (E := E0) mkP FP hr4 (by rfl) gP' kbPns pass0 (pa_cons pe_str pa_nil) (pk_cons (pv 5) (pk_cons (pe_tup (pa_cons pe_str pa_nil)) pk_nil))) pps_nil) (by rfl) (by rfl) (fun z => by cases z) (by decide))) pa_nil))))))
      (pss_cons (ps_if (pt_not (pt_cmpR (op_ownEq (E := E0) mE FE hr1 bE pass0) (pe_fld (pe_fn C.GC hr10 (by rfl) (pa_cons (pv 7) pa_nil)) rfl) (StX.pe_makeR (E := E0) mL GL hr3 (by rfl) C.TL.mgC pass0 (pa_cons (pe_ix ix_tup (pv 6) pe_int (fun _ _ => rfl)) (pa_cons (pe_ix ix_tup (pv 6) pe_int (fun _ _ => rfl)) pa_nil))) (nomark _))) (pss_one (ps_ret pe_bl)) pss_nil)
      (pss_one (ps_if (pt_cmpR op_notBl (pe_mt C.SK hr11 C.TK.cl (pe_fn C.GC hr10 (by rfl) (pa_cons (pv 7) pa_nil)) (pa_cons (pv 7) pa_nil)) pe_bl (nomark _)) (pss_one (ps_ret pe_bl)) pss_nil)))))
      (pss_cons (ps_set (i := 8) scCh.nd rfl (.inl rfl) (pe_make (E := E0) mkB FB hr6 (by rfl) gB' bB .nil pass0 (pa_cons (pe_tup (pa_cons pe_str (pa_cons pe_str (pa_cons pe_str pa_nil)))) (pa_cons (pe_frz pe_dnewK) (pa_cons (pv 3) (pa_cons (pe_frz (pe_disp (pps_cons pe_str (pe_makeK (n := 1) (E := E0) mkP FP hr4 (by rfl) gP' kbPn pass0 (pa_cons pe_str pa_nil) (pk_cons (pe_tup (pa_cons pe_str (pa_cons pe_str (pa_cons pe_str pa_nil)))) pk_nil)) pps_nil) (by rfl) (by rfl) (fun z => by cases z) (by decide))) pa_nil))))))
      (pss_cons (ps_if (PW.pt (pw_or (pt_not (pt_cmpR (op_ownEq (E := E0) mE FE hr1 bE pass0) (pe_fld (pe_fn C.GC hr10 (by rfl) (pa_cons (pv 8) pa_nil)) rfl) (pe_makeR0 (E := E0) mL GL hr3 (by rfl) C.TL.mgC pass0) (nomark _))) (pw_or1 (pt_cmpR op_notBl (pe_mt C.SK hr11 C.TK.cl (pe_fn C.GC hr10 (by rfl) (pa_cons (pv 8) pa_nil)) (pa_cons (pv 8) pa_nil)) pe_bl (nomark _))))) (pss_one (ps_ret pe_bl)) pss_nil)
      (pss_cons (ps_set (i := 9) scCh.nd rfl (.inl rfl) (pe_frz (pe_disp (pps_cons pe_str (pe_makeK (n := 1) (E := E0) mkP FP hr4 (by rfl) gP' kbPn pass0 (pa_cons pe_str pa_nil) (pk_cons (pe_tup (pa_cons pe_str pa_nil)) pk_nil)) (pps_cons pe_str (pe_makeK (n := 1) (E := E0) mkP FP hr4 (by rfl) gP' kbPs pass0 (pa_cons pe_str pa_nil) (pk_cons (pe_tup (pa_cons pe_str pa_nil)) pk_nil)) pps_nil)) (by rfl) (by rfl) (fun z => by cases z) (by decide))))
      (pss_cons (ps_set (i := 10) scCh.nd rfl (.inl rfl) (pe_make (E := E0) mkB FB hr6 (by rfl) gB' bB .nil pass0 (pa_cons (pe_tup (pa_cons pe_str (pa_cons pe_str pa_nil))) (pa_cons (pe_frz pe_dnewK) (pa_cons (pe_frz (pe_disp (pps_cons pe_str (pe_make (E := E0) mkD FD hr4 (by rfl) gD' bD0 vD0 pass0 (pa_cons pe_str (pa_cons pe_str pa_nil))) pps_nil) (by rfl) (by rfl) (fun z => by cases z) (by decide))) (pa_cons (pv 9) pa_nil))))))
      (pss_cons (ps_set (i := 11) scCh.nd rfl (.inl rfl) (pe_lst (pa_cons (pe_tup (pa_cons pe_str (pa_cons pe_str (pa_cons (pe_tup (pa_cons pe_str pa_nil)) pa_nil)))) (pa_cons (pe_tup (pa_cons pe_str (pa_cons pe_str (pa_cons (pe_tup (pa_cons pe_str pa_nil)) pa_nil)))) pa_nil))))
      (pss_cons (ps_if (pt_not (pt_val (pe_callB call_isi (by rfl) C.B.isi PyProof.Rows.boot_isinstance (pa_cons (pe_fn C.GC hr10 (by rfl) (pa_cons (pv 10) pa_nil)) (pa_cons (pe_glob (v := .ref CN) (by rfl) C.TN.mgC rfl) pa_nil))))) (pss_one (ps_ret pe_bl)) pss_nil)
      (pss_cons (ps_if (pt_cmpR op_notBl (pe_mt C.SN hr11 C.TN.cl (pe_fn C.GC hr10 (by rfl) (pa_cons (pv 10) pa_nil)) (pa_cons (pv 10) pa_nil)) pe_bl (nomark _)) (pss_one (ps_ret pe_bl)) pss_nil)
      (pss_cons (ps_if (pt_cmpR op_notBl (pe_mt C.SN hr11 C.TN.cl (pe_make (E := E0) mkN FN hr2 (by rfl) C.TN.mgC bN .nil pass0 (pa_cons (pv 11) pa_nil)) (pa_cons (pv 10) pa_nil)) pe_bl (nomark _)) (pss_one (ps_ret pe_bl)) pss_nil)
      (pss_cons (ps_if (pt_val (pe_mt C.SN hr11 C.TN.cl (pe_make (E := E0) mkN FN hr2 (by rfl) C.TN.mgC bN .nil pass0 (pa_cons (pe_slice sl_list (pv 11) po_none (po_some pe_int)) pa_nil)) (pa_cons (pv 10) pa_nil))) (pss_one (ps_ret pe_bl)) pss_nil)
      (pss_cons (ps_if (pt_val (pe_mt C.SN hr11 C.TN.cl (pe_make (E := E0) mkN FN hr2 (by rfl) C.TN.mgC bN .nil pass0 (pa_cons (pe_slice sl_list (pv 11) (po_some pe_int) po_none) pa_nil)) (pa_cons (pv 10) pa_nil))) (pss_one (ps_ret pe_bl)) pss_nil)
      (pss_cons (ps_if (pt_val (pe_mt C.SN hr11 C.TN.cl (pe_make (E := E0) mkN FN hr2 (by rfl) C.TN.mgC bN .nil pass0 (pa_cons (pe_lst pa_nil) pa_nil)) (pa_cons (pv 10) pa_nil))) (pss_one (ps_ret pe_bl)) pss_nil)
      (pss_cons (ps_if (pt_val (pe_mt C.SN hr11 C.TN.cl (pe_make (E := E0) mkN FN hr2 (by rfl) C.TN.mgC bN .nil pass0 (pa_cons (pe_op op_cat (pv 11) (pe_lst (pa_cons (pe_tup (pa_cons pe_str (pa_cons pe_str (pa_cons (pe_tup (pa_cons pe_str pa_nil)) pa_nil)))) pa_nil))) pa_nil)) (pa_cons (pv 10) pa_nil))) (pss_one (ps_ret pe_bl)) pss_nil)
      (pss_cons (ps_set (i := 9) scCh.nd rfl (.inl rfl) (pe_frz (pe_disp (pps_cons pe_str (pe_makeK (n := 1) (E := E0) mkP FP hr4 (by rfl) gP' kbPs pass0 (pa_cons pe_str pa_nil) (pk_cons (pe_tup (pa_cons pe_str pa_nil)) pk_nil)) (pps_cons pe_str (pe_makeK (n := 1) (E := E0) mkP FP hr4 (by rfl) gP' kbPn pass0 (pa_cons pe_str pa_nil) (pk_cons (pe_tup (pa_cons pe_str pa_nil)) pk_nil)) pps_nil)) (by rfl) (by rfl) (fun z => by cases z) (by decide))))
      (pss_cons (ps_set (i := 12) scCh.nd rfl (.inl rfl) (pe_make (E := E0) mkB FB hr6 (by rfl) gB' bB .nil pass0 (pa_cons (pe_tup (pa_cons pe_str (pa_cons pe_str pa_nil))) (pa_cons (pe_frz pe_dnewK) (pa_cons (pe_frz (pe_disp (pps_cons pe_str (pe_make (E := E0) mkD FD hr4 (by rfl) gD' bD0 vD0 pass0 (pa_cons pe_str (pa_cons pe_str pa_nil))) pps_nil) (by rfl) (by rfl) (fun z => by cases z) (by decide))) (pa_cons (pv 9) pa_nil))))))
      (pss_cons (ps_if (pt_cmpR op_notBl (pe_mt C.SN hr11 C.TN.cl (pe_make (E := E0) mkN FN hr2 (by rfl) C.TN.mgC bN .nil pass0 (pa_cons (pe_lst (pa_cons (pe_tup (pa_cons pe_str (pa_cons pe_str (pa_cons (pe_tup pa_nil) pa_nil)))) pa_nil)) pa_nil)) (pa_cons (pv 12) pa_nil)) pe_bl (nomark _)) (pss_one (ps_ret pe_bl)) pss_nil)
      (pss_one (ps_ret (pe_cmpR op_isBl (pe_mt C.SN hr11 C.TN.cl (pe_make (E := E0) mkN FN hr2 (by rfl) C.TN.mgC bN .nil pass0 (pa_cons (pe_lst (pa_cons (pe_tup (pa_cons pe_str (pa_cons pe_str (pa_cons (pe_tup pa_nil) pa_nil)))) pa_nil)) pa_nil)) (pa_cons (pv 12) pa_nil)) pe_bl (nomark _))))))))))))))))))))))))), ?_⟩
    have G : Gw (tabT PT) H H := .refl
    have f_w : (isD K (.int c)).p H (.int c) := .int c
    refine gs_set (T := tabT PT) (gv_house (gv_v f_w) c1 c9) fun v__law_house_here Hc g f__law_house_here => ?_
    replace f_w := MP.mono _ g.1 f_w
    replace G := G.trans g
    replace hT := g.2 hT
    refine gs_set (T := tabT PT) (gv_cheap [1] ["cellar"] (gv_v f__law_house_here) hT (by_nine (p := fun c => leastB (houseD c) [1]) (by decide +kernel) c1 c9)) fun v__law_found Hc g f__law_found => ?_
    replace f_w := MP.mono _ g.1 f_w
    replace f__law_house_here := MP.mono _ g.1 f__law_house_here
    replace G := G.trans g
    replace hT := g.2 hT
    refine gs_if (T := tabT PT) (gb_or (gb_not (gb_test (gv_eqK (K := K) (gv_locks (gv_v f__law_found) C.TK.cl (C.TK.nK _ (by simp))) (gv_lks (K := K) ["cellar"] (gd_cons (gv_s (K := K) _) gd_nil))))) (gb_test (gv_notB (gv_chShows (gv_v f__law_found) (gv_v f__law_house_here) hT) (gv_b (K := K) _)))) (by decide +kernel) fun Hc g => ?_
    replace f_w := MP.mono _ g.1 f_w
    replace f__law_house_here := MP.mono _ g.1 f__law_house_here
    replace f__law_found := MP.mono _ g.1 f__law_found
    replace G := G.trans g
    replace hT := g.2 hT
    refine gs_set (T := tabT PT) (gv_frz ["one", "two", "three"] (gp_cons (gv_door0 (K := K) ⟨"a", "b", none, false, 1⟩ (gd_cons (gv_s (K := K) _) (gd_cons (gv_s (K := K) _) gd_nil))) (gp_cons (gv_door0 (K := K) ⟨"b", "c", none, false, 1⟩ (gd_cons (gv_s (K := K) _) (gd_cons (gv_s (K := K) _) gd_nil))) (gp_cons (gv_doorK (K := K) ⟨"a", "c", none, false, 1 + c % 3⟩ (gd_cons (gv_s (K := K) _) (gd_cons (gv_s (K := K) _) gd_nil)) (gd_cons (gv_add (gv_i (K := K) _) (gv_mod (gv_v f_w) (gv_i (K := K) _))) gd_nil) rfl rfl (fun _ => rfl) (d3_ok c1 c9)) gp_nil))) (fl_cons firm_O (fl_cons firm_O (fl_cons firm_O fl_nil)))) fun v__law_doors Hc g f__law_doors => ?_
    replace f_w := MP.mono _ g.1 f_w
    replace f__law_house_here := MP.mono _ g.1 f__law_house_here
    replace f__law_found := MP.mono _ g.1 f__law_found
    replace G := G.trans g
    replace hT := g.2 hT
    refine gs_set (T := tabT PT) (gv_lst (ga_cons (gv_tupD (gd_cons (gv_tupD gd_nil) (gd_cons (gv_tupD (gd_cons (gv_s (K := K) _) (gd_cons (gv_s (K := K) _) gd_nil))) gd_nil))) (ga_cons (gv_tupD (gd_cons (gv_tupD (gd_cons (gv_s (K := K) _) gd_nil)) (gd_cons (gv_tupD (gd_cons (gv_s (K := K) _) (gd_cons (gv_s (K := K) _) gd_nil))) gd_nil))) ga_nil))) fun v__law_rows Hc g f__law_rows => ?_
    replace f_w := MP.mono _ g.1 f_w
    replace f__law_house_here := MP.mono _ g.1 f__law_house_here
    replace f__law_found := MP.mono _ g.1 f__law_found
    replace f__law_doors := MP.mono _ g.1 f__law_doors
    replace G := G.trans g
    replace hT := g.2 hT
    have fR : (isL (rowsC.map (encC K))).p Hc v__law_rows := f__law_rows
    have fD : (isF (doorL CD (freeD c))).p Hc v__law_doors := f__law_doors
    refine gs_for (T := tabT PT) (fun σ => ∃ y5 y6 y7, σ = [some (.int c), some v__law_house_here, some v__law_found, some v__law_doors, some v__law_rows, y5, y6, y7, none, none, none, none, none]) (gv_v fR) ⟨_, _, _, rfl⟩ (fun i A v σ' H' hA g' hS a D' kk => ?_) (fun σ' H' g' hS => ?_)
    · obtain ⟨y5, y6, y7, rfl⟩ := hS
      rw [List.getElem?_map] at hA
      cases hri : rowsC[i]? with
      | none => rw [hri] at hA; cases hA
      | some r =>
        rw [hri] at hA
        cases hA
        have ck := List.all_eq_true.mp (by_nine (p := fun c => rowsC.all (chkC c)) chkC_all c1 c9) r (List.mem_of_getElem? hri)
        unfold chkC at ck
        simp only [Bool.and_eq_true, decide_eq_true_eq] at ck
        obtain ⟨⟨⟨⟨⟨k1, k2⟩, k3⟩, k4⟩, k5⟩, k6⟩ := ck
        replace hT := g'.2 hT
        have fd := MP.mono _ g'.1 fD
        refine row2 a fun v1 v2 a1 a2 => ?_
        refine gs_set (T := tabT PT) (gv_bld (placeD c r.1) (ga_cons (gv_tupD (gd_cons (gv_s (K := K) _) (gd_cons (gv_s (K := K) _) (gd_cons (gv_s (K := K) _) gd_nil)))) (ga_cons gv_frz0 (ga_cons (gv_v fd) (ga_cons (gv_frz ["x"] (gp_cons (gv_persK (pAt r.1) (gd_cons (gv_s _) gd_nil) (gd_cons (gv_v a1) (gd_cons (gv_tupD (gd_cons (gv_s _) gd_nil)) gd_nil)) rfl (pg_ns (p := pAt r.1) C.eE rfl) k1) gp_nil) (fl_cons firm_P fl_nil)) ga_nil)))) (okB_ok k2)) fun v_p H1 g1 f_p => ?_
        replace hT := g1.2 hT
        replace a2 := MP.mono _ g1.1 a2
        refine gs_if (T := tabT PT) (gb_not (gb_test (gv_eqK (K := K) (gv_locks (gv_cheap r.2.2.2 [r.2.1, r.2.2.1] (gv_v f_p) hT k3 k4) C.TK.cl (C.TK.nK _ (by simp))) (gv_lks (K := K) [r.2.1, r.2.2.1] (gd_cons (gv_ixT (j := 0) (gv_v a2) rfl) (gd_cons (gv_ixT (j := 1) (gv_v a2) rfl) gd_nil)) rfl (fun z hz => ?_) (by show 2 < 64; decide))))) (by rw [decide_eq_true rfl]; rfl) fun H2 g2 => ?_
        · rcases List.mem_cons.mp hz with e | e
          · rw [e]; exact k5
          · rw [List.mem_singleton.mp e]; exact k6
        replace hT := g2.2 hT
        replace f_p := MP.mono _ g2.1 f_p
        refine gs_if1 (T := tabT PT) (gb_test (gv_notB (gv_chShows (gv_cheap r.2.2.2 [r.2.1, r.2.2.1] (gv_v f_p) hT k3 k4) (gv_v f_p) hT) (gv_b (K := K) _))) rfl fun H3 g3 => ?_
        exact kk _ _ (g1.trans (g2.trans g3)) ⟨_, _, _, rfl⟩
    · obtain ⟨y5, y6, y7, rfl⟩ := hS
      replace G := G.trans g'
      replace hT := g'.2 hT
      replace fD := MP.mono _ g'.1 fD
      have lf : leastB (freeD c) [] = true := by_nine (p := fun c => leastB (freeD c) []) (by decide +kernel) c1 c9
      refine gs_set (T := tabT PT) (gv_bld (freeD c) (ga_cons (gv_tupD (gd_cons (gv_s (K := K) _) (gd_cons (gv_s (K := K) _) (gd_cons (gv_s (K := K) _) gd_nil)))) (ga_cons gv_frz0 (ga_cons (gv_v fD) (ga_cons (gv_frz ["x"] (gp_cons (gv_persK ⟨"a", [], ["c", "b", "a"], []⟩ (gd_cons (gv_s (K := K) _) gd_nil) (gd_cons (gv_tupD (gd_cons (gv_s (K := K) _) (gd_cons (gv_s (K := K) _) (gd_cons (gv_s (K := K) _) gd_nil)))) gd_nil) rfl (pg_n (p := ⟨"a", [], ["c", "b", "a"], []⟩) C.eE ⟨rfl, rfl⟩) (by decide +kernel)) gp_nil) (fl_cons firm_P fl_nil)) ga_nil)))) (free_ok c1 c9)) fun v__law_free Hc g f__law_free => ?_
      replace G := G.trans g
      replace hT := g.2 hT
      refine gs_if (T := tabT PT) (gb_or (gb_not (gb_test (gv_eqK (K := K) (gv_locks (gv_cheap [] [] (gv_v f__law_free) hT lf) C.TK.cl (C.TK.nK _ (by simp))) gv_lks0))) (gb_test (gv_notB (gv_chShows (gv_cheap [] [] (gv_v f__law_free) hT lf) (gv_v f__law_free) hT) (gv_b (K := K) _)))) (rfl) fun Hc g => ?_
      replace f__law_free := MP.mono _ g.1 f__law_free
      replace G := G.trans g
      replace hT := g.2 hT
      refine gs_set (T := tabT PT) (gv_frz ["x", "y"] (gp_cons (gv_persK ⟨"a", [], ["b"], []⟩ (gd_cons (gv_s (K := K) _) gd_nil) (gd_cons (gv_tupD (gd_cons (gv_s (K := K) _) gd_nil)) gd_nil) rfl (pg_n (p := ⟨"a", [], ["b"], []⟩) C.eE ⟨rfl, rfl⟩) (by decide +kernel)) (gp_cons (gv_persK ⟨"a", [], [], ["b"]⟩ (gd_cons (gv_s (K := K) _) gd_nil) (gd_cons (gv_tupD (gd_cons (gv_s (K := K) _) gd_nil)) gd_nil) rfl (pg_s (p := ⟨"a", [], [], ["b"]⟩) C.eE ⟨rfl, rfl⟩) (by decide +kernel)) gp_nil)) (fl_cons firm_P (fl_cons firm_P fl_nil))) fun v__law_people Hc g f__law_people => ?_
      replace G := G.trans g
      replace hT := g.2 hT
      refine gs_set (T := tabT PT) (gv_bld tornD (ga_cons (gv_tupD (gd_cons (gv_s (K := K) _) (gd_cons (gv_s (K := K) _) gd_nil))) (ga_cons gv_frz0 (ga_cons (gv_frz ["go"] (gp_cons (gv_door0 (K := K) ⟨"a", "b", none, false, 1⟩ (gd_cons (gv_s (K := K) _) (gd_cons (gv_s (K := K) _) gd_nil))) gp_nil) (fl_cons firm_O fl_nil)) (ga_cons (gv_v f__law_people) ga_nil)))) torn_ok) fun v__law_torn Hc g f__law_torn => ?_
      replace f__law_people := MP.mono _ g.1 f__law_people
      replace G := G.trans g
      replace hT := g.2 hT
      refine gs_set (T := tabT PT) (gv_lst (ga_cons (gv_tupD (gd_cons (gv_s (K := K) _) (gd_cons (gv_s (K := K) _) (gd_cons (gv_tupD (gd_cons (gv_s (K := K) _) gd_nil)) gd_nil)))) (ga_cons (gv_tupD (gd_cons (gv_s (K := K) _) (gd_cons (gv_s (K := K) _) (gd_cons (gv_tupD (gd_cons (gv_s (K := K) _) gd_nil)) gd_nil)))) ga_nil))) fun v__law_some Hc g f__law_some => ?_
      replace f__law_torn := MP.mono _ g.1 f__law_torn
      replace G := G.trans g
      replace hT := g.2 hT
      refine gs_if (T := tabT PT) (gb_not (gb_test (gv_isi (gv_cheap0 (gv_v f__law_torn) hT (by decide +kernel)) C.TN))) (rfl) fun Hc g => ?_
      replace f__law_torn := MP.mono _ g.1 f__law_torn
      replace f__law_some := MP.mono _ g.1 f__law_some
      replace G := G.trans g
      replace hT := g.2 hT
      refine gs_if (T := tabT PT) (gb_test (gv_notB (gv_no0Shows (gv_cheap0 (gv_v f__law_torn) hT (by decide +kernel)) (gv_v f__law_torn) hT) (gv_b (K := K) _))) (rfl) fun Hc g => ?_
      replace f__law_torn := MP.mono _ g.1 f__law_torn
      replace f__law_some := MP.mono _ g.1 f__law_some
      replace G := G.trans g
      replace hT := g.2 hT
      refine gs_if (T := tabT PT) (gb_test (gv_notB (gv_nShows (gv_mkNo (dvs := [(true, "y", ["go"]), (false, "x", ["go"])]) (gv_toL (gv_v f__law_some))) (gv_v f__law_torn) hT (by decide) (by decide +kernel)) (gv_b (K := K) _))) (by decide +kernel) fun Hc g => ?_
      replace f__law_torn := MP.mono _ g.1 f__law_torn
      replace f__law_some := MP.mono _ g.1 f__law_some
      replace G := G.trans g
      replace hT := g.2 hT
      refine gs_if (T := tabT PT) (gb_test (gv_nShows (gv_mkNo (dvs := [(true, "y", ["go"])]) (gv_toL (gv_first (K := K) (gv_v f__law_some)))) (gv_v f__law_torn) hT (by decide) (by decide +kernel))) (by decide +kernel) fun Hc g => ?_
      replace f__law_torn := MP.mono _ g.1 f__law_torn
      replace f__law_some := MP.mono _ g.1 f__law_some
      replace G := G.trans g
      replace hT := g.2 hT
      refine gs_if (T := tabT PT) (gb_test (gv_nShows (gv_mkNo (dvs := [(false, "x", ["go"])]) (gv_toL (gv_second (K := K) (gv_v f__law_some)))) (gv_v f__law_torn) hT (by decide) (by decide +kernel))) (by decide +kernel) fun Hc g => ?_
      replace f__law_torn := MP.mono _ g.1 f__law_torn
      replace f__law_some := MP.mono _ g.1 f__law_some
      replace G := G.trans g
      replace hT := g.2 hT
      refine gs_if (T := tabT PT) (gb_test (gv_nShows (gv_mkNo (dvs := []) (gv_toL (gv_lst ga_nil))) (gv_v f__law_torn) hT (by decide) (by decide +kernel))) (by decide +kernel) fun Hc g => ?_
      replace f__law_torn := MP.mono _ g.1 f__law_torn
      replace f__law_some := MP.mono _ g.1 f__law_some
      replace G := G.trans g
      replace hT := g.2 hT
      refine gs_if (T := tabT PT) (gb_test (gv_nShows (gv_mkNo (dvs := [(true, "y", ["go"]), (false, "x", ["go"]), (false, "y", ["go"])]) (gv_toL (gv_cat (gv_v f__law_some) (gv_lst (ga_cons (gv_tupD (gd_cons (gv_s (K := K) _) (gd_cons (gv_s (K := K) _) (gd_cons (gv_tupD (gd_cons (gv_s (K := K) _) gd_nil)) gd_nil)))) ga_nil))))) (gv_v f__law_torn) hT (by decide) (by decide +kernel))) (by decide +kernel) fun Hc g => ?_
      replace f__law_torn := MP.mono _ g.1 f__law_torn
      replace f__law_some := MP.mono _ g.1 f__law_some
      replace G := G.trans g
      replace hT := g.2 hT
      refine gs_set (T := tabT PT) (gv_frz ["x", "y"] (gp_cons (gv_persK ⟨"a", [], [], ["a"]⟩ (gd_cons (gv_s (K := K) _) gd_nil) (gd_cons (gv_tupD (gd_cons (gv_s (K := K) _) gd_nil)) gd_nil) rfl (pg_s (p := ⟨"a", [], [], ["a"]⟩) C.eE ⟨rfl, rfl⟩) (by decide +kernel)) (gp_cons (gv_persK ⟨"a", [], ["b"], []⟩ (gd_cons (gv_s (K := K) _) gd_nil) (gd_cons (gv_tupD (gd_cons (gv_s (K := K) _) gd_nil)) gd_nil) rfl (pg_n (p := ⟨"a", [], ["b"], []⟩) C.eE ⟨rfl, rfl⟩) (by decide +kernel)) gp_nil)) (fl_cons firm_P (fl_cons firm_P fl_nil))) fun v__law_people Hc g f__law_people => ?_
      replace G := G.trans g
      replace hT := g.2 hT
      refine gs_set (T := tabT PT) (gv_bld badD (ga_cons (gv_tupD (gd_cons (gv_s (K := K) _) (gd_cons (gv_s (K := K) _) gd_nil))) (ga_cons gv_frz0 (ga_cons (gv_frz ["go"] (gp_cons (gv_door0 (K := K) ⟨"b", "a", none, false, 1⟩ (gd_cons (gv_s (K := K) _) (gd_cons (gv_s (K := K) _) gd_nil))) gp_nil) (fl_cons firm_O fl_nil)) (ga_cons (gv_v f__law_people) ga_nil)))) bad_ok) fun v__law_bad Hc g f__law_bad => ?_
      replace f__law_people := MP.mono _ g.1 f__law_people
      replace G := G.trans g
      replace hT := g.2 hT
      refine gs_if (T := tabT PT) (gb_test (gv_notB (gv_nShows (gv_mkNo (dvs := [(true, "x", [])]) (gv_toL (gv_lst (ga_cons (gv_tupD (gd_cons (gv_s (K := K) _) (gd_cons (gv_s (K := K) _) (gd_cons (gv_tupD gd_nil) gd_nil)))) ga_nil)))) (gv_v f__law_bad) hT (by decide) (by decide +kernel)) (gv_b (K := K) _))) (by decide +kernel) fun Hc g => ?_
      replace f__law_bad := MP.mono _ g.1 f__law_bad
      replace G := G.trans g
      replace hT := g.2 hT
      refine gs_ret (T := tabT PT) (gv_isB (gv_nShows (gv_mkNo (dvs := [(false, "y", [])]) (gv_toL (gv_lst (ga_cons (gv_tupD (gd_cons (gv_s (K := K) _) (gd_cons (gv_s (K := K) _) (gd_cons (gv_tupD gd_nil) gd_nil)))) ga_nil)))) (gv_v f__law_bad) hT (by decide) (by decide +kernel)) (gv_b (K := K) _)) fun v Hc g a => ?_
      rw [show decide (noneB badD [(false, "y", [])] = true) = true by decide +kernel] at a
      have ev := dp_bool a
      subst ev
      exact q _ (G.trans g)
end
end Lw
set_option Elab.async false
set_option linter.all false
set_option maxRecDepth 100000
set_option maxHeartbeats 4000000
-- DEFAULTS fn=cheapest:C.GC:hr10,is_trail:C.GT:hr7:(spIsTrail K CD CP CB CL),is_complete:C.GM:hr8:(spIsComp K CD CP CB CL),is_doubt:C.GI:hr9:(spIsDbt K CD CP CB),rules_out:C.GU:hr10:(spRules K CD CP CB CL),trail_of:C.GW:hr7,_law_house:GH:hr7; mt=reach:C.MR:hr7:C.T.cl:CB:(spReach K CD CP CB CL),is_right:C.MV:hr8:C.T.cl,price:C.MPr:hr4:C.T.cl; own=ownE:(op_ownEq (E := E0) mE FE hr1 bE pass0); ints=_law_worth _law_cell
-- GV _law_house => (gv_house @A (by decide) (by decide))
namespace Lw
open PySem PySem.Spec PyProof.Rows L2 TxS LkO Lk LkG LamX LkS Ld Gv
section
variable {P : Program} {w : World} {K : PySem.W.Frag} {mg : Str → Option Value} {base : Heap} {CD CP CB CL CK CN PT : Addr} {E : A3}
/-! ### _law_answers_right -/
abbrev dvA : Dv := (true, "ann", ["front", "stairs", "cellar"])
abbrev dvB : Dv := (false, "bob", ["front"])
abbrev dvC : Dv := (false, "bob", ["stairs"])
abbrev dvW : Dv := (false, "bob", ["cellar"])
abbrev trs0 : List (Str × List Str) := [("ann", ["front", "stairs"]), ("bob", ["stairs", "front"])]
abbrev RowA := Int × List Dv × Bool
def rowsA : List RowA := [(3, [dvA, dvB, dvC], true), (3, [dvC, dvA, dvB, dvA], true), (3, [dvA, dvB], false), (3, [dvA, dvC], false), (3, [dvB, dvC], false), (3, [dvA, dvB, dvC, dvW], false), (2, [dvA, dvB, dvC], true), (2, [dvA, dvB], false), (1, [dvA], true), (1, [], false), (1, [dvB, dvC], false), (4, [dvA, dvB, dvC], true)]
abbrev encA (K : PySem.W.Frag) (r : RowA) : MP := isD K (.tuple [.int r.1, .list (r.2.1.map dvD), .bool r.2.2])
def oktB (b : BldD) (trs : List (Str × List Str)) : Bool := b.people.all fun q => match trs.lookup q.1 with | some tr => decide (tr.length ≤ 1000) && tr.all fun z => decide (z ∈ b.doors.map (·.1)) | none => false
def chkA (r : RowA) : Bool := decide (1 ≤ r.1) && decide (r.1 ≤ 9) && ((srt ["cellar"]).all fun z => decide (z ∈ (houseD r.1).doors.map (·.1))) && oktB (houseD r.1) trs0 && decide (r.2.1.length ≤ 1000) && r.2.1.all (okV (houseD r.1)) && !(!PyData.eqv (.bool (shownB (houseD r.1) (srt ["cellar"]) trs0 r.2.1)) (.bool r.2.2))
theorem chkA_all : rowsA.all chkA = true := by decide +kernel
abbrev RowB := Str × List Str
def rowsB : List RowB := [("ann", ["front"]), ("bob", []), ("bob", ["stairs"]), ("ann", ["front", "stairs", "cellar"]), ("bob", ["front", "stairs"])]
abbrev encB (K : PySem.W.Frag) (r : RowB) : MP := isD K (.tuple [.str r.1, .tuple (r.2.map PyData.str)])
def chkB (r : RowB) : Bool := decide (r.1 ∈ trs0.map (·.1)) && oktB (houseD 1) (putT trs0 r.1 r.2) && !shownB (houseD 1) (srt ["cellar"]) (putT trs0 r.1 r.2) [dvA]
theorem chkB_all : rowsB.all chkB = true := by decide +kernel
abbrev nAns : List Str := ["_law_trails", "_law_first", "_law_second", "_law_third", "_law_wrong", "_law_rows", "_law_worth", "_law_doubts", "_law_due", "_law_house_here", "_law_cases", "_law_name", "_law_trail", "_law_late"]
theorem scAns : FnScope nAns [] (defScope s__law_answers_right) := ⟨rfl, rfl, rfl, by decide +kernel, rfl, by decide +kernel, by decide +kernel⟩
theorem ok_ans {f : Addr} {fd : FuncData} (F : Fun K "_law_answers_right" "_law_answers_right" s__law_answers_right f fd) (C : P35 P w K mg base CD CP CB CL CK CN PT E) (GH : Fn P w K mg base 7 "_law_house" ["_law_worth"] (spHouse K CD CP CB PT)) : FnOk P w K mg base CX0 12 f fd [] (spTrue PT) := by
  obtain ⟨fL, mL, GL⟩ := C.lks
  obtain ⟨fK, fdK, mkK, bK, FK⟩ := C.OK.ex
  refine F.ok scAns (fun vs H Q E h => ?_) (fun cdv A outer s H vs Q E hr h => ?_)
  · obtain ⟨rfl, _⟩ := h
    rfl
  · obtain ⟨rfl, hT, q⟩ := h
    have hr2 := hr.mono (show 2 ≤ 11 by decide)
    have hr3 := hr.mono (show 3 ≤ 11 by decide)
    have hr7 := hr.mono (show 7 ≤ 11 by decide)
    have hr11 := hr
    refine ⟨_, (pss_cons (ps_set (i := 0) scAns.nd rfl (.inl rfl) (pe_disp (pps_cons pe_str (pe_tup (pa_cons pe_str (pa_cons pe_str pa_nil))) (pps_cons pe_str (pe_tup (pa_cons pe_str (pa_cons pe_str pa_nil))) pps_nil)) (by rfl) (by rfl) (fun z => by cases z) (by decide)))
      (pss_cons (ps_set (i := 1) scAns.nd rfl (.inl rfl) (pe_tup (pa_cons pe_str (pa_cons pe_str (pa_cons (pe_tup (pa_cons pe_str (pa_cons pe_str (pa_cons pe_str pa_nil)))) pa_nil)))))
      (pss_cons (ps_asg (pe_tup (pa_cons (pe_tup (pa_cons pe_str (pa_cons pe_str (pa_cons (pe_tup (pa_cons pe_str pa_nil)) pa_nil)))) (pa_cons (pe_tup (pa_cons pe_str (pa_cons pe_str (pa_cons (pe_tup (pa_cons pe_str pa_nil)) pa_nil)))) pa_nil))) (pg_tup rfl (pgs_cons (pg_name (i := 2) scAns.nd rfl (Or.inl rfl)) (pgs_cons (pg_name (i := 3) scAns.nd rfl (Or.inl rfl)) pgs_nil))))
      (pss_cons (ps_set (i := 4) scAns.nd rfl (.inl rfl) (pe_tup (pa_cons pe_str (pa_cons pe_str (pa_cons (pe_tup (pa_cons pe_str pa_nil)) pa_nil)))))
      (pss_cons (ps_set (i := 5) scAns.nd rfl (.inl rfl) (pe_lst (pa_cons (pe_tup (pa_cons pe_int (pa_cons (pe_lst (pa_cons (pv 1) (pa_cons (pv 2) (pa_cons (pv 3) pa_nil)))) (pa_cons pe_bl pa_nil)))) pa_nil)))
      (pss_cons (ps_set (i := 5) scAns.nd rfl (.inl rfl) (pe_op op_cat (pv 5) (pe_lst (pa_cons (pe_tup (pa_cons pe_int (pa_cons (pe_lst (pa_cons (pv 3) (pa_cons (pv 1) (pa_cons (pv 2) (pa_cons (pv 1) pa_nil))))) (pa_cons pe_bl pa_nil)))) (pa_cons (pe_tup (pa_cons pe_int (pa_cons (pe_lst (pa_cons (pv 1) (pa_cons (pv 2) pa_nil))) (pa_cons pe_bl pa_nil)))) pa_nil)))))
      (pss_cons (ps_set (i := 5) scAns.nd rfl (.inl rfl) (pe_op op_cat (pv 5) (pe_lst (pa_cons (pe_tup (pa_cons pe_int (pa_cons (pe_lst (pa_cons (pv 1) (pa_cons (pv 3) pa_nil))) (pa_cons pe_bl pa_nil)))) (pa_cons (pe_tup (pa_cons pe_int (pa_cons (pe_lst (pa_cons (pv 2) (pa_cons (pv 3) pa_nil))) (pa_cons pe_bl pa_nil)))) pa_nil)))))
      (pss_cons (ps_set (i := 5) scAns.nd rfl (.inl rfl) (pe_op op_cat (pv 5) (pe_lst (pa_cons (pe_tup (pa_cons pe_int (pa_cons (pe_lst (pa_cons (pv 1) (pa_cons (pv 2) (pa_cons (pv 3) (pa_cons (pv 4) pa_nil))))) (pa_cons pe_bl pa_nil)))) pa_nil))))
      (pss_cons (ps_set (i := 5) scAns.nd rfl (.inl rfl) (pe_op op_cat (pv 5) (pe_lst (pa_cons (pe_tup (pa_cons pe_int (pa_cons (pe_lst (pa_cons (pv 1) (pa_cons (pv 2) (pa_cons (pv 3) pa_nil)))) (pa_cons pe_bl pa_nil)))) (pa_cons (pe_tup (pa_cons pe_int (pa_cons (pe_lst (pa_cons (pv 1) (pa_cons (pv 2) pa_nil))) (pa_cons pe_bl pa_nil)))) pa_nil)))))
      (pss_cons (ps_set (i := 5) scAns.nd rfl (.inl rfl) (pe_op op_cat (pv 5) (pe_lst (pa_cons (pe_tup (pa_cons pe_int (pa_cons (pe_lst (pa_cons (pv 1) pa_nil)) (pa_cons pe_bl pa_nil)))) (pa_cons (pe_tup (pa_cons pe_int (pa_cons (pe_lst pa_nil) (pa_cons pe_bl pa_nil)))) (pa_cons (pe_tup (pa_cons pe_int (pa_cons (pe_lst (pa_cons (pv 2) (pa_cons (pv 3) pa_nil))) (pa_cons pe_bl pa_nil)))) pa_nil))))))
      (pss_cons (ps_set (i := 5) scAns.nd rfl (.inl rfl) (pe_op op_cat (pv 5) (pe_lst (pa_cons (pe_tup (pa_cons pe_int (pa_cons (pe_lst (pa_cons (pv 1) (pa_cons (pv 2) (pa_cons (pv 3) pa_nil)))) (pa_cons pe_bl pa_nil)))) pa_nil))))
      (pss_cons (ps_for PassesOwn.never rfl (pi_list (pv 5)) (pg_tup rfl (pgs_cons (pg_name (i := 6) scAns.nd rfl (Or.inl rfl)) (pgs_cons (pg_name (i := 7) scAns.nd rfl (Or.inl rfl)) (pgs_cons (pg_name (i := 8) scAns.nd rfl (Or.inl rfl)) pgs_nil)))) (pss_one (ps_if (pt_cmpR (op_neD hr.units) (pe_mt C.SK hr11 C.TK.cl (pe_make (E := E0) mkK FK hr2 (by rfl) C.TK.mgC bK .nil pass0 (pa_cons (StX.pe_makeR (E := E0) mL GL hr3 (by rfl) C.TL.mgC pass0 (pa_cons pe_str pa_nil)) (pa_cons (pv 0) (pa_cons (pv 7) pa_nil)))) (pa_cons (pe_fn GH hr7 (by rfl) (pa_cons (pv 6) pa_nil)) pa_nil)) (pv 8) (nomark _)) (pss_one (ps_ret pe_bl)) pss_nil)))
      (pss_cons (ps_par (i := 9) (j := 7) rfl scAns.nd rfl rfl (by decide) rfl rfl (pa_cons (pe_fn GH hr7 (by rfl) (pa_cons pe_int pa_nil)) (pa_cons (pe_lst (pa_cons (pv 1) pa_nil)) pa_nil)) rfl)
      (pss_cons (ps_set (i := 10) scAns.nd rfl (.inl rfl) (pe_lst (pa_cons (pe_tup (pa_cons pe_str (pa_cons (pe_tup (pa_cons pe_str pa_nil)) pa_nil))) (pa_cons (pe_tup (pa_cons pe_str (pa_cons (pe_tup pa_nil) pa_nil))) (pa_cons (pe_tup (pa_cons pe_str (pa_cons (pe_tup (pa_cons pe_str pa_nil)) pa_nil))) pa_nil)))))
      (pss_cons (ps_set (i := 10) scAns.nd rfl (.inl rfl) (pe_op op_cat (pv 10) (pe_lst (pa_cons (pe_tup (pa_cons pe_str (pa_cons (pe_tup (pa_cons pe_str (pa_cons pe_str (pa_cons pe_str pa_nil)))) pa_nil))) (pa_cons (pe_tup (pa_cons pe_str (pa_cons (pe_tup (pa_cons pe_str (pa_cons pe_str pa_nil))) pa_nil))) pa_nil)))))
      (pss_cons (ps_for PassesOwn.never rfl (pi_list (pv 10)) (pg_tup rfl (pgs_cons (pg_name (i := 11) scAns.nd rfl (Or.inl rfl)) (pgs_cons (pg_name (i := 12) scAns.nd rfl (Or.inl rfl)) pgs_nil))) (pss_cons (ps_set (i := 13) scAns.nd rfl (.inl rfl) (pe_callTy call_dictD (by rfl) C.B.dct PyProof.Rows.boot_dict (pa_cons (pv 0) pa_nil)))
      (pss_cons (ps_dput (hu_of hr) (pv 13) (pv 11) (pv 12) rfl)
      (pss_one (ps_if (pt_val (pe_mt C.SK hr11 C.TK.cl (pe_make (E := E0) mkK FK hr2 (by rfl) C.TK.mgC bK .nil pass0 (pa_cons (StX.pe_makeR (E := E0) mL GL hr3 (by rfl) C.TL.mgC pass0 (pa_cons pe_str pa_nil)) (pa_cons (pv 13) (pa_cons (pv 7) pa_nil)))) (pa_cons (pv 9) pa_nil))) (pss_one (ps_ret pe_bl)) pss_nil)))))
      (pss_cons (ps_dput (hu_of hr) (pv 0) pe_str (pe_tup (pa_cons pe_str (pa_cons pe_str pa_nil))) rfl)
      (pss_cons (ps_if (pt_cmpR op_notBl (pe_mt C.SK hr11 C.TK.cl (pe_make (E := E0) mkK FK hr2 (by rfl) C.TK.mgC bK .nil pass0 (pa_cons (StX.pe_makeR (E := E0) mL GL hr3 (by rfl) C.TL.mgC pass0 (pa_cons pe_str pa_nil)) (pa_cons (pv 0) (pa_cons (pv 7) pa_nil)))) (pa_cons (pv 9) pa_nil)) pe_bl (nomark _)) (pss_one (ps_ret pe_bl)) pss_nil)
      (pss_one (ps_ret (pe_cmpR op_isBl (pe_mt C.SK hr11 C.TK.cl (pe_make (E := E0) mkK FK hr2 (by rfl) C.TK.mgC bK .nil pass0 (pa_cons (StX.pe_makeR (E := E0) mL GL hr3 (by rfl) C.TL.mgC pass0 (pa_cons pe_str pa_nil)) (pa_cons (pe_disp (pps_cons pe_str (pe_tup (pa_cons pe_str pa_nil)) (pps_cons pe_str (pe_tup (pa_cons pe_str pa_nil)) pps_nil)) (by rfl) (by rfl) (fun z => by cases z) (by decide)) (pa_cons (pv 7) pa_nil)))) (pa_cons (pv 9) pa_nil)) pe_bl (nomark _)))))))))))))))))))))), ?_⟩
    have G : Gw (tabT PT) H H := .refl
    have hT0 := hT
    refine gs_setD (T := tabT PT) ["ann", "bob"] (gp_cons (gv_tupD (gd_cons (gv_s (K := K) _) (gd_cons (gv_s (K := K) _) gd_nil))) (gp_cons (gv_tupD (gd_cons (gv_s (K := K) _) (gd_cons (gv_s (K := K) _) gd_nil))) gp_nil)) (fl_cons firm_D (fl_cons firm_D fl_nil)) fun v__law_trails Hc g f__law_trails vd__law_trails => ?_
    replace vd__law_trails := vd__law_trails _ G
    replace G := G.trans g
    replace hT := g.2 hT
    refine gs_set (T := tabT PT) (gv_tupD (gd_cons (gv_s (K := K) _) (gd_cons (gv_s (K := K) _) (gd_cons (gv_tupD (gd_cons (gv_s (K := K) _) (gd_cons (gv_s (K := K) _) (gd_cons (gv_s (K := K) _) gd_nil)))) gd_nil)))) fun v__law_first Hc g f__law_first => ?_
    replace f__law_trails := MP.mono _ g.1 f__law_trails
    replace G := G.trans g
    replace hT := g.2 hT
    refine gs_asg2 (T := tabT PT) (K := K) (gv_tupD (gd_cons (gv_tupD (gd_cons (gv_s (K := K) _) (gd_cons (gv_s (K := K) _) (gd_cons (gv_tupD (gd_cons (gv_s (K := K) _) gd_nil)) gd_nil)))) (gd_cons (gv_tupD (gd_cons (gv_s (K := K) _) (gd_cons (gv_s (K := K) _) (gd_cons (gv_tupD (gd_cons (gv_s (K := K) _) gd_nil)) gd_nil)))) gd_nil))) fun v2 v3 Hc g f_2 f_3 => ?_
    replace G := G.trans g
    replace hT := g.2 hT
    replace f__law_trails := MP.mono _ g.1 f__law_trails
    replace f__law_first := MP.mono _ g.1 f__law_first
    refine gs_set (T := tabT PT) (gv_tupD (gd_cons (gv_s (K := K) _) (gd_cons (gv_s (K := K) _) (gd_cons (gv_tupD (gd_cons (gv_s (K := K) _) gd_nil)) gd_nil)))) fun v__law_wrong Hc g f__law_wrong => ?_
    replace f__law_trails := MP.mono _ g.1 f__law_trails
    replace f__law_first := MP.mono _ g.1 f__law_first
    replace f_2 := MP.mono _ g.1 f_2
    replace f_3 := MP.mono _ g.1 f_3
    replace G := G.trans g
    replace hT := g.2 hT
    refine gs_set (T := tabT PT) (gv_lst (ga_cons (gv_tupD (gd_cons (gv_i (K := K) _) (gd_cons (gv_lstD (gd_cons (gv_v f__law_first) (gd_cons (gv_v f_2) (gd_cons (gv_v f_3) gd_nil)))) (gd_cons (gv_b (K := K) _) gd_nil)))) ga_nil)) fun v__law_rows Hc g f__law_rows => ?_
    replace f__law_trails := MP.mono _ g.1 f__law_trails
    replace f__law_first := MP.mono _ g.1 f__law_first
    replace f_2 := MP.mono _ g.1 f_2
    replace f_3 := MP.mono _ g.1 f_3
    replace f__law_wrong := MP.mono _ g.1 f__law_wrong
    replace G := G.trans g
    replace hT := g.2 hT
    refine gs_set (T := tabT PT) (gv_cat (gv_v f__law_rows) (gv_lst (ga_cons (gv_tupD (gd_cons (gv_i (K := K) _) (gd_cons (gv_lstD (gd_cons (gv_v f_3) (gd_cons (gv_v f__law_first) (gd_cons (gv_v f_2) (gd_cons (gv_v f__law_first) gd_nil))))) (gd_cons (gv_b (K := K) _) gd_nil)))) (ga_cons (gv_tupD (gd_cons (gv_i (K := K) _) (gd_cons (gv_lstD (gd_cons (gv_v f__law_first) (gd_cons (gv_v f_2) gd_nil))) (gd_cons (gv_b (K := K) _) gd_nil)))) ga_nil)))) fun v__law_rows Hc g f__law_rows => ?_
    replace f__law_trails := MP.mono _ g.1 f__law_trails
    replace f__law_first := MP.mono _ g.1 f__law_first
    replace f_2 := MP.mono _ g.1 f_2
    replace f_3 := MP.mono _ g.1 f_3
    replace f__law_wrong := MP.mono _ g.1 f__law_wrong
    replace G := G.trans g
    replace hT := g.2 hT
    refine gs_set (T := tabT PT) (gv_cat (gv_v f__law_rows) (gv_lst (ga_cons (gv_tupD (gd_cons (gv_i (K := K) _) (gd_cons (gv_lstD (gd_cons (gv_v f__law_first) (gd_cons (gv_v f_3) gd_nil))) (gd_cons (gv_b (K := K) _) gd_nil)))) (ga_cons (gv_tupD (gd_cons (gv_i (K := K) _) (gd_cons (gv_lstD (gd_cons (gv_v f_2) (gd_cons (gv_v f_3) gd_nil))) (gd_cons (gv_b (K := K) _) gd_nil)))) ga_nil)))) fun v__law_rows Hc g f__law_rows => ?_
    replace f__law_trails := MP.mono _ g.1 f__law_trails
    replace f__law_first := MP.mono _ g.1 f__law_first
    replace f_2 := MP.mono _ g.1 f_2
    replace f_3 := MP.mono _ g.1 f_3
    replace f__law_wrong := MP.mono _ g.1 f__law_wrong
    replace G := G.trans g
    replace hT := g.2 hT
    refine gs_set (T := tabT PT) (gv_cat (gv_v f__law_rows) (gv_lst (ga_cons (gv_tupD (gd_cons (gv_i (K := K) _) (gd_cons (gv_lstD (gd_cons (gv_v f__law_first) (gd_cons (gv_v f_2) (gd_cons (gv_v f_3) (gd_cons (gv_v f__law_wrong) gd_nil))))) (gd_cons (gv_b (K := K) _) gd_nil)))) ga_nil))) fun v__law_rows Hc g f__law_rows => ?_
    replace f__law_trails := MP.mono _ g.1 f__law_trails
    replace f__law_first := MP.mono _ g.1 f__law_first
    replace f_2 := MP.mono _ g.1 f_2
    replace f_3 := MP.mono _ g.1 f_3
    replace f__law_wrong := MP.mono _ g.1 f__law_wrong
    replace G := G.trans g
    replace hT := g.2 hT
    refine gs_set (T := tabT PT) (gv_cat (gv_v f__law_rows) (gv_lst (ga_cons (gv_tupD (gd_cons (gv_i (K := K) _) (gd_cons (gv_lstD (gd_cons (gv_v f__law_first) (gd_cons (gv_v f_2) (gd_cons (gv_v f_3) gd_nil)))) (gd_cons (gv_b (K := K) _) gd_nil)))) (ga_cons (gv_tupD (gd_cons (gv_i (K := K) _) (gd_cons (gv_lstD (gd_cons (gv_v f__law_first) (gd_cons (gv_v f_2) gd_nil))) (gd_cons (gv_b (K := K) _) gd_nil)))) ga_nil)))) fun v__law_rows Hc g f__law_rows => ?_
    replace f__law_trails := MP.mono _ g.1 f__law_trails
    replace f__law_first := MP.mono _ g.1 f__law_first
    replace f_2 := MP.mono _ g.1 f_2
    replace f_3 := MP.mono _ g.1 f_3
    replace f__law_wrong := MP.mono _ g.1 f__law_wrong
    replace G := G.trans g
    replace hT := g.2 hT
    refine gs_set (T := tabT PT) (gv_cat (gv_v f__law_rows) (gv_lst (ga_cons (gv_tupD (gd_cons (gv_i (K := K) _) (gd_cons (gv_lstD (gd_cons (gv_v f__law_first) gd_nil)) (gd_cons (gv_b (K := K) _) gd_nil)))) (ga_cons (gv_tupD (gd_cons (gv_i (K := K) _) (gd_cons (gv_lstD gd_nil) (gd_cons (gv_b (K := K) _) gd_nil)))) (ga_cons (gv_tupD (gd_cons (gv_i (K := K) _) (gd_cons (gv_lstD (gd_cons (gv_v f_2) (gd_cons (gv_v f_3) gd_nil))) (gd_cons (gv_b (K := K) _) gd_nil)))) ga_nil))))) fun v__law_rows Hc g f__law_rows => ?_
    replace f__law_trails := MP.mono _ g.1 f__law_trails
    replace f__law_first := MP.mono _ g.1 f__law_first
    replace f_2 := MP.mono _ g.1 f_2
    replace f_3 := MP.mono _ g.1 f_3
    replace f__law_wrong := MP.mono _ g.1 f__law_wrong
    replace G := G.trans g
    replace hT := g.2 hT
    refine gs_set (T := tabT PT) (gv_cat (gv_v f__law_rows) (gv_lst (ga_cons (gv_tupD (gd_cons (gv_i (K := K) _) (gd_cons (gv_lstD (gd_cons (gv_v f__law_first) (gd_cons (gv_v f_2) (gd_cons (gv_v f_3) gd_nil)))) (gd_cons (gv_b (K := K) _) gd_nil)))) ga_nil))) fun v__law_rows Hc g f__law_rows => ?_
    replace f__law_trails := MP.mono _ g.1 f__law_trails
    replace f__law_first := MP.mono _ g.1 f__law_first
    replace f_2 := MP.mono _ g.1 f_2
    replace f_3 := MP.mono _ g.1 f_3
    replace f__law_wrong := MP.mono _ g.1 f__law_wrong
    replace G := G.trans g
    replace hT := g.2 hT
    have fR : (isL (rowsA.map (encA K))).p Hc v__law_rows := f__law_rows
    have f_t : (isDt (trL K trs0)).p Hc v__law_trails := f__law_trails
    refine gs_for (T := tabT PT) (fun σ => ∃ y6 y7 y8, σ = [some v__law_trails, some v__law_first, some v2, some v3, some v__law_wrong, some v__law_rows, y6, y7, y8, none, none, none, none, none]) (gv_v fR) ⟨_, _, _, rfl⟩ (fun i A v σ' H' hA g' hS a D' kk => ?_) (fun σ' H' g' hS => ?_)
    · obtain ⟨y6, y7, y8, rfl⟩ := hS
      rw [List.getElem?_map] at hA
      cases hri : rowsA[i]? with
      | none => rw [hri] at hA; cases hA
      | some r =>
        rw [hri] at hA
        cases hA
        have ck := List.all_eq_true.mp chkA_all r (List.mem_of_getElem? hri)
        unfold chkA at ck
        simp only [Bool.and_eq_true, decide_eq_true_eq] at ck
        obtain ⟨⟨⟨⟨⟨⟨k1, k2⟩, k3⟩, k4⟩, k5⟩, k6⟩, k7⟩ := ck
        have k3 : ∀ z ∈ srt ["cellar"], z ∈ (houseD r.1).doors.map (·.1) := fun z hz => of_decide_eq_true (List.all_eq_true.mp k3 z hz)
        replace hT := g'.2 hT
        have ft := MP.mono _ g'.1 f_t
        refine row3 a fun w1 w2 w3 a1 a2 a3 => ?_
        refine gs_if1 (T := tabT PT) (gb_test (gv_neD (gv_kShows (gv_mkLkg (gv_lks (K := K) ["cellar"] (gd_cons (gv_s (K := K) _) gd_nil)) (gv_tr (gv_v ft)) (gv_v a2)) (gv_house (gv_v a1) k1 k2) hT (by decide +kernel) k3 k4 k5 k6) (gv_v a3) (shaped_b _) (shaped_b _))) (nt k7) fun H3 g3 => ?_
        exact kk _ _ g3 ⟨_, _, _, rfl⟩
    · obtain ⟨y6, y7, y8, rfl⟩ := hS
      replace G := G.trans g'
      replace hT := g'.2 hT
      replace f_t := MP.mono _ g'.1 f_t
      replace f__law_first := MP.mono _ g'.1 f__law_first
      refine gs_par (T := tabT PT) (ga_cons (gv_house (gv_i (K := K) 1) (by decide) (by decide)) (ga_cons (gv_lstD (gd_cons (gv_v f__law_first) gd_nil)) ga_nil)) fun v_h v_d Hc g f_h f_d => ?_
      replace G := G.trans g
      replace hT := g.2 hT
      replace f_t := MP.mono _ g.1 f_t
      refine gs_set (T := tabT PT) (gv_lst (ga_cons (gv_tupD (gd_cons (gv_s (K := K) _) (gd_cons (gv_tupD (gd_cons (gv_s (K := K) _) gd_nil)) gd_nil))) (ga_cons (gv_tupD (gd_cons (gv_s (K := K) _) (gd_cons (gv_tupD gd_nil) gd_nil))) (ga_cons (gv_tupD (gd_cons (gv_s (K := K) _) (gd_cons (gv_tupD (gd_cons (gv_s (K := K) _) gd_nil)) gd_nil))) ga_nil)))) fun v__law_cases Hc g f__law_cases => ?_
      replace f_t := MP.mono _ g.1 f_t
      replace f_h := MP.mono _ g.1 f_h
      replace f_d := MP.mono _ g.1 f_d
      replace G := G.trans g
      replace hT := g.2 hT
      refine gs_set (T := tabT PT) (gv_cat (gv_v f__law_cases) (gv_lst (ga_cons (gv_tupD (gd_cons (gv_s (K := K) _) (gd_cons (gv_tupD (gd_cons (gv_s (K := K) _) (gd_cons (gv_s (K := K) _) (gd_cons (gv_s (K := K) _) gd_nil)))) gd_nil))) (ga_cons (gv_tupD (gd_cons (gv_s (K := K) _) (gd_cons (gv_tupD (gd_cons (gv_s (K := K) _) (gd_cons (gv_s (K := K) _) gd_nil))) gd_nil))) ga_nil)))) fun v__law_cases Hc g f__law_cases => ?_
      replace f_t := MP.mono _ g.1 f_t
      replace f_h := MP.mono _ g.1 f_h
      replace f_d := MP.mono _ g.1 f_d
      replace G := G.trans g
      replace hT := g.2 hT
      have fR : (isL (rowsB.map (encB K))).p Hc v__law_cases := f__law_cases
      have fd : (isD K (.list ([dvA].map dvD))).p Hc v_d := f_d
      refine gs_for (T := tabT PT) (fun σ => ∃ y11 y12 y13, σ = [some v__law_trails, some v__law_first, some v2, some v3, some v__law_wrong, some v__law_rows, y6, some v_d, y8, some v_h, some v__law_cases, y11, y12, y13]) (gv_v fR) ⟨_, _, _, rfl⟩ (fun i A v σ' H' hA g' hS a D' kk => ?_) (fun σ' H' g' hS => ?_)
      · obtain ⟨y11, y12, y13, rfl⟩ := hS
        rw [List.getElem?_map] at hA
        cases hri : rowsB[i]? with
        | none => rw [hri] at hA; cases hA
        | some r =>
          rw [hri] at hA
          cases hA
          have ck := List.all_eq_true.mp chkB_all r (List.mem_of_getElem? hri)
          unfold chkB at ck
          simp only [Bool.and_eq_true, decide_eq_true_eq] at ck
          obtain ⟨⟨k1, k2⟩, k3⟩ := ck
          replace hT := g'.2 hT
          have ft := MP.mono _ g'.1 f_t
          have fh := MP.mono _ g'.1 f_h
          have fd := MP.mono _ g'.1 fd
          refine row2 a fun w1 w2 a1 a2 => ?_
          refine gs_dict (T := tabT PT) (gv_v ft) fun v_l H1 g1 f_l vd => ?_
          refine gs_upd (T := tabT PT) (tr := r.2) f_l rfl (gv_v (MP.mono _ g1.1 a1)) (gv_v (MP.mono _ g1.1 a2)) k1 (by decide) fun H2 en2 x2 f_l => ?_
          have g2 := x2 _ g1 vd
          refine gs_if1 (T := tabT PT) (gb_test (gv_kShows (gv_mkLkg (gv_lks (K := K) ["cellar"] (gd_cons (gv_s (K := K) _) gd_nil)) (gv_tr (gv_v f_l)) (gv_v (MP.mono _ g2.1 fd))) (gv_v (MP.mono _ g2.1 fh)) (g2.2 hT) (by decide +kernel) (by decide +kernel) k2 (by decide) (by decide +kernel))) (nt k3) fun H3 g3 => ?_
          exact kk _ _ (g2.trans g3) ⟨_, _, _, rfl⟩
      · obtain ⟨y11, y12, y13, rfl⟩ := hS
        replace G := G.trans g'
        replace f_t := MP.mono _ g'.1 f_t
        replace f_h := MP.mono _ g'.1 f_h
        replace fd := MP.mono _ g'.1 fd
        refine gs_upd (T := tabT PT) (tr := ["stairs", "front"]) f_t rfl (gv_s (K := K) _) (gv_tupD (gd_cons (gv_s (K := K) _) (gd_cons (gv_s (K := K) _) gd_nil))) (by decide +kernel) (by decide) fun H2 en2 x2 f_t => ?_
        replace G := x2 _ G vd__law_trails
        replace hT := G.2 hT0
        replace f_h := firm_B.go en2 f_h
        replace fd := firm_D.go en2 fd
        refine gs_if (T := tabT PT) (gb_test (gv_notB (gv_kShows (gv_mkLkg (gv_lks (K := K) ["cellar"] (gd_cons (gv_s (K := K) _) gd_nil)) (gv_tr (gv_v f_t)) (gv_v fd)) (gv_v f_h) hT (by decide +kernel) (by decide +kernel) (by decide +kernel) (by decide) (by decide +kernel)) (gv_b (K := K) _))) (by decide +kernel) fun H3 g3 => ?_
        replace G := G.trans g3
        replace hT := g3.2 hT
        replace f_h := MP.mono _ g3.1 f_h
        replace fd := MP.mono _ g3.1 fd
        refine gs_ret (T := tabT PT) (gv_isB (gv_kShows (trs := [("ann", ["stairs"]), ("bob", ["stairs"])]) (gv_mkLkg (gv_lks (K := K) ["front"] (gd_cons (gv_s (K := K) _) gd_nil)) (gv_tr (gv_disp ["ann", "bob"] (gp_cons (gv_tupD (gd_cons (gv_s (K := K) _) gd_nil)) (gp_cons (gv_tupD (gd_cons (gv_s (K := K) _) gd_nil)) gp_nil)) (fl_cons firm_D (fl_cons firm_D fl_nil)))) (gv_v fd)) (gv_v f_h) hT (by decide +kernel) (by decide +kernel) (by decide +kernel) (by decide) (by decide +kernel)) (gv_b (K := K) _)) fun v H4 g4 a => ?_
        rw [show decide (shownB (houseD 1) (srt ["front"]) [("ann", ["stairs"]), ("bob", ["stairs"])] [dvA] = false) = true by decide +kernel] at a
        have ev := dp_bool a
        subst ev
        exact q _ (G.trans g4)
/-! ### the law -/
end
end Lw
set_option Elab.async false
set_option linter.all false
set_option maxRecDepth 100000
set_option maxHeartbeats 4000000
namespace Lw
open PySem PySem.Spec PyProof.Rows L2 TxS LkO Lk LkG LamX LkS Ld Gv
theorem pe_fn0 {X : Cx} {k : Nat} {x : Str} {ps : List Str} {sp : Sp} {p pos : Pos} (F : Fn X.prog X.w X.K X.mg X.base k x ps sp) (hr : Room k X.A) (hg : Gl X x) (hdb : (x == ("__debug__" : Str)) = false := by decide) : PE X (.Call (.Name x p) [] [] pos) (tCall sp [] E0 tNil) := by
  obtain ⟨f, fd, m, kp, b, G⟩ := F.ex
  exact pe_call0 G hr hg m kp b .nil pass0 hdb
theorem cut_take' (xs : List V) (n : Nat) : cutV xs none (some (n : Int)) = xs.take n := by
  unfold cutV
  rw [HT.sIx_none, HT.sIx_nat, List.drop_zero, Nat.sub_zero]
  by_cases h : n ≤ xs.length
  · rw [Nat.min_eq_left h]
  · rw [Nat.min_eq_right (by omega), List.take_of_length_le (Nat.le_refl _), List.take_of_length_le (by omega)]
section
variable {P : Program} {w : World} {K : PySem.W.Frag} {mg : Str → Option Value} {base : Heap} {CD CP CB CL CK CN PT CE : Addr} {E : A3}
abbrev isI (K : PySem.W.Frag) (n : Int) : MP := isD K (.int n)
theorem gv_worth {H : Hp} {σ : L2.St} {t : TE} {c : Int} (h : Gv (tabT PT) t σ H (isI K c)) (hT : Tabs (tabT PT) H) (c1 : 1 ≤ c) (c9 : c ≤ 9) : Gv (tabT PT) (tCall (spWorth PT) [] E0 (tCons t tNil)) σ H (isD K (.bool true)) :=
  gv_call (ga_cons h ga_nil) fun H1 vs g as Q q => by
    obtain ⟨v, rfl, a⟩ := all1 as
    have := dp_int a
    subst this
    exact ⟨c, rfl, c1, c9, g.2 hT, fun H' g' => q _ _ g' (.bl true)⟩
theorem gv_true {H : Hp} {σ : L2.St} (hT : Tabs (tabT PT) H) : Gv (tabT PT) (tCall (spTrue PT) [] E0 tNil) σ H (isD K (.bool true)) :=
  gv_call ga_nil fun H1 vs g as Q q => by
    cases vs with
    | nil => exact ⟨rfl, g.2 hT, fun H' g' => q _ _ g' (.bl true)⟩
    | cons _ _ => exact as.elim
theorem allI {H : Hp} : ∀ ns : List Int, AllP H (ns.map V.int) (ns.map (isI K))
  | [] => trivial
  | n :: ns => ⟨.int n, allI ns⟩
theorem gv_cut {H : Hp} {σ : L2.St} {a : Addr} {ns : List Int} (h : SqL K H a (ns.map V.int)) (hi : σ[0]? = some (some (.ref a))) : Gv (tabT PT) (tSl (rSlL K) (tVar 0) tNoPart (tPart (tC (.int 3)))) σ H (isL ((ns.take 3).map (isI K))) := ⟨fun H1 g Q q => ⟨_, hi, 3, rfl, a, _, rfl, ExtN.seq g.1 h, fun p np => q _ _ (Gw.of (same_new np)) ⟨p, (ns.take 3).map V.int, rfl, by
  rw [upd_same, List.map_take]
  exact congrArg (fun l => some (HO.lst l)) (cut_take' (ns.map V.int) 3), allI _⟩⟩⟩
def absI (i : Int) : Int := if i < 0 then -i else i
theorem gv_abs {H : Hp} {σ : L2.St} {t : TE} {i : Int} (h : Gv (tabT PT) t σ H (isI K i)) : Gv (tabT PT) (tCB (fun xs H Q => ∃ i : Int, xs = [.int i] ∧ Q (.int (if i < 0 then -i else i)) H) (tCons t tNil)) σ H (isI K (absI i)) := ⟨fun H1 g Q q => h.run H1 g _ fun v H2 g2 a => by
  have := dp_int a
  subst this
  exact ⟨i, rfl, q _ _ g2 (.int _)⟩⟩
abbrev tBody (K : PySem.W.Frag) (PT : Addr) : TS := tSeq (tFor (iList K (tOp rCat (tLst (tCons (tC (.int 0)) tNil)) (tSl (rSlL K) (tVar 0) tNoPart (tPart (tC (.int 3)))))) (gName 1) (tSeq (tAsg (tOp (rI0 fun i j => .int (i + j)) (tC (.int 1)) (tOp (rI (fun _ j => 0 < j) fun i j => .int (i % j)) (tCB (fun xs H Q => ∃ i : Int, xs = [.int i] ∧ Q (.int (if i < 0 then -i else i)) H) (tCons (tVar 1) tNil)) (tC (.int 9)))) (gName 2))
  (tIfS (tOr (tNot (tTest (tCall (spWorth PT) [] E0 (tCons (tVar 2) tNil)))) (tNot (tTest (tCall (spWorth PT) [] E0 (tCons (tVar 2) tNil))))) (tRet (tC (.bl false))) tNext))) (tRet (tAndV (tCall (spTrue PT) [] E0 tNil) (tAndV (tCall (spTrue PT) [] E0 tNil) (tCall (spTrue PT) [] E0 tNil))))
def spLaw (K : PySem.W.Frag) (PT : Addr) : Sp := fun vs H Q _ => ∃ (a : Addr) (ns : List Int), vs = [.ref a] ∧ SqL K H a (ns.map V.int) ∧ ns.length ≤ 63 ∧ Tabs (tabT PT) H ∧ ∀ H', Q (.bl true) H'
theorem scLaw : FnScope ["_law_script", "_law_cell", "_law_worth"] ["_law_script"] (defScope s_law) := ⟨rfl, rfl, rfl, by decide +kernel, rfl, by decide +kernel, by decide +kernel⟩
theorem ok_law {f : Addr} {fd : FuncData} (F : Fun K "law" "law" s_law f fd) (mA : mg "abs" = none) (gE : mg "LockError" = some (.ref CE))
    (GR : Fn P w K mg base 9 "_law_reaches_right" ["_law_worth"] (spWorth PT)) (GC : Fn P w K mg base 12 "_law_cheapest_right" ["_law_worth"] (spWorth PT)) (GT : Fn P w K mg base 9 "_law_trails_right" [] (spTrue PT)) (GD : Fn P w K mg base 11 "_law_doubts_right" [] (spTrue PT)) (GA : Fn P w K mg base 12 "_law_answers_right" [] (spTrue PT)) :
    FnOk P w K mg base CX0 13 f fd ["_law_script"] (spLaw K PT) := by
  refine F.ok scLaw (fun vs H Q E h => ?_) (fun cdv A outer s H vs Q E hr h => ?_)
  · obtain ⟨a, ns, rfl, _⟩ := h
    rfl
  · obtain ⟨a, ns, rfl, hS, hl, hT, q⟩ := h
    have hr9 := hr.mono (show 9 ≤ 12 by decide)
    have hr11 := hr.mono (show 11 ≤ 12 by decide)
    refine ⟨_, pss_one (ps_try_only (tb := fun _ => tBody K PT) (ts := fun _ _ _ => tRet (tC (.bl false))) (Wout := fun _ _ _ _ => False) rfl rfl ⟨rfl, by decide, Or.inl gE⟩ LamX.takes0 (fun W pn xe tk po =>
      pss_cons (ps_for po rfl (pi_list (pe_op op_cat (pe_lst (pa_cons pe_int pa_nil)) (pe_slice sl_list (pv 0) po_none (po_some pe_int)))) (pg_name (i := 1) scLaw.nd rfl (Or.inl rfl))
        (pss_cons (ps_set (i := 2) scLaw.nd rfl (.inl rfl) (pe_op op_add pe_int (pe_op op_mod (pe_callB call_abs (by rfl) mA PyProof.Rows.boot_abs (pa_cons (pv 1) pa_nil)) pe_int)))
        (pss_one (ps_if (pw_or (pt_not (pt_val (pe_fn GR hr9 (by rfl) (pa_cons (pv 2) pa_nil)))) (pw_or1 (pt_not (pt_val (pe_fn GC hr (by rfl) (pa_cons (pv 2) pa_nil)))))).pt (pss_one (ps_ret pe_bl)) pss_nil))))
      (pss_one (ps_ret (pe_and (pe_fn0 GT hr9 (by rfl)) (pe_and (pe_fn0 GD hr11 (by rfl)) (pe_one (pe_fn0 GA hr (by rfl)))))))) (fun a oe cls d pn _ _ => pss_one (ps_ret pe_bl))), ?_⟩
    show tBody K PT _ _ _
    have fL : Gv (tabT PT) (tOp rCat (tLst (tCons (tC (.int 0)) tNil)) (tSl (rSlL K) (tVar 0) tNoPart (tPart (tC (.int 3))))) (L2.start ["_law_script", "_law_cell", "_law_worth"] [.ref a]) H (isL ((0 :: ns.take 3).map (isI K))) := gv_cat (As := [isI K 0]) (gv_lst (ga_cons (gv_i (K := K) 0) ga_nil)) (gv_cut hS rfl) (by
      rw [List.length_map]
      have h3 : (ns.take 3).length ≤ 3 := by rw [List.length_take]; omega
      exact Nat.ble_eq_true_of_le (by show 1 + (ns.take 3).length ≤ 1000; omega))
    refine gs_for (T := tabT PT) (fun σ => ∃ y1 y2, σ = [some (.ref a), y1, y2]) fL ⟨_, _, rfl⟩ (fun i A v σ' H' hA g' hS a D' kk => ?_) (fun σ' H' g' hS => ?_)
    · obtain ⟨y1, y2, rfl⟩ := hS
      rw [List.getElem?_map] at hA
      cases hri : (0 :: ns.take 3)[i]? with
      | none => rw [hri] at hA; cases hA
      | some n =>
        rw [hri] at hA
        cases hA
        have hT := g'.2 hT
        have c1 : 1 ≤ 1 + absI n % 9 := by have := Int.emod_nonneg (absI n) (show (9 : Int) ≠ 0 by decide); omega
        have c9 : 1 + absI n % 9 ≤ 9 := by have := Int.emod_lt_of_pos (absI n) (show (0 : Int) < 9 by decide); omega
        have a : (isI K n).p H' v := a
        show tSeq _ _ _ _ _
        refine gs_set (T := tabT PT) (gv_add (gv_i (K := K) 1) (gv_mod (gv_abs (gv_v a)) (gv_i (K := K) 9))) fun v2 H2 g2 f2 => ?_
        refine gs_if1 (T := tabT PT) (gb_or (gb_not (gb_test (gv_worth (gv_v f2) (g2.2 hT) c1 c9))) (gb_not (gb_test (gv_worth (gv_v f2) (g2.2 hT) c1 c9)))) rfl fun H3 g3 => ?_
        exact kk _ _ (g2.trans g3) ⟨_, _, rfl⟩
    · obtain ⟨y1, y2, rfl⟩ := hS
      have hT := g'.2 hT
      refine gs_ret (T := tabT PT) (gv_and (gv_true (K := K) hT) (gv_and (gv_true (K := K) hT) (gv_true (K := K) hT))) fun v H4 g4 a => ?_
      have ev := dp_bool a
      subst ev
      exact q _
theorem tabs_new {PT : Addr} {H : Hp} (h : H PT = some (.tbl #[])) : Tabs (tabT PT) H := fun p hp => by
  rw [List.mem_singleton.mp hp]
  exact ⟨#[], h, trivial, fun pos cv hc => by cases hc⟩
end
end Lw
set_option Elab.async false
set_option linter.all false
set_option maxRecDepth 100000
set_option maxHeartbeats 4000000
namespace Lw
open PySem PySem.Spec PyProof.Rows L2 TxS LkO Lk LkG
theorem all_mk {l : PySem.W.OpenLaw} {w : World} {K : PySem.W.Frag} {h : Heap} {mg : Str → Option Value} {fa : Addr} (X : K.In h) (G : h.Ns mainGlobals mg) (hfa : mg "law" = some (.ref fa))
    {f_is_name f_are_names f_all_in f_check_other f_is_cost f_is_table f_are_rooms f_is_key f_are_keys f_fits_door f_fits_person f_are_doors f_are_people f_check_building f_check_locks f_are_doors_of f_check_trail f_keys_held f_lets_through f_room_added f_rooms_beyond f_suits f_rooms_of f_is_trail f_is_complete f_first_step f_trail_of f_trail_into f_has_doubt_form f_check_doubt f_leads_to_shunned f_shuts_out f_is_doubt f_strikes f_rules_out f_is_struck f_locks_at f_sets_by_price f_doubt_about f_cheapest f_are_doubts f__law_house f__law_reaches_right f__law_trails_right f__law_doubts_right f__law_cheapest_right f__law_answers_right f_law fL___init__ fL___eq__ fL___or__ fL___contains__ fL_names fD___init__ fD_start fD_end fD_key fD_cost fD_ways fP___init__ fP_start fP_carried fP_needs fP_shuns fB___init__ fB_key_rooms fB_doors fB_people fB_door fB_person fB_reach fB_price fB_is_right fK___init__ fK_shows fN___init__ fN_shows CL CD CP CB CK CN pL_names pD_start pD_end pD_key pD_cost pP_start pP_carried pP_needs pP_shuns pB_key_rooms pB_doors pB_people cSB tPT kwaD kwaP eT0 eT1 eT2 C_LockError : Addr} {od_is_name an_is_name od_are_names an_are_names od_all_in an_all_in od_check_other an_check_other od_is_cost an_is_cost od_is_table an_is_table od_are_rooms an_are_rooms od_is_key an_is_key od_are_keys an_are_keys od_fits_door an_fits_door od_fits_person an_fits_person od_are_doors an_are_doors od_are_people an_are_people od_check_building an_check_building od_check_locks an_check_locks od_are_doors_of an_are_doors_of od_check_trail an_check_trail od_keys_held an_keys_held od_lets_through an_lets_through od_room_added an_room_added od_rooms_beyond an_rooms_beyond od_suits an_suits od_rooms_of an_rooms_of od_is_trail an_is_trail od_is_complete an_is_complete od_first_step an_first_step od_trail_of an_trail_of od_trail_into an_trail_into od_has_doubt_form an_has_doubt_form od_check_doubt an_check_doubt od_leads_to_shunned an_leads_to_shunned od_shuts_out an_shuts_out od_is_doubt an_is_doubt od_strikes an_strikes od_rules_out an_rules_out od_is_struck an_is_struck od_locks_at an_locks_at od_sets_by_price an_sets_by_price od_doubt_about an_doubt_about od_cheapest an_cheapest od_are_doubts an_are_doubts od__law_house an__law_house od__law_reaches_right an__law_reaches_right od__law_trails_right an__law_trails_right od__law_doubts_right an__law_doubts_right od__law_cheapest_right an__law_cheapest_right od__law_answers_right an__law_answers_right od_law an_law odL___init__ anL___init__ odL___eq__ anL___eq__ odL___or__ anL___or__ odL___contains__ anL___contains__ odL_names anL_names odD___init__ anD___init__ odD_start anD_start odD_end anD_end odD_key anD_key odD_cost anD_cost odD_ways anD_ways odP___init__ anP___init__ odP_start anP_start odP_carried anP_carried odP_needs anP_needs odP_shuns anP_shuns odB___init__ anB___init__ odB_key_rooms anB_key_rooms odB_doors anB_doors odB_people anB_people odB_door anB_door odB_person anB_person odB_reach anB_reach odB_price anB_price odB_is_right anB_is_right odK___init__ anK___init__ odK_shows anK_shows odN___init__ anN___init__ odN_shows anN_shows : Option Addr} {sl_is_name sl_are_names sl_all_in sl_check_other sl_is_cost sl_is_table sl_are_rooms sl_is_key sl_are_keys sl_fits_door sl_fits_person sl_are_doors sl_are_people sl_check_building sl_check_locks sl_are_doors_of sl_check_trail sl_keys_held sl_lets_through sl_room_added sl_rooms_beyond sl_suits sl_rooms_of sl_is_trail sl_is_complete sl_first_step sl_trail_of sl_trail_into sl_has_doubt_form sl_check_doubt sl_leads_to_shunned sl_shuts_out sl_is_doubt sl_strikes sl_rules_out sl_is_struck sl_locks_at sl_sets_by_price sl_doubt_about sl_cheapest sl_are_doubts sl__law_house sl__law_reaches_right sl__law_trails_right sl__law_doubts_right sl__law_cheapest_right sl__law_answers_right sl_law slL___init__ slL___eq__ slL___or__ slL___contains__ slL_names slD___init__ slD_start slD_end slD_key slD_cost slD_ways slP___init__ slP_start slP_carried slP_needs slP_shuns slB___init__ slB_key_rooms slB_doors slB_people slB_door slB_person slB_reach slB_price slB_is_right slK___init__ slK_shows slN___init__ slN_shows : Array (Option Value)} {oc_is_name kV_is_name dc_is_name pm_is_name cd_is_name ct_is_name oc_are_names kV_are_names dc_are_names pm_are_names cd_are_names ct_are_names oc_all_in kV_all_in dc_all_in pm_all_in cd_all_in ct_all_in oc_check_other kV_check_other dc_check_other pm_check_other cd_check_other ct_check_other oc_is_cost kV_is_cost dc_is_cost pm_is_cost cd_is_cost ct_is_cost oc_is_table kV_is_table dc_is_table pm_is_table cd_is_table ct_is_table oc_are_rooms kV_are_rooms dc_are_rooms pm_are_rooms cd_are_rooms ct_are_rooms oc_is_key kV_is_key dc_is_key pm_is_key cd_is_key ct_is_key oc_are_keys kV_are_keys dc_are_keys pm_are_keys cd_are_keys ct_are_keys oc_fits_door kV_fits_door dc_fits_door pm_fits_door cd_fits_door ct_fits_door oc_fits_person kV_fits_person dc_fits_person pm_fits_person cd_fits_person ct_fits_person oc_are_doors kV_are_doors dc_are_doors pm_are_doors cd_are_doors ct_are_doors oc_are_people kV_are_people dc_are_people pm_are_people cd_are_people ct_are_people oc_check_building kV_check_building dc_check_building pm_check_building cd_check_building ct_check_building oc_check_locks kV_check_locks dc_check_locks pm_check_locks cd_check_locks ct_check_locks oc_are_doors_of kV_are_doors_of dc_are_doors_of pm_are_doors_of cd_are_doors_of ct_are_doors_of oc_check_trail kV_check_trail dc_check_trail pm_check_trail cd_check_trail ct_check_trail oc_keys_held kV_keys_held dc_keys_held pm_keys_held cd_keys_held ct_keys_held oc_lets_through kV_lets_through dc_lets_through pm_lets_through cd_lets_through ct_lets_through oc_room_added kV_room_added dc_room_added pm_room_added cd_room_added ct_room_added oc_rooms_beyond kV_rooms_beyond dc_rooms_beyond pm_rooms_beyond cd_rooms_beyond ct_rooms_beyond oc_suits kV_suits dc_suits pm_suits cd_suits ct_suits oc_rooms_of kV_rooms_of dc_rooms_of pm_rooms_of cd_rooms_of ct_rooms_of oc_is_trail kV_is_trail dc_is_trail pm_is_trail cd_is_trail ct_is_trail oc_is_complete kV_is_complete dc_is_complete pm_is_complete cd_is_complete ct_is_complete oc_first_step kV_first_step dc_first_step pm_first_step cd_first_step ct_first_step oc_trail_of kV_trail_of dc_trail_of pm_trail_of cd_trail_of ct_trail_of oc_trail_into kV_trail_into dc_trail_into pm_trail_into cd_trail_into ct_trail_into oc_has_doubt_form kV_has_doubt_form dc_has_doubt_form pm_has_doubt_form cd_has_doubt_form ct_has_doubt_form oc_check_doubt kV_check_doubt dc_check_doubt pm_check_doubt cd_check_doubt ct_check_doubt oc_leads_to_shunned kV_leads_to_shunned dc_leads_to_shunned pm_leads_to_shunned cd_leads_to_shunned ct_leads_to_shunned oc_shuts_out kV_shuts_out dc_shuts_out pm_shuts_out cd_shuts_out ct_shuts_out oc_is_doubt kV_is_doubt dc_is_doubt pm_is_doubt cd_is_doubt ct_is_doubt oc_strikes kV_strikes dc_strikes pm_strikes cd_strikes ct_strikes oc_rules_out kV_rules_out dc_rules_out pm_rules_out cd_rules_out ct_rules_out oc_is_struck kV_is_struck dc_is_struck pm_is_struck cd_is_struck ct_is_struck oc_locks_at kV_locks_at dc_locks_at pm_locks_at cd_locks_at ct_locks_at oc_sets_by_price kV_sets_by_price dc_sets_by_price pm_sets_by_price  ct_sets_by_price oc_doubt_about kV_doubt_about dc_doubt_about pm_doubt_about cd_doubt_about ct_doubt_about oc_cheapest kV_cheapest dc_cheapest pm_cheapest cd_cheapest ct_cheapest oc_are_doubts kV_are_doubts dc_are_doubts pm_are_doubts cd_are_doubts ct_are_doubts oc__law_house kV__law_house dc__law_house pm__law_house cd__law_house ct__law_house oc__law_reaches_right kV__law_reaches_right dc__law_reaches_right pm__law_reaches_right cd__law_reaches_right ct__law_reaches_right oc__law_trails_right kV__law_trails_right dc__law_trails_right pm__law_trails_right cd__law_trails_right ct__law_trails_right oc__law_doubts_right kV__law_doubts_right dc__law_doubts_right pm__law_doubts_right cd__law_doubts_right ct__law_doubts_right oc__law_cheapest_right kV__law_cheapest_right dc__law_cheapest_right pm__law_cheapest_right cd__law_cheapest_right ct__law_cheapest_right oc__law_answers_right kV__law_answers_right dc__law_answers_right pm__law_answers_right cd__law_answers_right ct__law_answers_right oc_law kV_law dc_law pm_law cd_law ct_law ocL___init__ kVL___init__ dcL___init__ pmL___init__ cdL___init__ ctL___init__ ocL___eq__ kVL___eq__ dcL___eq__ pmL___eq__ cdL___eq__ ctL___eq__ ocL___or__ kVL___or__ dcL___or__ pmL___or__ cdL___or__ ctL___or__ ocL___contains__ kVL___contains__ dcL___contains__ pmL___contains__ cdL___contains__ ctL___contains__ ocL_names kVL_names dcL_names pmL_names cdL_names ctL_names ocD___init__  dcD___init__ pmD___init__ cdD___init__ ctD___init__ ocD_start kVD_start dcD_start pmD_start cdD_start ctD_start ocD_end kVD_end dcD_end pmD_end cdD_end ctD_end ocD_key kVD_key dcD_key pmD_key cdD_key ctD_key ocD_cost kVD_cost dcD_cost pmD_cost cdD_cost ctD_cost ocD_ways kVD_ways dcD_ways pmD_ways cdD_ways ctD_ways ocP___init__  dcP___init__ pmP___init__ cdP___init__ ctP___init__ ocP_start kVP_start dcP_start pmP_start cdP_start ctP_start ocP_carried kVP_carried dcP_carried pmP_carried cdP_carried ctP_carried ocP_needs kVP_needs dcP_needs pmP_needs cdP_needs ctP_needs ocP_shuns kVP_shuns dcP_shuns pmP_shuns cdP_shuns ctP_shuns ocB___init__ kVB___init__ dcB___init__ pmB___init__ cdB___init__ ctB___init__ ocB_key_rooms kVB_key_rooms dcB_key_rooms pmB_key_rooms cdB_key_rooms ctB_key_rooms ocB_doors kVB_doors dcB_doors pmB_doors cdB_doors ctB_doors ocB_people kVB_people dcB_people pmB_people cdB_people ctB_people ocB_door kVB_door dcB_door pmB_door cdB_door ctB_door ocB_person kVB_person dcB_person pmB_person cdB_person ctB_person ocB_reach kVB_reach dcB_reach pmB_reach cdB_reach ctB_reach ocB_price kVB_price dcB_price pmB_price cdB_price ctB_price ocB_is_right kVB_is_right dcB_is_right pmB_is_right cdB_is_right ctB_is_right ocK___init__ kVK___init__ dcK___init__ pmK___init__ cdK___init__ ctK___init__ ocK_shows kVK_shows dcK_shows pmK_shows cdK_shows ctK_shows ocN___init__ kVN___init__ dcN___init__ pmN___init__ cdN___init__ ctN___init__ ocN_shows kVN_shows dcN_shows pmN_shows cdN_shows ctN_shows : Value} {tkc tk0 tk1 tk2 tk3 tk4 tk5 tk6 tk7 tk8 tk9 : Tok} {rsL_names rsD_start rsD_end rsD_key rsD_cost rsP_start rsP_carried rsP_needs rsP_shuns rsB_key_rooms rsB_doors rsB_people : List Value} {odE0 odE1 odE2 : Option Addr} {nE0 nE1 nE2 : Nat} {slE0 slE1 slE2 : Array (Option Value)}
    (hTab : h.get? tPT = some { cls := .none, data := .fields #[] })
    (a_is_name : PySem.W.nsIn K mainGlobals "is_name" = some (some (.ref f_is_name)))
    (l_is_name : K.lookup f_is_name = some ⟨oc_is_name, od_is_name, .func (PySem.W.fnOf "is_name" "is_name" (defArgs s_is_name) (defBody s_is_name) (defScope s_is_name) .none kV_is_name dc_is_name pm_is_name an_is_name cd_is_name ct_is_name), sl_is_name⟩)
    (c_is_name : PySem.W.codeIn K cd_is_name "is_name" = true)
    (k_is_name : PySem.W.keepIn K (.ref f_is_name) = true)
    (a_are_names : PySem.W.nsIn K mainGlobals "are_names" = some (some (.ref f_are_names)))
    (l_are_names : K.lookup f_are_names = some ⟨oc_are_names, od_are_names, .func (PySem.W.fnOf "are_names" "are_names" (defArgs s_are_names) (defBody s_are_names) (defScope s_are_names) .none kV_are_names dc_are_names pm_are_names an_are_names cd_are_names ct_are_names), sl_are_names⟩)
    (c_are_names : PySem.W.codeIn K cd_are_names "are_names" = true)
    (k_are_names : PySem.W.keepIn K (.ref f_are_names) = true)
    (a_all_in : PySem.W.nsIn K mainGlobals "all_in" = some (some (.ref f_all_in)))
    (l_all_in : K.lookup f_all_in = some ⟨oc_all_in, od_all_in, .func (PySem.W.fnOf "all_in" "all_in" (defArgs s_all_in) (defBody s_all_in) (defScope s_all_in) .none kV_all_in dc_all_in pm_all_in an_all_in cd_all_in ct_all_in), sl_all_in⟩)
    (c_all_in : PySem.W.codeIn K cd_all_in "all_in" = true)
    (k_all_in : PySem.W.keepIn K (.ref f_all_in) = true)
    (a_check_other : PySem.W.nsIn K mainGlobals "check_other" = some (some (.ref f_check_other)))
    (l_check_other : K.lookup f_check_other = some ⟨oc_check_other, od_check_other, .func (PySem.W.fnOf "check_other" "check_other" (defArgs s_check_other) (defBody s_check_other) (defScope s_check_other) .none kV_check_other dc_check_other pm_check_other an_check_other cd_check_other ct_check_other), sl_check_other⟩)
    (c_check_other : PySem.W.codeIn K cd_check_other "check_other" = true)
    (k_check_other : PySem.W.keepIn K (.ref f_check_other) = true)
    (a_is_cost : PySem.W.nsIn K mainGlobals "is_cost" = some (some (.ref f_is_cost)))
    (l_is_cost : K.lookup f_is_cost = some ⟨oc_is_cost, od_is_cost, .func (PySem.W.fnOf "is_cost" "is_cost" (defArgs s_is_cost) (defBody s_is_cost) (defScope s_is_cost) .none kV_is_cost dc_is_cost pm_is_cost an_is_cost cd_is_cost ct_is_cost), sl_is_cost⟩)
    (c_is_cost : PySem.W.codeIn K cd_is_cost "is_cost" = true)
    (k_is_cost : PySem.W.keepIn K (.ref f_is_cost) = true)
    (a_is_table : PySem.W.nsIn K mainGlobals "is_table" = some (some (.ref f_is_table)))
    (l_is_table : K.lookup f_is_table = some ⟨oc_is_table, od_is_table, .func (PySem.W.fnOf "is_table" "is_table" (defArgs s_is_table) (defBody s_is_table) (defScope s_is_table) .none kV_is_table dc_is_table pm_is_table an_is_table cd_is_table ct_is_table), sl_is_table⟩)
    (c_is_table : PySem.W.codeIn K cd_is_table "is_table" = true)
    (k_is_table : PySem.W.keepIn K (.ref f_is_table) = true)
    (a_are_rooms : PySem.W.nsIn K mainGlobals "are_rooms" = some (some (.ref f_are_rooms)))
    (l_are_rooms : K.lookup f_are_rooms = some ⟨oc_are_rooms, od_are_rooms, .func (PySem.W.fnOf "are_rooms" "are_rooms" (defArgs s_are_rooms) (defBody s_are_rooms) (defScope s_are_rooms) .none kV_are_rooms dc_are_rooms pm_are_rooms an_are_rooms cd_are_rooms ct_are_rooms), sl_are_rooms⟩)
    (c_are_rooms : PySem.W.codeIn K cd_are_rooms "are_rooms" = true)
    (k_are_rooms : PySem.W.keepIn K (.ref f_are_rooms) = true)
    (a_is_key : PySem.W.nsIn K mainGlobals "is_key" = some (some (.ref f_is_key)))
    (l_is_key : K.lookup f_is_key = some ⟨oc_is_key, od_is_key, .func (PySem.W.fnOf "is_key" "is_key" (defArgs s_is_key) (defBody s_is_key) (defScope s_is_key) .none kV_is_key dc_is_key pm_is_key an_is_key cd_is_key ct_is_key), sl_is_key⟩)
    (c_is_key : PySem.W.codeIn K cd_is_key "is_key" = true)
    (k_is_key : PySem.W.keepIn K (.ref f_is_key) = true)
    (a_are_keys : PySem.W.nsIn K mainGlobals "are_keys" = some (some (.ref f_are_keys)))
    (l_are_keys : K.lookup f_are_keys = some ⟨oc_are_keys, od_are_keys, .func (PySem.W.fnOf "are_keys" "are_keys" (defArgs s_are_keys) (defBody s_are_keys) (defScope s_are_keys) .none kV_are_keys dc_are_keys pm_are_keys an_are_keys cd_are_keys ct_are_keys), sl_are_keys⟩)
    (c_are_keys : PySem.W.codeIn K cd_are_keys "are_keys" = true)
    (k_are_keys : PySem.W.keepIn K (.ref f_are_keys) = true)
    (a_fits_door : PySem.W.nsIn K mainGlobals "fits_door" = some (some (.ref f_fits_door)))
    (l_fits_door : K.lookup f_fits_door = some ⟨oc_fits_door, od_fits_door, .func (PySem.W.fnOf "fits_door" "fits_door" (defArgs s_fits_door) (defBody s_fits_door) (defScope s_fits_door) .none kV_fits_door dc_fits_door pm_fits_door an_fits_door cd_fits_door ct_fits_door), sl_fits_door⟩)
    (c_fits_door : PySem.W.codeIn K cd_fits_door "fits_door" = true)
    (k_fits_door : PySem.W.keepIn K (.ref f_fits_door) = true)
    (a_fits_person : PySem.W.nsIn K mainGlobals "fits_person" = some (some (.ref f_fits_person)))
    (l_fits_person : K.lookup f_fits_person = some ⟨oc_fits_person, od_fits_person, .func (PySem.W.fnOf "fits_person" "fits_person" (defArgs s_fits_person) (defBody s_fits_person) (defScope s_fits_person) .none kV_fits_person dc_fits_person pm_fits_person an_fits_person cd_fits_person ct_fits_person), sl_fits_person⟩)
    (c_fits_person : PySem.W.codeIn K cd_fits_person "fits_person" = true)
    (k_fits_person : PySem.W.keepIn K (.ref f_fits_person) = true)
    (a_are_doors : PySem.W.nsIn K mainGlobals "are_doors" = some (some (.ref f_are_doors)))
    (l_are_doors : K.lookup f_are_doors = some ⟨oc_are_doors, od_are_doors, .func (PySem.W.fnOf "are_doors" "are_doors" (defArgs s_are_doors) (defBody s_are_doors) (defScope s_are_doors) .none kV_are_doors dc_are_doors pm_are_doors an_are_doors cd_are_doors ct_are_doors), sl_are_doors⟩)
    (c_are_doors : PySem.W.codeIn K cd_are_doors "are_doors" = true)
    (k_are_doors : PySem.W.keepIn K (.ref f_are_doors) = true)
    (a_are_people : PySem.W.nsIn K mainGlobals "are_people" = some (some (.ref f_are_people)))
    (l_are_people : K.lookup f_are_people = some ⟨oc_are_people, od_are_people, .func (PySem.W.fnOf "are_people" "are_people" (defArgs s_are_people) (defBody s_are_people) (defScope s_are_people) .none kV_are_people dc_are_people pm_are_people an_are_people cd_are_people ct_are_people), sl_are_people⟩)
    (c_are_people : PySem.W.codeIn K cd_are_people "are_people" = true)
    (k_are_people : PySem.W.keepIn K (.ref f_are_people) = true)
    (a_check_building : PySem.W.nsIn K mainGlobals "check_building" = some (some (.ref f_check_building)))
    (l_check_building : K.lookup f_check_building = some ⟨oc_check_building, od_check_building, .func (PySem.W.fnOf "check_building" "check_building" (defArgs s_check_building) (defBody s_check_building) (defScope s_check_building) .none kV_check_building dc_check_building pm_check_building an_check_building cd_check_building ct_check_building), sl_check_building⟩)
    (c_check_building : PySem.W.codeIn K cd_check_building "check_building" = true)
    (k_check_building : PySem.W.keepIn K (.ref f_check_building) = true)
    (a_check_locks : PySem.W.nsIn K mainGlobals "check_locks" = some (some (.ref f_check_locks)))
    (l_check_locks : K.lookup f_check_locks = some ⟨oc_check_locks, od_check_locks, .func (PySem.W.fnOf "check_locks" "check_locks" (defArgs s_check_locks) (defBody s_check_locks) (defScope s_check_locks) .none kV_check_locks dc_check_locks pm_check_locks an_check_locks cd_check_locks ct_check_locks), sl_check_locks⟩)
    (c_check_locks : PySem.W.codeIn K cd_check_locks "check_locks" = true)
    (k_check_locks : PySem.W.keepIn K (.ref f_check_locks) = true)
    (a_are_doors_of : PySem.W.nsIn K mainGlobals "are_doors_of" = some (some (.ref f_are_doors_of)))
    (l_are_doors_of : K.lookup f_are_doors_of = some ⟨oc_are_doors_of, od_are_doors_of, .func (PySem.W.fnOf "are_doors_of" "are_doors_of" (defArgs s_are_doors_of) (defBody s_are_doors_of) (defScope s_are_doors_of) .none kV_are_doors_of dc_are_doors_of pm_are_doors_of an_are_doors_of cd_are_doors_of ct_are_doors_of), sl_are_doors_of⟩)
    (c_are_doors_of : PySem.W.codeIn K cd_are_doors_of "are_doors_of" = true)
    (k_are_doors_of : PySem.W.keepIn K (.ref f_are_doors_of) = true)
    (a_check_trail : PySem.W.nsIn K mainGlobals "check_trail" = some (some (.ref f_check_trail)))
    (l_check_trail : K.lookup f_check_trail = some ⟨oc_check_trail, od_check_trail, .func (PySem.W.fnOf "check_trail" "check_trail" (defArgs s_check_trail) (defBody s_check_trail) (defScope s_check_trail) .none kV_check_trail dc_check_trail pm_check_trail an_check_trail cd_check_trail ct_check_trail), sl_check_trail⟩)
    (c_check_trail : PySem.W.codeIn K cd_check_trail "check_trail" = true)
    (k_check_trail : PySem.W.keepIn K (.ref f_check_trail) = true)
    (a_keys_held : PySem.W.nsIn K mainGlobals "keys_held" = some (some (.ref f_keys_held)))
    (l_keys_held : K.lookup f_keys_held = some ⟨oc_keys_held, od_keys_held, .func (PySem.W.fnOf "keys_held" "keys_held" (defArgs s_keys_held) (defBody s_keys_held) (defScope s_keys_held) .none kV_keys_held dc_keys_held pm_keys_held an_keys_held cd_keys_held ct_keys_held), sl_keys_held⟩)
    (c_keys_held : PySem.W.codeIn K cd_keys_held "keys_held" = true)
    (k_keys_held : PySem.W.keepIn K (.ref f_keys_held) = true)
    (a_lets_through : PySem.W.nsIn K mainGlobals "lets_through" = some (some (.ref f_lets_through)))
    (l_lets_through : K.lookup f_lets_through = some ⟨oc_lets_through, od_lets_through, .func (PySem.W.fnOf "lets_through" "lets_through" (defArgs s_lets_through) (defBody s_lets_through) (defScope s_lets_through) .none kV_lets_through dc_lets_through pm_lets_through an_lets_through cd_lets_through ct_lets_through), sl_lets_through⟩)
    (c_lets_through : PySem.W.codeIn K cd_lets_through "lets_through" = true)
    (k_lets_through : PySem.W.keepIn K (.ref f_lets_through) = true)
    (a_room_added : PySem.W.nsIn K mainGlobals "room_added" = some (some (.ref f_room_added)))
    (l_room_added : K.lookup f_room_added = some ⟨oc_room_added, od_room_added, .func (PySem.W.fnOf "room_added" "room_added" (defArgs s_room_added) (defBody s_room_added) (defScope s_room_added) .none kV_room_added dc_room_added pm_room_added an_room_added cd_room_added ct_room_added), sl_room_added⟩)
    (c_room_added : PySem.W.codeIn K cd_room_added "room_added" = true)
    (k_room_added : PySem.W.keepIn K (.ref f_room_added) = true)
    (a_rooms_beyond : PySem.W.nsIn K mainGlobals "rooms_beyond" = some (some (.ref f_rooms_beyond)))
    (l_rooms_beyond : K.lookup f_rooms_beyond = some ⟨oc_rooms_beyond, od_rooms_beyond, .func (PySem.W.fnOf "rooms_beyond" "rooms_beyond" (defArgs s_rooms_beyond) (defBody s_rooms_beyond) (defScope s_rooms_beyond) .none kV_rooms_beyond dc_rooms_beyond pm_rooms_beyond an_rooms_beyond cd_rooms_beyond ct_rooms_beyond), sl_rooms_beyond⟩)
    (c_rooms_beyond : PySem.W.codeIn K cd_rooms_beyond "rooms_beyond" = true)
    (k_rooms_beyond : PySem.W.keepIn K (.ref f_rooms_beyond) = true)
    (a_suits : PySem.W.nsIn K mainGlobals "suits" = some (some (.ref f_suits)))
    (l_suits : K.lookup f_suits = some ⟨oc_suits, od_suits, .func (PySem.W.fnOf "suits" "suits" (defArgs s_suits) (defBody s_suits) (defScope s_suits) .none kV_suits dc_suits pm_suits an_suits cd_suits ct_suits), sl_suits⟩)
    (c_suits : PySem.W.codeIn K cd_suits "suits" = true)
    (k_suits : PySem.W.keepIn K (.ref f_suits) = true)
    (a_rooms_of : PySem.W.nsIn K mainGlobals "rooms_of" = some (some (.ref f_rooms_of)))
    (l_rooms_of : K.lookup f_rooms_of = some ⟨oc_rooms_of, od_rooms_of, .func (PySem.W.fnOf "rooms_of" "rooms_of" (defArgs s_rooms_of) (defBody s_rooms_of) (defScope s_rooms_of) .none kV_rooms_of dc_rooms_of pm_rooms_of an_rooms_of cd_rooms_of ct_rooms_of), sl_rooms_of⟩)
    (c_rooms_of : PySem.W.codeIn K cd_rooms_of "rooms_of" = true)
    (k_rooms_of : PySem.W.keepIn K (.ref f_rooms_of) = true)
    (a_is_trail : PySem.W.nsIn K mainGlobals "is_trail" = some (some (.ref f_is_trail)))
    (l_is_trail : K.lookup f_is_trail = some ⟨oc_is_trail, od_is_trail, .func (PySem.W.fnOf "is_trail" "is_trail" (defArgs s_is_trail) (defBody s_is_trail) (defScope s_is_trail) .none kV_is_trail dc_is_trail pm_is_trail an_is_trail cd_is_trail ct_is_trail), sl_is_trail⟩)
    (c_is_trail : PySem.W.codeIn K cd_is_trail "is_trail" = true)
    (k_is_trail : PySem.W.keepIn K (.ref f_is_trail) = true)
    (a_is_complete : PySem.W.nsIn K mainGlobals "is_complete" = some (some (.ref f_is_complete)))
    (l_is_complete : K.lookup f_is_complete = some ⟨oc_is_complete, od_is_complete, .func (PySem.W.fnOf "is_complete" "is_complete" (defArgs s_is_complete) (defBody s_is_complete) (defScope s_is_complete) .none kV_is_complete dc_is_complete pm_is_complete an_is_complete cd_is_complete ct_is_complete), sl_is_complete⟩)
    (c_is_complete : PySem.W.codeIn K cd_is_complete "is_complete" = true)
    (k_is_complete : PySem.W.keepIn K (.ref f_is_complete) = true)
    (a_first_step : PySem.W.nsIn K mainGlobals "first_step" = some (some (.ref f_first_step)))
    (l_first_step : K.lookup f_first_step = some ⟨oc_first_step, od_first_step, .func (PySem.W.fnOf "first_step" "first_step" (defArgs s_first_step) (defBody s_first_step) (defScope s_first_step) .none kV_first_step dc_first_step pm_first_step an_first_step cd_first_step ct_first_step), sl_first_step⟩)
    (c_first_step : PySem.W.codeIn K cd_first_step "first_step" = true)
    (k_first_step : PySem.W.keepIn K (.ref f_first_step) = true)
    (a_trail_of : PySem.W.nsIn K mainGlobals "trail_of" = some (some (.ref f_trail_of)))
    (l_trail_of : K.lookup f_trail_of = some ⟨oc_trail_of, od_trail_of, .func (PySem.W.fnOf "trail_of" "trail_of" (defArgs s_trail_of) (defBody s_trail_of) (defScope s_trail_of) .none kV_trail_of dc_trail_of pm_trail_of an_trail_of cd_trail_of ct_trail_of), sl_trail_of⟩)
    (c_trail_of : PySem.W.codeIn K cd_trail_of "trail_of" = true)
    (k_trail_of : PySem.W.keepIn K (.ref f_trail_of) = true)
    (a_trail_into : PySem.W.nsIn K mainGlobals "trail_into" = some (some (.ref f_trail_into)))
    (l_trail_into : K.lookup f_trail_into = some ⟨oc_trail_into, od_trail_into, .func (PySem.W.fnOf "trail_into" "trail_into" (defArgs s_trail_into) (defBody s_trail_into) (defScope s_trail_into) .none kV_trail_into dc_trail_into pm_trail_into an_trail_into cd_trail_into ct_trail_into), sl_trail_into⟩)
    (c_trail_into : PySem.W.codeIn K cd_trail_into "trail_into" = true)
    (k_trail_into : PySem.W.keepIn K (.ref f_trail_into) = true)
    (a_has_doubt_form : PySem.W.nsIn K mainGlobals "has_doubt_form" = some (some (.ref f_has_doubt_form)))
    (l_has_doubt_form : K.lookup f_has_doubt_form = some ⟨oc_has_doubt_form, od_has_doubt_form, .func (PySem.W.fnOf "has_doubt_form" "has_doubt_form" (defArgs s_has_doubt_form) (defBody s_has_doubt_form) (defScope s_has_doubt_form) .none kV_has_doubt_form dc_has_doubt_form pm_has_doubt_form an_has_doubt_form cd_has_doubt_form ct_has_doubt_form), sl_has_doubt_form⟩)
    (c_has_doubt_form : PySem.W.codeIn K cd_has_doubt_form "has_doubt_form" = true)
    (k_has_doubt_form : PySem.W.keepIn K (.ref f_has_doubt_form) = true)
    (a_check_doubt : PySem.W.nsIn K mainGlobals "check_doubt" = some (some (.ref f_check_doubt)))
    (l_check_doubt : K.lookup f_check_doubt = some ⟨oc_check_doubt, od_check_doubt, .func (PySem.W.fnOf "check_doubt" "check_doubt" (defArgs s_check_doubt) (defBody s_check_doubt) (defScope s_check_doubt) .none kV_check_doubt dc_check_doubt pm_check_doubt an_check_doubt cd_check_doubt ct_check_doubt), sl_check_doubt⟩)
    (c_check_doubt : PySem.W.codeIn K cd_check_doubt "check_doubt" = true)
    (k_check_doubt : PySem.W.keepIn K (.ref f_check_doubt) = true)
    (a_leads_to_shunned : PySem.W.nsIn K mainGlobals "leads_to_shunned" = some (some (.ref f_leads_to_shunned)))
    (l_leads_to_shunned : K.lookup f_leads_to_shunned = some ⟨oc_leads_to_shunned, od_leads_to_shunned, .func (PySem.W.fnOf "leads_to_shunned" "leads_to_shunned" (defArgs s_leads_to_shunned) (defBody s_leads_to_shunned) (defScope s_leads_to_shunned) .none kV_leads_to_shunned dc_leads_to_shunned pm_leads_to_shunned an_leads_to_shunned cd_leads_to_shunned ct_leads_to_shunned), sl_leads_to_shunned⟩)
    (c_leads_to_shunned : PySem.W.codeIn K cd_leads_to_shunned "leads_to_shunned" = true)
    (k_leads_to_shunned : PySem.W.keepIn K (.ref f_leads_to_shunned) = true)
    (a_shuts_out : PySem.W.nsIn K mainGlobals "shuts_out" = some (some (.ref f_shuts_out)))
    (l_shuts_out : K.lookup f_shuts_out = some ⟨oc_shuts_out, od_shuts_out, .func (PySem.W.fnOf "shuts_out" "shuts_out" (defArgs s_shuts_out) (defBody s_shuts_out) (defScope s_shuts_out) .none kV_shuts_out dc_shuts_out pm_shuts_out an_shuts_out cd_shuts_out ct_shuts_out), sl_shuts_out⟩)
    (c_shuts_out : PySem.W.codeIn K cd_shuts_out "shuts_out" = true)
    (k_shuts_out : PySem.W.keepIn K (.ref f_shuts_out) = true)
    (a_is_doubt : PySem.W.nsIn K mainGlobals "is_doubt" = some (some (.ref f_is_doubt)))
    (l_is_doubt : K.lookup f_is_doubt = some ⟨oc_is_doubt, od_is_doubt, .func (PySem.W.fnOf "is_doubt" "is_doubt" (defArgs s_is_doubt) (defBody s_is_doubt) (defScope s_is_doubt) .none kV_is_doubt dc_is_doubt pm_is_doubt an_is_doubt cd_is_doubt ct_is_doubt), sl_is_doubt⟩)
    (c_is_doubt : PySem.W.codeIn K cd_is_doubt "is_doubt" = true)
    (k_is_doubt : PySem.W.keepIn K (.ref f_is_doubt) = true)
    (a_strikes : PySem.W.nsIn K mainGlobals "strikes" = some (some (.ref f_strikes)))
    (l_strikes : K.lookup f_strikes = some ⟨oc_strikes, od_strikes, .func (PySem.W.fnOf "strikes" "strikes" (defArgs s_strikes) (defBody s_strikes) (defScope s_strikes) .none kV_strikes dc_strikes pm_strikes an_strikes cd_strikes ct_strikes), sl_strikes⟩)
    (c_strikes : PySem.W.codeIn K cd_strikes "strikes" = true)
    (k_strikes : PySem.W.keepIn K (.ref f_strikes) = true)
    (a_rules_out : PySem.W.nsIn K mainGlobals "rules_out" = some (some (.ref f_rules_out)))
    (l_rules_out : K.lookup f_rules_out = some ⟨oc_rules_out, od_rules_out, .func (PySem.W.fnOf "rules_out" "rules_out" (defArgs s_rules_out) (defBody s_rules_out) (defScope s_rules_out) .none kV_rules_out dc_rules_out pm_rules_out an_rules_out cd_rules_out ct_rules_out), sl_rules_out⟩)
    (c_rules_out : PySem.W.codeIn K cd_rules_out "rules_out" = true)
    (k_rules_out : PySem.W.keepIn K (.ref f_rules_out) = true)
    (a_is_struck : PySem.W.nsIn K mainGlobals "is_struck" = some (some (.ref f_is_struck)))
    (l_is_struck : K.lookup f_is_struck = some ⟨oc_is_struck, od_is_struck, .func (PySem.W.fnOf "is_struck" "is_struck" (defArgs s_is_struck) (defBody s_is_struck) (defScope s_is_struck) .none kV_is_struck dc_is_struck pm_is_struck an_is_struck cd_is_struck ct_is_struck), sl_is_struck⟩)
    (c_is_struck : PySem.W.codeIn K cd_is_struck "is_struck" = true)
    (k_is_struck : PySem.W.keepIn K (.ref f_is_struck) = true)
    (a_locks_at : PySem.W.nsIn K mainGlobals "locks_at" = some (some (.ref f_locks_at)))
    (l_locks_at : K.lookup f_locks_at = some ⟨oc_locks_at, od_locks_at, .func (PySem.W.fnOf "locks_at" "locks_at" (defArgs s_locks_at) (defBody s_locks_at) (defScope s_locks_at) .none kV_locks_at dc_locks_at pm_locks_at an_locks_at cd_locks_at ct_locks_at), sl_locks_at⟩)
    (c_locks_at : PySem.W.codeIn K cd_locks_at "locks_at" = true)
    (k_locks_at : PySem.W.keepIn K (.ref f_locks_at) = true)
    (a_sets_by_price : PySem.W.nsIn K mainGlobals "sets_by_price" = some (some (.ref f_sets_by_price)))
    (l_sets_by_price : K.lookup f_sets_by_price = some ⟨oc_sets_by_price, od_sets_by_price, .func (PySem.W.fnOf "sets_by_price" "sets_by_price" (defArgs s_sets_by_price) (defBody s_sets_by_price) (defScope s_sets_by_price) .none kV_sets_by_price dc_sets_by_price pm_sets_by_price an_sets_by_price (.ref cSB) ct_sets_by_price), sl_sets_by_price⟩)
    (c_sets_by_price : PySem.W.codeIn K (.ref cSB) "sets_by_price" = true)
    (k_sets_by_price : PySem.W.keepIn K (.ref f_sets_by_price) = true)
    (a_doubt_about : PySem.W.nsIn K mainGlobals "doubt_about" = some (some (.ref f_doubt_about)))
    (l_doubt_about : K.lookup f_doubt_about = some ⟨oc_doubt_about, od_doubt_about, .func (PySem.W.fnOf "doubt_about" "doubt_about" (defArgs s_doubt_about) (defBody s_doubt_about) (defScope s_doubt_about) .none kV_doubt_about dc_doubt_about pm_doubt_about an_doubt_about cd_doubt_about ct_doubt_about), sl_doubt_about⟩)
    (c_doubt_about : PySem.W.codeIn K cd_doubt_about "doubt_about" = true)
    (k_doubt_about : PySem.W.keepIn K (.ref f_doubt_about) = true)
    (a_cheapest : PySem.W.nsIn K mainGlobals "cheapest" = some (some (.ref f_cheapest)))
    (l_cheapest : K.lookup f_cheapest = some ⟨oc_cheapest, od_cheapest, .func (PySem.W.fnOf "cheapest" "cheapest" (defArgs s_cheapest) (defBody s_cheapest) (defScope s_cheapest) .none kV_cheapest dc_cheapest pm_cheapest an_cheapest cd_cheapest ct_cheapest), sl_cheapest⟩)
    (c_cheapest : PySem.W.codeIn K cd_cheapest "cheapest" = true)
    (k_cheapest : PySem.W.keepIn K (.ref f_cheapest) = true)
    (a_are_doubts : PySem.W.nsIn K mainGlobals "are_doubts" = some (some (.ref f_are_doubts)))
    (l_are_doubts : K.lookup f_are_doubts = some ⟨oc_are_doubts, od_are_doubts, .func (PySem.W.fnOf "are_doubts" "are_doubts" (defArgs s_are_doubts) (defBody s_are_doubts) (defScope s_are_doubts) .none kV_are_doubts dc_are_doubts pm_are_doubts an_are_doubts cd_are_doubts ct_are_doubts), sl_are_doubts⟩)
    (c_are_doubts : PySem.W.codeIn K cd_are_doubts "are_doubts" = true)
    (k_are_doubts : PySem.W.keepIn K (.ref f_are_doubts) = true)
    (a__law_house : PySem.W.nsIn K mainGlobals "_law_house" = some (some (.ref f__law_house)))
    (l__law_house : K.lookup f__law_house = some ⟨oc__law_house, od__law_house, .func (PySem.W.fnOf "_law_house" "_law_house" (defArgs s__law_house) (defBody s__law_house) (defScope s__law_house) .none kV__law_house dc__law_house pm__law_house an__law_house cd__law_house ct__law_house), sl__law_house⟩)
    (c__law_house : PySem.W.codeIn K cd__law_house "_law_house" = true)
    (k__law_house : PySem.W.keepIn K (.ref f__law_house) = true)
    (a__law_reaches_right : PySem.W.nsIn K mainGlobals "_law_reaches_right" = some (some (.ref f__law_reaches_right)))
    (l__law_reaches_right : K.lookup f__law_reaches_right = some ⟨oc__law_reaches_right, od__law_reaches_right, .func (PySem.W.fnOf "_law_reaches_right" "_law_reaches_right" (defArgs s__law_reaches_right) (defBody s__law_reaches_right) (defScope s__law_reaches_right) .none kV__law_reaches_right dc__law_reaches_right pm__law_reaches_right an__law_reaches_right cd__law_reaches_right ct__law_reaches_right), sl__law_reaches_right⟩)
    (c__law_reaches_right : PySem.W.codeIn K cd__law_reaches_right "_law_reaches_right" = true)
    (k__law_reaches_right : PySem.W.keepIn K (.ref f__law_reaches_right) = true)
    (a__law_trails_right : PySem.W.nsIn K mainGlobals "_law_trails_right" = some (some (.ref f__law_trails_right)))
    (l__law_trails_right : K.lookup f__law_trails_right = some ⟨oc__law_trails_right, od__law_trails_right, .func (PySem.W.fnOf "_law_trails_right" "_law_trails_right" (defArgs s__law_trails_right) (defBody s__law_trails_right) (defScope s__law_trails_right) .none kV__law_trails_right dc__law_trails_right pm__law_trails_right an__law_trails_right cd__law_trails_right ct__law_trails_right), sl__law_trails_right⟩)
    (c__law_trails_right : PySem.W.codeIn K cd__law_trails_right "_law_trails_right" = true)
    (k__law_trails_right : PySem.W.keepIn K (.ref f__law_trails_right) = true)
    (a__law_doubts_right : PySem.W.nsIn K mainGlobals "_law_doubts_right" = some (some (.ref f__law_doubts_right)))
    (l__law_doubts_right : K.lookup f__law_doubts_right = some ⟨oc__law_doubts_right, od__law_doubts_right, .func (PySem.W.fnOf "_law_doubts_right" "_law_doubts_right" (defArgs s__law_doubts_right) (defBody s__law_doubts_right) (defScope s__law_doubts_right) .none kV__law_doubts_right dc__law_doubts_right pm__law_doubts_right an__law_doubts_right cd__law_doubts_right ct__law_doubts_right), sl__law_doubts_right⟩)
    (c__law_doubts_right : PySem.W.codeIn K cd__law_doubts_right "_law_doubts_right" = true)
    (k__law_doubts_right : PySem.W.keepIn K (.ref f__law_doubts_right) = true)
    (a__law_cheapest_right : PySem.W.nsIn K mainGlobals "_law_cheapest_right" = some (some (.ref f__law_cheapest_right)))
    (l__law_cheapest_right : K.lookup f__law_cheapest_right = some ⟨oc__law_cheapest_right, od__law_cheapest_right, .func (PySem.W.fnOf "_law_cheapest_right" "_law_cheapest_right" (defArgs s__law_cheapest_right) (defBody s__law_cheapest_right) (defScope s__law_cheapest_right) .none kV__law_cheapest_right dc__law_cheapest_right pm__law_cheapest_right an__law_cheapest_right cd__law_cheapest_right ct__law_cheapest_right), sl__law_cheapest_right⟩)
    (c__law_cheapest_right : PySem.W.codeIn K cd__law_cheapest_right "_law_cheapest_right" = true)
    (k__law_cheapest_right : PySem.W.keepIn K (.ref f__law_cheapest_right) = true)
    (a__law_answers_right : PySem.W.nsIn K mainGlobals "_law_answers_right" = some (some (.ref f__law_answers_right)))
    (l__law_answers_right : K.lookup f__law_answers_right = some ⟨oc__law_answers_right, od__law_answers_right, .func (PySem.W.fnOf "_law_answers_right" "_law_answers_right" (defArgs s__law_answers_right) (defBody s__law_answers_right) (defScope s__law_answers_right) .none kV__law_answers_right dc__law_answers_right pm__law_answers_right an__law_answers_right cd__law_answers_right ct__law_answers_right), sl__law_answers_right⟩)
    (c__law_answers_right : PySem.W.codeIn K cd__law_answers_right "_law_answers_right" = true)
    (k__law_answers_right : PySem.W.keepIn K (.ref f__law_answers_right) = true)
    (a_law : PySem.W.nsIn K mainGlobals "law" = some (some (.ref f_law)))
    (l_law : K.lookup f_law = some ⟨oc_law, od_law, .func (PySem.W.fnOf "law" "law" (defArgs s_law) (defBody s_law) (defScope s_law) .none kV_law dc_law pm_law an_law cd_law ct_law), sl_law⟩)
    (c_law : PySem.W.codeIn K cd_law "law" = true)
    (k_law : PySem.W.keepIn K (.ref f_law) = true)
    (a_Locks : PySem.W.nsIn K mainGlobals "Locks" = some (some (.ref CL)))
    (pgL : PySem.W.plainGet K CL Str.empty = true)
    (hdL : PySem.W.hasDictIn K CL = true)
    (poL : PySem.W.plainOver K CL = true)
    (saL : PySem.W.findIn K (.ref CL) "__setattr__" = some (some (.builtin "object.__setattr__")))
    (mkL : PySem.W.makesIn K CL = true)
    (kcL : PySem.W.keepIn K (.ref CL) = true)
    (tycL : PySem.W.findIn K (.ref CL) "__class__" = some (some (.builtin "object.__class__")))
    (tymL : PySem.W.mroIn K CL (.type "object") = some true)
    (sfL : PySem.W.selfFirst K CL = true)
    (nbL : PySem.W.findIn K (.ref CL) "__bool__" = some none)
    (noL0 : PySem.W.findIn K (.ref CL) "kept_names" = some none)
    (a_Door : PySem.W.nsIn K mainGlobals "Door" = some (some (.ref CD)))
    (pgD : PySem.W.plainGet K CD Str.empty = true)
    (hdD : PySem.W.hasDictIn K CD = true)
    (poD : PySem.W.plainOver K CD = true)
    (saD : PySem.W.findIn K (.ref CD) "__setattr__" = some (some (.builtin "object.__setattr__")))
    (mkD : PySem.W.makesIn K CD = true)
    (kcD : PySem.W.keepIn K (.ref CD) = true)
    (tycD : PySem.W.findIn K (.ref CD) "__class__" = some (some (.builtin "object.__class__")))
    (tymD : PySem.W.mroIn K CD (.type "object") = some true)
    (noD0 : PySem.W.findIn K (.ref CD) "kept_start" = some none)
    (noD1 : PySem.W.findIn K (.ref CD) "kept_end" = some none)
    (noD2 : PySem.W.findIn K (.ref CD) "kept_key" = some none)
    (noD3 : PySem.W.findIn K (.ref CD) "kept_both" = some none)
    (noD4 : PySem.W.findIn K (.ref CD) "kept_cost" = some none)
    (a_Person : PySem.W.nsIn K mainGlobals "Person" = some (some (.ref CP)))
    (pgP : PySem.W.plainGet K CP Str.empty = true)
    (hdP : PySem.W.hasDictIn K CP = true)
    (poP : PySem.W.plainOver K CP = true)
    (saP : PySem.W.findIn K (.ref CP) "__setattr__" = some (some (.builtin "object.__setattr__")))
    (mkP : PySem.W.makesIn K CP = true)
    (kcP : PySem.W.keepIn K (.ref CP) = true)
    (tycP : PySem.W.findIn K (.ref CP) "__class__" = some (some (.builtin "object.__class__")))
    (tymP : PySem.W.mroIn K CP (.type "object") = some true)
    (noP0 : PySem.W.findIn K (.ref CP) "kept_start" = some none)
    (noP1 : PySem.W.findIn K (.ref CP) "kept_carried" = some none)
    (noP2 : PySem.W.findIn K (.ref CP) "kept_needs" = some none)
    (noP3 : PySem.W.findIn K (.ref CP) "kept_shuns" = some none)
    (a_Building : PySem.W.nsIn K mainGlobals "Building" = some (some (.ref CB)))
    (pgB : PySem.W.plainGet K CB Str.empty = true)
    (hdB : PySem.W.hasDictIn K CB = true)
    (poB : PySem.W.plainOver K CB = true)
    (saB : PySem.W.findIn K (.ref CB) "__setattr__" = some (some (.builtin "object.__setattr__")))
    (mkB : PySem.W.makesIn K CB = true)
    (kcB : PySem.W.keepIn K (.ref CB) = true)
    (tycB : PySem.W.findIn K (.ref CB) "__class__" = some (some (.builtin "object.__class__")))
    (tymB : PySem.W.mroIn K CB (.type "object") = some true)
    (noB0 : PySem.W.findIn K (.ref CB) "kept_rooms" = some none)
    (noB1 : PySem.W.findIn K (.ref CB) "kept_keys" = some none)
    (noB2 : PySem.W.findIn K (.ref CB) "door_names" = some none)
    (noB3 : PySem.W.findIn K (.ref CB) "kept_doors" = some none)
    (noB4 : PySem.W.findIn K (.ref CB) "person_names" = some none)
    (noB5 : PySem.W.findIn K (.ref CB) "kept_people" = some none)
    (a_Locking : PySem.W.nsIn K mainGlobals "Locking" = some (some (.ref CK)))
    (pgK : PySem.W.plainGet K CK Str.empty = true)
    (hdK : PySem.W.hasDictIn K CK = true)
    (poK : PySem.W.plainOver K CK = true)
    (saK : PySem.W.findIn K (.ref CK) "__setattr__" = some (some (.builtin "object.__setattr__")))
    (mkK : PySem.W.makesIn K CK = true)
    (kcK : PySem.W.keepIn K (.ref CK) = true)
    (tycK : PySem.W.findIn K (.ref CK) "__class__" = some (some (.builtin "object.__class__")))
    (tymK : PySem.W.mroIn K CK (.type "object") = some true)
    (noK0 : PySem.W.findIn K (.ref CK) "locks" = some none)
    (noK1 : PySem.W.findIn K (.ref CK) "trails" = some none)
    (noK2 : PySem.W.findIn K (.ref CK) "doubts" = some none)
    (a_NoLocking : PySem.W.nsIn K mainGlobals "NoLocking" = some (some (.ref CN)))
    (pgN : PySem.W.plainGet K CN Str.empty = true)
    (hdN : PySem.W.hasDictIn K CN = true)
    (poN : PySem.W.plainOver K CN = true)
    (saN : PySem.W.findIn K (.ref CN) "__setattr__" = some (some (.builtin "object.__setattr__")))
    (mkN : PySem.W.makesIn K CN = true)
    (kcN : PySem.W.keepIn K (.ref CN) = true)
    (tycN : PySem.W.findIn K (.ref CN) "__class__" = some (some (.builtin "object.__class__")))
    (tymN : PySem.W.mroIn K CN (.type "object") = some true)
    (noN0 : PySem.W.findIn K (.ref CN) "doubts" = some none)
    (aL___init__ : PySem.W.findIn K (.ref CL) "__init__" = some (some (.ref fL___init__)))
    (iL___init__ : PySem.W.isFn K (.ref fL___init__) = true)
    (lL___init__ : K.lookup fL___init__ = some ⟨ocL___init__, odL___init__, .func (PySem.W.fnOf "__init__" "Locks.__init__" (defArgs s_Locks___init__) (defBody s_Locks___init__) (defScope s_Locks___init__) .none kVL___init__ dcL___init__ pmL___init__ anL___init__ cdL___init__ ctL___init__), slL___init__⟩)
    (cL___init__ : PySem.W.codeIn K cdL___init__ "Locks.__init__" = true)
    (kL___init__ : PySem.W.keepIn K (.ref fL___init__) = true)
    (aL___eq__ : PySem.W.findIn K (.ref CL) "__eq__" = some (some (.ref fL___eq__)))
    (iL___eq__ : PySem.W.isFn K (.ref fL___eq__) = true)
    (lL___eq__ : K.lookup fL___eq__ = some ⟨ocL___eq__, odL___eq__, .func (PySem.W.fnOf "__eq__" "Locks.__eq__" (defArgs s_Locks___eq__) (defBody s_Locks___eq__) (defScope s_Locks___eq__) .none kVL___eq__ dcL___eq__ pmL___eq__ anL___eq__ cdL___eq__ ctL___eq__), slL___eq__⟩)
    (cL___eq__ : PySem.W.codeIn K cdL___eq__ "Locks.__eq__" = true)
    (kL___eq__ : PySem.W.keepIn K (.ref fL___eq__) = true)
    (aL___or__ : PySem.W.findIn K (.ref CL) "__or__" = some (some (.ref fL___or__)))
    (iL___or__ : PySem.W.isFn K (.ref fL___or__) = true)
    (lL___or__ : K.lookup fL___or__ = some ⟨ocL___or__, odL___or__, .func (PySem.W.fnOf "__or__" "Locks.__or__" (defArgs s_Locks___or__) (defBody s_Locks___or__) (defScope s_Locks___or__) .none kVL___or__ dcL___or__ pmL___or__ anL___or__ cdL___or__ ctL___or__), slL___or__⟩)
    (cL___or__ : PySem.W.codeIn K cdL___or__ "Locks.__or__" = true)
    (kL___or__ : PySem.W.keepIn K (.ref fL___or__) = true)
    (aL___contains__ : PySem.W.findIn K (.ref CL) "__contains__" = some (some (.ref fL___contains__)))
    (iL___contains__ : PySem.W.isFn K (.ref fL___contains__) = true)
    (lL___contains__ : K.lookup fL___contains__ = some ⟨ocL___contains__, odL___contains__, .func (PySem.W.fnOf "__contains__" "Locks.__contains__" (defArgs s_Locks___contains__) (defBody s_Locks___contains__) (defScope s_Locks___contains__) .none kVL___contains__ dcL___contains__ pmL___contains__ anL___contains__ cdL___contains__ ctL___contains__), slL___contains__⟩)
    (cL___contains__ : PySem.W.codeIn K cdL___contains__ "Locks.__contains__" = true)
    (kL___contains__ : PySem.W.keepIn K (.ref fL___contains__) = true)
    (aL_names : PySem.W.findIn K (.ref CL) "names" = some (some (.ref pL_names)))
    (gL_names : PySem.W.specialIn K (.ref pL_names) "__get__" = some (some (.builtin "property.__get__")))
    (tL_names : PySem.W.takesIn K (.ref pL_names) = some true)
    (rL_names : PySem.W.recIn K pL_names "property" = some (.ref fL_names :: rsL_names))
    (lL_names : K.lookup fL_names = some ⟨ocL_names, odL_names, .func (PySem.W.fnOf "names" "Locks.names" (defArgs s_Locks_names) (defBody s_Locks_names) (defScope s_Locks_names) .none kVL_names dcL_names pmL_names anL_names cdL_names ctL_names), slL_names⟩)
    (cL_names : PySem.W.codeIn K cdL_names "Locks.names" = true)
    (kL_names : PySem.W.keepIn K (.ref fL_names) = true)
    (aD___init__ : PySem.W.findIn K (.ref CD) "__init__" = some (some (.ref fD___init__)))
    (iD___init__ : PySem.W.isFn K (.ref fD___init__) = true)
    (lD___init__ : K.lookup fD___init__ = some ⟨ocD___init__, odD___init__, .func (PySem.W.fnOf "__init__" "Door.__init__" (defArgs s_Door___init__) (defBody s_Door___init__) (defScope s_Door___init__) .none (.ref kwaD) dcD___init__ pmD___init__ anD___init__ cdD___init__ ctD___init__), slD___init__⟩)
    (cD___init__ : PySem.W.codeIn K cdD___init__ "Door.__init__" = true)
    (kD___init__ : PySem.W.keepIn K (.ref fD___init__) = true)
    (aD_start : PySem.W.findIn K (.ref CD) "start" = some (some (.ref pD_start)))
    (gD_start : PySem.W.specialIn K (.ref pD_start) "__get__" = some (some (.builtin "property.__get__")))
    (tD_start : PySem.W.takesIn K (.ref pD_start) = some true)
    (rD_start : PySem.W.recIn K pD_start "property" = some (.ref fD_start :: rsD_start))
    (lD_start : K.lookup fD_start = some ⟨ocD_start, odD_start, .func (PySem.W.fnOf "start" "Door.start" (defArgs s_Door_start) (defBody s_Door_start) (defScope s_Door_start) .none kVD_start dcD_start pmD_start anD_start cdD_start ctD_start), slD_start⟩)
    (cD_start : PySem.W.codeIn K cdD_start "Door.start" = true)
    (kD_start : PySem.W.keepIn K (.ref fD_start) = true)
    (aD_end : PySem.W.findIn K (.ref CD) "end" = some (some (.ref pD_end)))
    (gD_end : PySem.W.specialIn K (.ref pD_end) "__get__" = some (some (.builtin "property.__get__")))
    (tD_end : PySem.W.takesIn K (.ref pD_end) = some true)
    (rD_end : PySem.W.recIn K pD_end "property" = some (.ref fD_end :: rsD_end))
    (lD_end : K.lookup fD_end = some ⟨ocD_end, odD_end, .func (PySem.W.fnOf "end" "Door.end" (defArgs s_Door_end) (defBody s_Door_end) (defScope s_Door_end) .none kVD_end dcD_end pmD_end anD_end cdD_end ctD_end), slD_end⟩)
    (cD_end : PySem.W.codeIn K cdD_end "Door.end" = true)
    (kD_end : PySem.W.keepIn K (.ref fD_end) = true)
    (aD_key : PySem.W.findIn K (.ref CD) "key" = some (some (.ref pD_key)))
    (gD_key : PySem.W.specialIn K (.ref pD_key) "__get__" = some (some (.builtin "property.__get__")))
    (tD_key : PySem.W.takesIn K (.ref pD_key) = some true)
    (rD_key : PySem.W.recIn K pD_key "property" = some (.ref fD_key :: rsD_key))
    (lD_key : K.lookup fD_key = some ⟨ocD_key, odD_key, .func (PySem.W.fnOf "key" "Door.key" (defArgs s_Door_key) (defBody s_Door_key) (defScope s_Door_key) .none kVD_key dcD_key pmD_key anD_key cdD_key ctD_key), slD_key⟩)
    (cD_key : PySem.W.codeIn K cdD_key "Door.key" = true)
    (kD_key : PySem.W.keepIn K (.ref fD_key) = true)
    (aD_cost : PySem.W.findIn K (.ref CD) "cost" = some (some (.ref pD_cost)))
    (gD_cost : PySem.W.specialIn K (.ref pD_cost) "__get__" = some (some (.builtin "property.__get__")))
    (tD_cost : PySem.W.takesIn K (.ref pD_cost) = some true)
    (rD_cost : PySem.W.recIn K pD_cost "property" = some (.ref fD_cost :: rsD_cost))
    (lD_cost : K.lookup fD_cost = some ⟨ocD_cost, odD_cost, .func (PySem.W.fnOf "cost" "Door.cost" (defArgs s_Door_cost) (defBody s_Door_cost) (defScope s_Door_cost) .none kVD_cost dcD_cost pmD_cost anD_cost cdD_cost ctD_cost), slD_cost⟩)
    (cD_cost : PySem.W.codeIn K cdD_cost "Door.cost" = true)
    (kD_cost : PySem.W.keepIn K (.ref fD_cost) = true)
    (aD_ways : PySem.W.findIn K (.ref CD) "ways" = some (some (.ref fD_ways)))
    (iD_ways : PySem.W.isFn K (.ref fD_ways) = true)
    (lD_ways : K.lookup fD_ways = some ⟨ocD_ways, odD_ways, .func (PySem.W.fnOf "ways" "Door.ways" (defArgs s_Door_ways) (defBody s_Door_ways) (defScope s_Door_ways) .none kVD_ways dcD_ways pmD_ways anD_ways cdD_ways ctD_ways), slD_ways⟩)
    (cD_ways : PySem.W.codeIn K cdD_ways "Door.ways" = true)
    (kD_ways : PySem.W.keepIn K (.ref fD_ways) = true)
    (aP___init__ : PySem.W.findIn K (.ref CP) "__init__" = some (some (.ref fP___init__)))
    (iP___init__ : PySem.W.isFn K (.ref fP___init__) = true)
    (lP___init__ : K.lookup fP___init__ = some ⟨ocP___init__, odP___init__, .func (PySem.W.fnOf "__init__" "Person.__init__" (defArgs s_Person___init__) (defBody s_Person___init__) (defScope s_Person___init__) .none (.ref kwaP) dcP___init__ pmP___init__ anP___init__ cdP___init__ ctP___init__), slP___init__⟩)
    (cP___init__ : PySem.W.codeIn K cdP___init__ "Person.__init__" = true)
    (kP___init__ : PySem.W.keepIn K (.ref fP___init__) = true)
    (aP_start : PySem.W.findIn K (.ref CP) "start" = some (some (.ref pP_start)))
    (gP_start : PySem.W.specialIn K (.ref pP_start) "__get__" = some (some (.builtin "property.__get__")))
    (tP_start : PySem.W.takesIn K (.ref pP_start) = some true)
    (rP_start : PySem.W.recIn K pP_start "property" = some (.ref fP_start :: rsP_start))
    (lP_start : K.lookup fP_start = some ⟨ocP_start, odP_start, .func (PySem.W.fnOf "start" "Person.start" (defArgs s_Person_start) (defBody s_Person_start) (defScope s_Person_start) .none kVP_start dcP_start pmP_start anP_start cdP_start ctP_start), slP_start⟩)
    (cP_start : PySem.W.codeIn K cdP_start "Person.start" = true)
    (kP_start : PySem.W.keepIn K (.ref fP_start) = true)
    (aP_carried : PySem.W.findIn K (.ref CP) "carried" = some (some (.ref pP_carried)))
    (gP_carried : PySem.W.specialIn K (.ref pP_carried) "__get__" = some (some (.builtin "property.__get__")))
    (tP_carried : PySem.W.takesIn K (.ref pP_carried) = some true)
    (rP_carried : PySem.W.recIn K pP_carried "property" = some (.ref fP_carried :: rsP_carried))
    (lP_carried : K.lookup fP_carried = some ⟨ocP_carried, odP_carried, .func (PySem.W.fnOf "carried" "Person.carried" (defArgs s_Person_carried) (defBody s_Person_carried) (defScope s_Person_carried) .none kVP_carried dcP_carried pmP_carried anP_carried cdP_carried ctP_carried), slP_carried⟩)
    (cP_carried : PySem.W.codeIn K cdP_carried "Person.carried" = true)
    (kP_carried : PySem.W.keepIn K (.ref fP_carried) = true)
    (aP_needs : PySem.W.findIn K (.ref CP) "needs" = some (some (.ref pP_needs)))
    (gP_needs : PySem.W.specialIn K (.ref pP_needs) "__get__" = some (some (.builtin "property.__get__")))
    (tP_needs : PySem.W.takesIn K (.ref pP_needs) = some true)
    (rP_needs : PySem.W.recIn K pP_needs "property" = some (.ref fP_needs :: rsP_needs))
    (lP_needs : K.lookup fP_needs = some ⟨ocP_needs, odP_needs, .func (PySem.W.fnOf "needs" "Person.needs" (defArgs s_Person_needs) (defBody s_Person_needs) (defScope s_Person_needs) .none kVP_needs dcP_needs pmP_needs anP_needs cdP_needs ctP_needs), slP_needs⟩)
    (cP_needs : PySem.W.codeIn K cdP_needs "Person.needs" = true)
    (kP_needs : PySem.W.keepIn K (.ref fP_needs) = true)
    (aP_shuns : PySem.W.findIn K (.ref CP) "shuns" = some (some (.ref pP_shuns)))
    (gP_shuns : PySem.W.specialIn K (.ref pP_shuns) "__get__" = some (some (.builtin "property.__get__")))
    (tP_shuns : PySem.W.takesIn K (.ref pP_shuns) = some true)
    (rP_shuns : PySem.W.recIn K pP_shuns "property" = some (.ref fP_shuns :: rsP_shuns))
    (lP_shuns : K.lookup fP_shuns = some ⟨ocP_shuns, odP_shuns, .func (PySem.W.fnOf "shuns" "Person.shuns" (defArgs s_Person_shuns) (defBody s_Person_shuns) (defScope s_Person_shuns) .none kVP_shuns dcP_shuns pmP_shuns anP_shuns cdP_shuns ctP_shuns), slP_shuns⟩)
    (cP_shuns : PySem.W.codeIn K cdP_shuns "Person.shuns" = true)
    (kP_shuns : PySem.W.keepIn K (.ref fP_shuns) = true)
    (aB___init__ : PySem.W.findIn K (.ref CB) "__init__" = some (some (.ref fB___init__)))
    (iB___init__ : PySem.W.isFn K (.ref fB___init__) = true)
    (lB___init__ : K.lookup fB___init__ = some ⟨ocB___init__, odB___init__, .func (PySem.W.fnOf "__init__" "Building.__init__" (defArgs s_Building___init__) (defBody s_Building___init__) (defScope s_Building___init__) .none kVB___init__ dcB___init__ pmB___init__ anB___init__ cdB___init__ ctB___init__), slB___init__⟩)
    (cB___init__ : PySem.W.codeIn K cdB___init__ "Building.__init__" = true)
    (kB___init__ : PySem.W.keepIn K (.ref fB___init__) = true)
    (aB_key_rooms : PySem.W.findIn K (.ref CB) "key_rooms" = some (some (.ref pB_key_rooms)))
    (gB_key_rooms : PySem.W.specialIn K (.ref pB_key_rooms) "__get__" = some (some (.builtin "property.__get__")))
    (tB_key_rooms : PySem.W.takesIn K (.ref pB_key_rooms) = some true)
    (rB_key_rooms : PySem.W.recIn K pB_key_rooms "property" = some (.ref fB_key_rooms :: rsB_key_rooms))
    (lB_key_rooms : K.lookup fB_key_rooms = some ⟨ocB_key_rooms, odB_key_rooms, .func (PySem.W.fnOf "key_rooms" "Building.key_rooms" (defArgs s_Building_key_rooms) (defBody s_Building_key_rooms) (defScope s_Building_key_rooms) .none kVB_key_rooms dcB_key_rooms pmB_key_rooms anB_key_rooms cdB_key_rooms ctB_key_rooms), slB_key_rooms⟩)
    (cB_key_rooms : PySem.W.codeIn K cdB_key_rooms "Building.key_rooms" = true)
    (kB_key_rooms : PySem.W.keepIn K (.ref fB_key_rooms) = true)
    (aB_doors : PySem.W.findIn K (.ref CB) "doors" = some (some (.ref pB_doors)))
    (gB_doors : PySem.W.specialIn K (.ref pB_doors) "__get__" = some (some (.builtin "property.__get__")))
    (tB_doors : PySem.W.takesIn K (.ref pB_doors) = some true)
    (rB_doors : PySem.W.recIn K pB_doors "property" = some (.ref fB_doors :: rsB_doors))
    (lB_doors : K.lookup fB_doors = some ⟨ocB_doors, odB_doors, .func (PySem.W.fnOf "doors" "Building.doors" (defArgs s_Building_doors) (defBody s_Building_doors) (defScope s_Building_doors) .none kVB_doors dcB_doors pmB_doors anB_doors cdB_doors ctB_doors), slB_doors⟩)
    (cB_doors : PySem.W.codeIn K cdB_doors "Building.doors" = true)
    (kB_doors : PySem.W.keepIn K (.ref fB_doors) = true)
    (aB_people : PySem.W.findIn K (.ref CB) "people" = some (some (.ref pB_people)))
    (gB_people : PySem.W.specialIn K (.ref pB_people) "__get__" = some (some (.builtin "property.__get__")))
    (tB_people : PySem.W.takesIn K (.ref pB_people) = some true)
    (rB_people : PySem.W.recIn K pB_people "property" = some (.ref fB_people :: rsB_people))
    (lB_people : K.lookup fB_people = some ⟨ocB_people, odB_people, .func (PySem.W.fnOf "people" "Building.people" (defArgs s_Building_people) (defBody s_Building_people) (defScope s_Building_people) .none kVB_people dcB_people pmB_people anB_people cdB_people ctB_people), slB_people⟩)
    (cB_people : PySem.W.codeIn K cdB_people "Building.people" = true)
    (kB_people : PySem.W.keepIn K (.ref fB_people) = true)
    (aB_door : PySem.W.findIn K (.ref CB) "door" = some (some (.ref fB_door)))
    (iB_door : PySem.W.isFn K (.ref fB_door) = true)
    (lB_door : K.lookup fB_door = some ⟨ocB_door, odB_door, .func (PySem.W.fnOf "door" "Building.door" (defArgs s_Building_door) (defBody s_Building_door) (defScope s_Building_door) .none kVB_door dcB_door pmB_door anB_door cdB_door ctB_door), slB_door⟩)
    (cB_door : PySem.W.codeIn K cdB_door "Building.door" = true)
    (kB_door : PySem.W.keepIn K (.ref fB_door) = true)
    (aB_person : PySem.W.findIn K (.ref CB) "person" = some (some (.ref fB_person)))
    (iB_person : PySem.W.isFn K (.ref fB_person) = true)
    (lB_person : K.lookup fB_person = some ⟨ocB_person, odB_person, .func (PySem.W.fnOf "person" "Building.person" (defArgs s_Building_person) (defBody s_Building_person) (defScope s_Building_person) .none kVB_person dcB_person pmB_person anB_person cdB_person ctB_person), slB_person⟩)
    (cB_person : PySem.W.codeIn K cdB_person "Building.person" = true)
    (kB_person : PySem.W.keepIn K (.ref fB_person) = true)
    (aB_reach : PySem.W.findIn K (.ref CB) "reach" = some (some (.ref fB_reach)))
    (iB_reach : PySem.W.isFn K (.ref fB_reach) = true)
    (lB_reach : K.lookup fB_reach = some ⟨ocB_reach, odB_reach, .func (PySem.W.fnOf "reach" "Building.reach" (defArgs s_Building_reach) (defBody s_Building_reach) (defScope s_Building_reach) .none kVB_reach dcB_reach pmB_reach anB_reach cdB_reach ctB_reach), slB_reach⟩)
    (cB_reach : PySem.W.codeIn K cdB_reach "Building.reach" = true)
    (kB_reach : PySem.W.keepIn K (.ref fB_reach) = true)
    (aB_price : PySem.W.findIn K (.ref CB) "price" = some (some (.ref fB_price)))
    (iB_price : PySem.W.isFn K (.ref fB_price) = true)
    (lB_price : K.lookup fB_price = some ⟨ocB_price, odB_price, .func (PySem.W.fnOf "price" "Building.price" (defArgs s_Building_price) (defBody s_Building_price) (defScope s_Building_price) .none kVB_price dcB_price pmB_price anB_price cdB_price ctB_price), slB_price⟩)
    (cB_price : PySem.W.codeIn K cdB_price "Building.price" = true)
    (kB_price : PySem.W.keepIn K (.ref fB_price) = true)
    (aB_is_right : PySem.W.findIn K (.ref CB) "is_right" = some (some (.ref fB_is_right)))
    (iB_is_right : PySem.W.isFn K (.ref fB_is_right) = true)
    (lB_is_right : K.lookup fB_is_right = some ⟨ocB_is_right, odB_is_right, .func (PySem.W.fnOf "is_right" "Building.is_right" (defArgs s_Building_is_right) (defBody s_Building_is_right) (defScope s_Building_is_right) .none kVB_is_right dcB_is_right pmB_is_right anB_is_right cdB_is_right ctB_is_right), slB_is_right⟩)
    (cB_is_right : PySem.W.codeIn K cdB_is_right "Building.is_right" = true)
    (kB_is_right : PySem.W.keepIn K (.ref fB_is_right) = true)
    (aK___init__ : PySem.W.findIn K (.ref CK) "__init__" = some (some (.ref fK___init__)))
    (iK___init__ : PySem.W.isFn K (.ref fK___init__) = true)
    (lK___init__ : K.lookup fK___init__ = some ⟨ocK___init__, odK___init__, .func (PySem.W.fnOf "__init__" "Locking.__init__" (defArgs s_Locking___init__) (defBody s_Locking___init__) (defScope s_Locking___init__) .none kVK___init__ dcK___init__ pmK___init__ anK___init__ cdK___init__ ctK___init__), slK___init__⟩)
    (cK___init__ : PySem.W.codeIn K cdK___init__ "Locking.__init__" = true)
    (kK___init__ : PySem.W.keepIn K (.ref fK___init__) = true)
    (aK_shows : PySem.W.findIn K (.ref CK) "shows" = some (some (.ref fK_shows)))
    (iK_shows : PySem.W.isFn K (.ref fK_shows) = true)
    (lK_shows : K.lookup fK_shows = some ⟨ocK_shows, odK_shows, .func (PySem.W.fnOf "shows" "Locking.shows" (defArgs s_Locking_shows) (defBody s_Locking_shows) (defScope s_Locking_shows) .none kVK_shows dcK_shows pmK_shows anK_shows cdK_shows ctK_shows), slK_shows⟩)
    (cK_shows : PySem.W.codeIn K cdK_shows "Locking.shows" = true)
    (kK_shows : PySem.W.keepIn K (.ref fK_shows) = true)
    (aN___init__ : PySem.W.findIn K (.ref CN) "__init__" = some (some (.ref fN___init__)))
    (iN___init__ : PySem.W.isFn K (.ref fN___init__) = true)
    (lN___init__ : K.lookup fN___init__ = some ⟨ocN___init__, odN___init__, .func (PySem.W.fnOf "__init__" "NoLocking.__init__" (defArgs s_NoLocking___init__) (defBody s_NoLocking___init__) (defScope s_NoLocking___init__) .none kVN___init__ dcN___init__ pmN___init__ anN___init__ cdN___init__ ctN___init__), slN___init__⟩)
    (cN___init__ : PySem.W.codeIn K cdN___init__ "NoLocking.__init__" = true)
    (kN___init__ : PySem.W.keepIn K (.ref fN___init__) = true)
    (aN_shows : PySem.W.findIn K (.ref CN) "shows" = some (some (.ref fN_shows)))
    (iN_shows : PySem.W.isFn K (.ref fN_shows) = true)
    (lN_shows : K.lookup fN_shows = some ⟨ocN_shows, odN_shows, .func (PySem.W.fnOf "shows" "NoLocking.shows" (defArgs s_NoLocking_shows) (defBody s_NoLocking_shows) (defScope s_NoLocking_shows) .none kVN_shows dcN_shows pmN_shows anN_shows cdN_shows ctN_shows), slN_shows⟩)
    (cN_shows : PySem.W.codeIn K cdN_shows "NoLocking.shows" = true)
    (kN_shows : PySem.W.keepIn K (.ref fN_shows) = true)
    (tyg : PySem.W.specialIn K (.builtin "object.__class__") "__get__" = some (some (.builtin "getset_descriptor.__get__")))
    (tyt : PySem.W.takesIn K (.builtin "object.__class__") = some true)
    (nTab : K.lookup tPT = none)
    (cTab : PySem.W.codeHdIn K cSB tPT = true)
    (kwD0 : PySem.W.nsIn K kwaD "key" = some (some .none))
    (kwD1 : PySem.W.nsIn K kwaD "both" = some (some (.bool false)))
    (kwD2 : PySem.W.nsIn K kwaD "cost" = some (some (.int 1 tkc)))
    (kwP0 : PySem.W.nsIn K kwaP "carried" = some (some (.ref eT0)))
    (kwP1 : PySem.W.nsIn K kwaP "needs" = some (some (.ref eT1)))
    (kwP2 : PySem.W.nsIn K kwaP "shuns" = some (some (.ref eT2)))
    (leT0 : K.lookup eT0 = some ⟨.type "tuple", odE0, .seq #[] nE0, slE0⟩)
    (leT1 : K.lookup eT1 = some ⟨.type "tuple", odE1, .seq #[] nE1, slE1⟩)
    (leT2 : K.lookup eT2 = some ⟨.type "tuple", odE2, .seq #[] nE2, slE2⟩)
    (g_LockError : PySem.W.nsIn K mainGlobals "LockError" = some (some (.ref C_LockError)))
    (v_LETTERS : PySem.W.nsIn K mainGlobals "LETTERS" = some (some (.str abc tk0)))
    (v_LONGEST : PySem.W.nsIn K mainGlobals "LONGEST" = some (some (.int 8 tk1)))
    (v_FEWEST_ROOMS : PySem.W.nsIn K mainGlobals "FEWEST_ROOMS" = some (some (.int 2 tk2)))
    (v_MOST_ROOMS : PySem.W.nsIn K mainGlobals "MOST_ROOMS" = some (some (.int 6 tk3)))
    (v_MOST_KEYS : PySem.W.nsIn K mainGlobals "MOST_KEYS" = some (some (.int 3 tk4)))
    (v_MOST_DOORS : PySem.W.nsIn K mainGlobals "MOST_DOORS" = some (some (.int 8 tk5)))
    (v_MOST_PEOPLE : PySem.W.nsIn K mainGlobals "MOST_PEOPLE" = some (some (.int 4 tk6)))
    (v_HIGHEST_COST : PySem.W.nsIn K mainGlobals "HIGHEST_COST" = some (some (.int 9 tk7)))
    (v_THROUGH : PySem.W.nsIn K mainGlobals "THROUGH" = some (some (.str "through" tk8)))
    (v_SHUT : PySem.W.nsIn K mainGlobals "SHUT" = some (some (.str "shut" tk9)))
    (z0 : PySem.W.nsIn K mainGlobals "len" = some none)
    (z1 : PySem.W.nsIn K mainGlobals "isinstance" = some none)
    (z2 : PySem.W.nsIn K mainGlobals "str" = some none)
    (z3 : PySem.W.nsIn K mainGlobals "all" = some none)
    (z4 : PySem.W.nsIn K mainGlobals "set" = some none)
    (z5 : PySem.W.nsIn K mainGlobals "sorted" = some none)
    (z6 : PySem.W.nsIn K mainGlobals "tuple" = some none)
    (z7 : PySem.W.nsIn K mainGlobals "list" = some none)
    (z8 : PySem.W.nsIn K mainGlobals "bool" = some none)
    (z9 : PySem.W.nsIn K mainGlobals "range" = some none)
    (z10 : PySem.W.nsIn K mainGlobals "max" = some none)
    (z11 : PySem.W.nsIn K mainGlobals "min" = some none)
    (z12 : PySem.W.nsIn K mainGlobals "any" = some none)
    (z13 : PySem.W.nsIn K mainGlobals "sum" = some none)
    (z14 : PySem.W.nsIn K mainGlobals "int" = some none)
    (z15 : PySem.W.nsIn K mainGlobals "dict" = some none)
    (zx_abs : PySem.W.nsIn K mainGlobals "abs" = some none)
    (zx_enumerate : PySem.W.nsIn K mainGlobals "enumerate" = some none)
    : LamX.LawAtS l w K CX0 13 63 "_law_script" mg fa h := by
  have e := hfa.symm.trans (PySem.W.mg_of X G a_law)
  cases e
  have B : Blt mg := ⟨PySem.W.mg_none_of X G z0, PySem.W.mg_none_of X G z1, PySem.W.mg_none_of X G z2, PySem.W.mg_none_of X G z3, PySem.W.mg_none_of X G z4, PySem.W.mg_none_of X G z5, PySem.W.mg_none_of X G z6, PySem.W.mg_none_of X G z7, PySem.W.mg_none_of X G z8, PySem.W.mg_none_of X G z9, PySem.W.mg_none_of X G z10, PySem.W.mg_none_of X G z11, PySem.W.mg_none_of X G z12, PySem.W.mg_none_of X G z13, PySem.W.mg_none_of X G z14, PySem.W.mg_none_of X G z15⟩
  have F_is_name := fun_mk (st := s_is_name) l_is_name c_is_name k_is_name
  have F_are_names := fun_mk (st := s_are_names) l_are_names c_are_names k_are_names
  have F_all_in := fun_mk (st := s_all_in) l_all_in c_all_in k_all_in
  have F_check_other := fun_mk (st := s_check_other) l_check_other c_check_other k_check_other
  have F_is_cost := fun_mk (st := s_is_cost) l_is_cost c_is_cost k_is_cost
  have F_is_table := fun_mk (st := s_is_table) l_is_table c_is_table k_is_table
  have F_are_rooms := fun_mk (st := s_are_rooms) l_are_rooms c_are_rooms k_are_rooms
  have F_is_key := fun_mk (st := s_is_key) l_is_key c_is_key k_is_key
  have F_are_keys := fun_mk (st := s_are_keys) l_are_keys c_are_keys k_are_keys
  have F_fits_door := fun_mk (st := s_fits_door) l_fits_door c_fits_door k_fits_door
  have F_fits_person := fun_mk (st := s_fits_person) l_fits_person c_fits_person k_fits_person
  have F_are_doors := fun_mk (st := s_are_doors) l_are_doors c_are_doors k_are_doors
  have F_are_people := fun_mk (st := s_are_people) l_are_people c_are_people k_are_people
  have F_check_building := fun_mk (st := s_check_building) l_check_building c_check_building k_check_building
  have F_check_locks := fun_mk (st := s_check_locks) l_check_locks c_check_locks k_check_locks
  have F_are_doors_of := fun_mk (st := s_are_doors_of) l_are_doors_of c_are_doors_of k_are_doors_of
  have F_check_trail := fun_mk (st := s_check_trail) l_check_trail c_check_trail k_check_trail
  have F_keys_held := fun_mk (st := s_keys_held) l_keys_held c_keys_held k_keys_held
  have F_lets_through := fun_mk (st := s_lets_through) l_lets_through c_lets_through k_lets_through
  have F_room_added := fun_mk (st := s_room_added) l_room_added c_room_added k_room_added
  have F_rooms_beyond := fun_mk (st := s_rooms_beyond) l_rooms_beyond c_rooms_beyond k_rooms_beyond
  have F_suits := fun_mk (st := s_suits) l_suits c_suits k_suits
  have F_rooms_of := fun_mk (st := s_rooms_of) l_rooms_of c_rooms_of k_rooms_of
  have F_is_trail := fun_mk (st := s_is_trail) l_is_trail c_is_trail k_is_trail
  have F_is_complete := fun_mk (st := s_is_complete) l_is_complete c_is_complete k_is_complete
  have F_first_step := fun_mk (st := s_first_step) l_first_step c_first_step k_first_step
  have F_trail_of := fun_mk (st := s_trail_of) l_trail_of c_trail_of k_trail_of
  have F_trail_into := fun_mk (st := s_trail_into) l_trail_into c_trail_into k_trail_into
  have F_has_doubt_form := fun_mk (st := s_has_doubt_form) l_has_doubt_form c_has_doubt_form k_has_doubt_form
  have F_check_doubt := fun_mk (st := s_check_doubt) l_check_doubt c_check_doubt k_check_doubt
  have F_leads_to_shunned := fun_mk (st := s_leads_to_shunned) l_leads_to_shunned c_leads_to_shunned k_leads_to_shunned
  have F_shuts_out := fun_mk (st := s_shuts_out) l_shuts_out c_shuts_out k_shuts_out
  have F_is_doubt := fun_mk (st := s_is_doubt) l_is_doubt c_is_doubt k_is_doubt
  have F_strikes := fun_mk (st := s_strikes) l_strikes c_strikes k_strikes
  have F_rules_out := fun_mk (st := s_rules_out) l_rules_out c_rules_out k_rules_out
  have F_is_struck := fun_mk (st := s_is_struck) l_is_struck c_is_struck k_is_struck
  have F_locks_at := fun_mk (st := s_locks_at) l_locks_at c_locks_at k_locks_at
  have F_sets_by_price := fun_mk (st := s_sets_by_price) l_sets_by_price c_sets_by_price k_sets_by_price
  have F_doubt_about := fun_mk (st := s_doubt_about) l_doubt_about c_doubt_about k_doubt_about
  have F_cheapest := fun_mk (st := s_cheapest) l_cheapest c_cheapest k_cheapest
  have F_are_doubts := fun_mk (st := s_are_doubts) l_are_doubts c_are_doubts k_are_doubts
  have F__law_house := fun_mk (st := s__law_house) l__law_house c__law_house k__law_house
  have F__law_reaches_right := fun_mk (st := s__law_reaches_right) l__law_reaches_right c__law_reaches_right k__law_reaches_right
  have F__law_trails_right := fun_mk (st := s__law_trails_right) l__law_trails_right c__law_trails_right k__law_trails_right
  have F__law_doubts_right := fun_mk (st := s__law_doubts_right) l__law_doubts_right c__law_doubts_right k__law_doubts_right
  have F__law_cheapest_right := fun_mk (st := s__law_cheapest_right) l__law_cheapest_right c__law_cheapest_right k__law_cheapest_right
  have F__law_answers_right := fun_mk (st := s__law_answers_right) l__law_answers_right c__law_answers_right k__law_answers_right
  have F_law := fun_mk (st := s_law) l_law c_law k_law
  have FL___init__ := fun_mk (st := s_Locks___init__) lL___init__ cL___init__ kL___init__
  have FL___eq__ := fun_mk (st := s_Locks___eq__) lL___eq__ cL___eq__ kL___eq__
  have FL___or__ := fun_mk (st := s_Locks___or__) lL___or__ cL___or__ kL___or__
  have FL___contains__ := fun_mk (st := s_Locks___contains__) lL___contains__ cL___contains__ kL___contains__
  have FL_names := fun_mk (st := s_Locks_names) lL_names cL_names kL_names
  have FD___init__ := fun_mk (st := s_Door___init__) lD___init__ cD___init__ kD___init__
  have FD_start := fun_mk (st := s_Door_start) lD_start cD_start kD_start
  have FD_end := fun_mk (st := s_Door_end) lD_end cD_end kD_end
  have FD_key := fun_mk (st := s_Door_key) lD_key cD_key kD_key
  have FD_cost := fun_mk (st := s_Door_cost) lD_cost cD_cost kD_cost
  have FD_ways := fun_mk (st := s_Door_ways) lD_ways cD_ways kD_ways
  have FP___init__ := fun_mk (st := s_Person___init__) lP___init__ cP___init__ kP___init__
  have FP_start := fun_mk (st := s_Person_start) lP_start cP_start kP_start
  have FP_carried := fun_mk (st := s_Person_carried) lP_carried cP_carried kP_carried
  have FP_needs := fun_mk (st := s_Person_needs) lP_needs cP_needs kP_needs
  have FP_shuns := fun_mk (st := s_Person_shuns) lP_shuns cP_shuns kP_shuns
  have FB___init__ := fun_mk (st := s_Building___init__) lB___init__ cB___init__ kB___init__
  have FB_key_rooms := fun_mk (st := s_Building_key_rooms) lB_key_rooms cB_key_rooms kB_key_rooms
  have FB_doors := fun_mk (st := s_Building_doors) lB_doors cB_doors kB_doors
  have FB_people := fun_mk (st := s_Building_people) lB_people cB_people kB_people
  have FB_door := fun_mk (st := s_Building_door) lB_door cB_door kB_door
  have FB_person := fun_mk (st := s_Building_person) lB_person cB_person kB_person
  have FB_reach := fun_mk (st := s_Building_reach) lB_reach cB_reach kB_reach
  have FB_price := fun_mk (st := s_Building_price) lB_price cB_price kB_price
  have FB_is_right := fun_mk (st := s_Building_is_right) lB_is_right cB_is_right kB_is_right
  have FK___init__ := fun_mk (st := s_Locking___init__) lK___init__ cK___init__ kK___init__
  have FK_shows := fun_mk (st := s_Locking_shows) lK_shows cK_shows kK_shows
  have FN___init__ := fun_mk (st := s_NoLocking___init__) lN___init__ cN___init__ kN___init__
  have FN_shows := fun_mk (st := s_NoLocking_shows) lN_shows cN_shows kN_shows
  have b_is_name := F_is_name.binds (ps := ["value"]) fun _ _ _ _ _ _ us hl => match us, hl with | [_], _ => rfl
  have n_is_name : mg "is_name" = some (.ref f_is_name) := PySem.W.mg_of X G a_is_name
  have b_are_names := F_are_names.binds (ps := ["values"]) fun _ _ _ _ _ _ us hl => match us, hl with | [_], _ => rfl
  have n_are_names : mg "are_names" = some (.ref f_are_names) := PySem.W.mg_of X G a_are_names
  have b_all_in := F_all_in.binds (ps := ["names", "known"]) fun _ _ _ _ _ _ us hl => match us, hl with | [_, _], _ => rfl
  have n_all_in : mg "all_in" = some (.ref f_all_in) := PySem.W.mg_of X G a_all_in
  have b_check_other := F_check_other.binds (ps := ["other"]) fun _ _ _ _ _ _ us hl => match us, hl with | [_], _ => rfl
  have n_check_other : mg "check_other" = some (.ref f_check_other) := PySem.W.mg_of X G a_check_other
  have b_is_cost := F_is_cost.binds (ps := ["value"]) fun _ _ _ _ _ _ us hl => match us, hl with | [_], _ => rfl
  have n_is_cost : mg "is_cost" = some (.ref f_is_cost) := PySem.W.mg_of X G a_is_cost
  have b_is_table := F_is_table.binds (ps := ["value", "fewest", "most"]) fun _ _ _ _ _ _ us hl => match us, hl with | [_, _, _], _ => rfl
  have n_is_table : mg "is_table" = some (.ref f_is_table) := PySem.W.mg_of X G a_is_table
  have b_are_rooms := F_are_rooms.binds (ps := ["rooms"]) fun _ _ _ _ _ _ us hl => match us, hl with | [_], _ => rfl
  have n_are_rooms : mg "are_rooms" = some (.ref f_are_rooms) := PySem.W.mg_of X G a_are_rooms
  have b_is_key := F_is_key.binds (ps := ["name", "room", "rooms"]) fun _ _ _ _ _ _ us hl => match us, hl with | [_, _, _], _ => rfl
  have n_is_key : mg "is_key" = some (.ref f_is_key) := PySem.W.mg_of X G a_is_key
  have b_are_keys := F_are_keys.binds (ps := ["keys", "rooms"]) fun _ _ _ _ _ _ us hl => match us, hl with | [_, _], _ => rfl
  have n_are_keys : mg "are_keys" = some (.ref f_are_keys) := PySem.W.mg_of X G a_are_keys
  have b_fits_door := F_fits_door.binds (ps := ["door", "rooms", "keys"]) fun _ _ _ _ _ _ us hl => match us, hl with | [_, _, _], _ => rfl
  have n_fits_door : mg "fits_door" = some (.ref f_fits_door) := PySem.W.mg_of X G a_fits_door
  have b_fits_person := F_fits_person.binds (ps := ["person", "rooms", "keys"]) fun _ _ _ _ _ _ us hl => match us, hl with | [_, _, _], _ => rfl
  have n_fits_person : mg "fits_person" = some (.ref f_fits_person) := PySem.W.mg_of X G a_fits_person
  have b_are_doors := F_are_doors.binds (ps := ["doors", "rooms", "keys"]) fun _ _ _ _ _ _ us hl => match us, hl with | [_, _, _], _ => rfl
  have n_are_doors : mg "are_doors" = some (.ref f_are_doors) := PySem.W.mg_of X G a_are_doors
  have b_are_people := F_are_people.binds (ps := ["people", "rooms", "keys"]) fun _ _ _ _ _ _ us hl => match us, hl with | [_, _, _], _ => rfl
  have n_are_people : mg "are_people" = some (.ref f_are_people) := PySem.W.mg_of X G a_are_people
  have b_check_building := F_check_building.binds (ps := ["building"]) fun _ _ _ _ _ _ us hl => match us, hl with | [_], _ => rfl
  have n_check_building : mg "check_building" = some (.ref f_check_building) := PySem.W.mg_of X G a_check_building
  have b_check_locks := F_check_locks.binds (ps := ["building", "locks"]) fun _ _ _ _ _ _ us hl => match us, hl with | [_, _], _ => rfl
  have n_check_locks : mg "check_locks" = some (.ref f_check_locks) := PySem.W.mg_of X G a_check_locks
  have b_are_doors_of := F_are_doors_of.binds (ps := ["building", "names"]) fun _ _ _ _ _ _ us hl => match us, hl with | [_, _], _ => rfl
  have n_are_doors_of : mg "are_doors_of" = some (.ref f_are_doors_of) := PySem.W.mg_of X G a_are_doors_of
  have b_check_trail := F_check_trail.binds (ps := ["building", "trail"]) fun _ _ _ _ _ _ us hl => match us, hl with | [_, _], _ => rfl
  have n_check_trail : mg "check_trail" = some (.ref f_check_trail) := PySem.W.mg_of X G a_check_trail
  have b_keys_held := F_keys_held.binds (ps := ["building", "person", "rooms"]) fun _ _ _ _ _ _ us hl => match us, hl with | [_, _, _], _ => rfl
  have n_keys_held : mg "keys_held" = some (.ref f_keys_held) := PySem.W.mg_of X G a_keys_held
  have b_lets_through := F_lets_through.binds (ps := ["building", "person", "locks", "rooms", "name"]) fun _ _ _ _ _ _ us hl => match us, hl with | [_, _, _, _, _], _ => rfl
  have n_lets_through : mg "lets_through" = some (.ref f_lets_through) := PySem.W.mg_of X G a_lets_through
  have b_room_added := F_room_added.binds (ps := ["building", "person", "locks", "rooms", "name"]) fun _ _ _ _ _ _ us hl => match us, hl with | [_, _, _, _, _], _ => rfl
  have n_room_added : mg "room_added" = some (.ref f_room_added) := PySem.W.mg_of X G a_room_added
  have b_rooms_beyond := F_rooms_beyond.binds (ps := ["building", "person", "locks", "rooms"]) fun _ _ _ _ _ _ us hl => match us, hl with | [_, _, _, _], _ => rfl
  have n_rooms_beyond : mg "rooms_beyond" = some (.ref f_rooms_beyond) := PySem.W.mg_of X G a_rooms_beyond
  have b_suits := F_suits.binds (ps := ["person", "rooms"]) fun _ _ _ _ _ _ us hl => match us, hl with | [_, _], _ => rfl
  have n_suits : mg "suits" = some (.ref f_suits) := PySem.W.mg_of X G a_suits
  have b_rooms_of := F_rooms_of.binds (ps := ["building", "person", "locks", "trail"]) fun _ _ _ _ _ _ us hl => match us, hl with | [_, _, _, _], _ => rfl
  have n_rooms_of : mg "rooms_of" = some (.ref f_rooms_of) := PySem.W.mg_of X G a_rooms_of
  have b_is_trail := F_is_trail.binds (ps := ["building", "name", "locks", "trail"]) fun _ _ _ _ _ _ us hl => match us, hl with | [_, _, _, _], _ => rfl
  have n_is_trail : mg "is_trail" = some (.ref f_is_trail) := PySem.W.mg_of X G a_is_trail
  have b_is_complete := F_is_complete.binds (ps := ["building", "name", "locks", "trail"]) fun _ _ _ _ _ _ us hl => match us, hl with | [_, _, _, _], _ => rfl
  have n_is_complete : mg "is_complete" = some (.ref f_is_complete) := PySem.W.mg_of X G a_is_complete
  have b_first_step := F_first_step.binds (ps := ["building", "person", "locks", "rooms"]) fun _ _ _ _ _ _ us hl => match us, hl with | [_, _, _, _], _ => rfl
  have n_first_step : mg "first_step" = some (.ref f_first_step) := PySem.W.mg_of X G a_first_step
  have b_trail_of := F_trail_of.binds (ps := ["building", "name", "locks"]) fun _ _ _ _ _ _ us hl => match us, hl with | [_, _, _], _ => rfl
  have n_trail_of : mg "trail_of" = some (.ref f_trail_of) := PySem.W.mg_of X G a_trail_of
  have b_trail_into := F_trail_into.binds (ps := ["building", "name", "locks", "wanted"]) fun _ _ _ _ _ _ us hl => match us, hl with | [_, _, _, _], _ => rfl
  have n_trail_into : mg "trail_into" = some (.ref f_trail_into) := PySem.W.mg_of X G a_trail_into
  have b_has_doubt_form := F_has_doubt_form.binds (ps := ["building", "doubt"]) fun _ _ _ _ _ _ us hl => match us, hl with | [_, _], _ => rfl
  have n_has_doubt_form : mg "has_doubt_form" = some (.ref f_has_doubt_form) := PySem.W.mg_of X G a_has_doubt_form
  have b_check_doubt := F_check_doubt.binds (ps := ["building", "doubt"]) fun _ _ _ _ _ _ us hl => match us, hl with | [_, _], _ => rfl
  have n_check_doubt : mg "check_doubt" = some (.ref f_check_doubt) := PySem.W.mg_of X G a_check_doubt
  have b_leads_to_shunned := F_leads_to_shunned.binds (ps := ["building", "person", "trail"]) fun _ _ _ _ _ _ us hl => match us, hl with | [_, _, _], _ => rfl
  have n_leads_to_shunned : mg "leads_to_shunned" = some (.ref f_leads_to_shunned) := PySem.W.mg_of X G a_leads_to_shunned
  have b_shuts_out := F_shuts_out.binds (ps := ["building", "name", "doors"]) fun _ _ _ _ _ _ us hl => match us, hl with | [_, _, _], _ => rfl
  have n_shuts_out : mg "shuts_out" = some (.ref f_shuts_out) := PySem.W.mg_of X G a_shuts_out
  have b_is_doubt := F_is_doubt.binds (ps := ["building", "doubt"]) fun _ _ _ _ _ _ us hl => match us, hl with | [_, _], _ => rfl
  have n_is_doubt : mg "is_doubt" = some (.ref f_is_doubt) := PySem.W.mg_of X G a_is_doubt
  have b_strikes := F_strikes.binds (ps := ["doubt", "locks"]) fun _ _ _ _ _ _ us hl => match us, hl with | [_, _], _ => rfl
  have n_strikes : mg "strikes" = some (.ref f_strikes) := PySem.W.mg_of X G a_strikes
  have b_rules_out := F_rules_out.binds (ps := ["building", "doubt", "locks"]) fun _ _ _ _ _ _ us hl => match us, hl with | [_, _, _], _ => rfl
  have n_rules_out : mg "rules_out" = some (.ref f_rules_out) := PySem.W.mg_of X G a_rules_out
  have b_is_struck := F_is_struck.binds (ps := ["doubts", "locks"]) fun _ _ _ _ _ _ us hl => match us, hl with | [_, _], _ => rfl
  have n_is_struck : mg "is_struck" = some (.ref f_is_struck) := PySem.W.mg_of X G a_is_struck
  have b_locks_at := F_locks_at.binds (ps := ["doors", "indices"]) fun _ _ _ _ _ _ us hl => match us, hl with | [_, _], _ => rfl
  have n_locks_at : mg "locks_at" = some (.ref f_locks_at) := PySem.W.mg_of X G a_locks_at
  have b_sets_by_price := F_sets_by_price.binds (ps := ["building"]) fun _ _ _ _ _ _ us hl => match us, hl with | [_], _ => rfl
  have n_sets_by_price : mg "sets_by_price" = some (.ref f_sets_by_price) := PySem.W.mg_of X G a_sets_by_price
  have b_doubt_about := F_doubt_about.binds (ps := ["building", "locks"]) fun _ _ _ _ _ _ us hl => match us, hl with | [_, _], _ => rfl
  have n_doubt_about : mg "doubt_about" = some (.ref f_doubt_about) := PySem.W.mg_of X G a_doubt_about
  have b_cheapest := F_cheapest.binds (ps := ["building"]) fun _ _ _ _ _ _ us hl => match us, hl with | [_], _ => rfl
  have n_cheapest : mg "cheapest" = some (.ref f_cheapest) := PySem.W.mg_of X G a_cheapest
  have b_are_doubts := F_are_doubts.binds (ps := ["building", "doubts"]) fun _ _ _ _ _ _ us hl => match us, hl with | [_, _], _ => rfl
  have n_are_doubts : mg "are_doubts" = some (.ref f_are_doubts) := PySem.W.mg_of X G a_are_doubts
  have b__law_house := F__law_house.binds (ps := ["_law_worth"]) fun _ _ _ _ _ _ us hl => match us, hl with | [_], _ => rfl
  have n__law_house : mg "_law_house" = some (.ref f__law_house) := PySem.W.mg_of X G a__law_house
  have b__law_reaches_right := F__law_reaches_right.binds (ps := ["_law_worth"]) fun _ _ _ _ _ _ us hl => match us, hl with | [_], _ => rfl
  have n__law_reaches_right : mg "_law_reaches_right" = some (.ref f__law_reaches_right) := PySem.W.mg_of X G a__law_reaches_right
  have b__law_trails_right := F__law_trails_right.binds (ps := []) fun _ _ _ _ _ _ us hl => match us, hl with | [], _ => rfl
  have n__law_trails_right : mg "_law_trails_right" = some (.ref f__law_trails_right) := PySem.W.mg_of X G a__law_trails_right
  have b__law_doubts_right := F__law_doubts_right.binds (ps := []) fun _ _ _ _ _ _ us hl => match us, hl with | [], _ => rfl
  have n__law_doubts_right : mg "_law_doubts_right" = some (.ref f__law_doubts_right) := PySem.W.mg_of X G a__law_doubts_right
  have b__law_cheapest_right := F__law_cheapest_right.binds (ps := ["_law_worth"]) fun _ _ _ _ _ _ us hl => match us, hl with | [_], _ => rfl
  have n__law_cheapest_right : mg "_law_cheapest_right" = some (.ref f__law_cheapest_right) := PySem.W.mg_of X G a__law_cheapest_right
  have b__law_answers_right := F__law_answers_right.binds (ps := []) fun _ _ _ _ _ _ us hl => match us, hl with | [], _ => rfl
  have n__law_answers_right : mg "_law_answers_right" = some (.ref f__law_answers_right) := PySem.W.mg_of X G a__law_answers_right
  have b_law := F_law.binds (ps := ["_law_script"]) fun _ _ _ _ _ _ us hl => match us, hl with | [_], _ => rfl
  have mL___init__ : Meth K CL "__init__" fL___init__ := ⟨aL___init__, iL___init__, kL___init__⟩
  have bL___eq__ := FL___eq__.binds (ps := ["self", "other"]) fun _ _ _ _ _ _ us hl => match us, hl with | [_, _], _ => rfl
  have mL___eq__ : Meth K CL "__eq__" fL___eq__ := ⟨aL___eq__, iL___eq__, kL___eq__⟩
  have bL___or__ := FL___or__.binds (ps := ["self", "other"]) fun _ _ _ _ _ _ us hl => match us, hl with | [_, _], _ => rfl
  have mL___or__ : Meth K CL "__or__" fL___or__ := ⟨aL___or__, iL___or__, kL___or__⟩
  have bL___contains__ := FL___contains__.binds (ps := ["self", "name"]) fun _ _ _ _ _ _ us hl => match us, hl with | [_, _], _ => rfl
  have mL___contains__ : Meth K CL "__contains__" fL___contains__ := ⟨aL___contains__, iL___contains__, kL___contains__⟩
  have bL_names := FL_names.binds (ps := ["self"]) fun _ _ _ _ _ _ us hl => match us, hl with | [_], _ => rfl
  have oL_names : PropOf K CL "names" pL_names fL_names := ⟨aL_names, gL_names, tL_names, rsL_names, rL_names⟩
  have mD___init__ : Meth K CD "__init__" fD___init__ := ⟨aD___init__, iD___init__, kD___init__⟩
  have bD_start := FD_start.binds (ps := ["self"]) fun _ _ _ _ _ _ us hl => match us, hl with | [_], _ => rfl
  have oD_start : PropOf K CD "start" pD_start fD_start := ⟨aD_start, gD_start, tD_start, rsD_start, rD_start⟩
  have bD_end := FD_end.binds (ps := ["self"]) fun _ _ _ _ _ _ us hl => match us, hl with | [_], _ => rfl
  have oD_end : PropOf K CD "end" pD_end fD_end := ⟨aD_end, gD_end, tD_end, rsD_end, rD_end⟩
  have bD_key := FD_key.binds (ps := ["self"]) fun _ _ _ _ _ _ us hl => match us, hl with | [_], _ => rfl
  have oD_key : PropOf K CD "key" pD_key fD_key := ⟨aD_key, gD_key, tD_key, rsD_key, rD_key⟩
  have bD_cost := FD_cost.binds (ps := ["self"]) fun _ _ _ _ _ _ us hl => match us, hl with | [_], _ => rfl
  have oD_cost : PropOf K CD "cost" pD_cost fD_cost := ⟨aD_cost, gD_cost, tD_cost, rsD_cost, rD_cost⟩
  have bD_ways := FD_ways.binds (ps := ["self"]) fun _ _ _ _ _ _ us hl => match us, hl with | [_], _ => rfl
  have mD_ways : Meth K CD "ways" fD_ways := ⟨aD_ways, iD_ways, kD_ways⟩
  have mP___init__ : Meth K CP "__init__" fP___init__ := ⟨aP___init__, iP___init__, kP___init__⟩
  have bP_start := FP_start.binds (ps := ["self"]) fun _ _ _ _ _ _ us hl => match us, hl with | [_], _ => rfl
  have oP_start : PropOf K CP "start" pP_start fP_start := ⟨aP_start, gP_start, tP_start, rsP_start, rP_start⟩
  have bP_carried := FP_carried.binds (ps := ["self"]) fun _ _ _ _ _ _ us hl => match us, hl with | [_], _ => rfl
  have oP_carried : PropOf K CP "carried" pP_carried fP_carried := ⟨aP_carried, gP_carried, tP_carried, rsP_carried, rP_carried⟩
  have bP_needs := FP_needs.binds (ps := ["self"]) fun _ _ _ _ _ _ us hl => match us, hl with | [_], _ => rfl
  have oP_needs : PropOf K CP "needs" pP_needs fP_needs := ⟨aP_needs, gP_needs, tP_needs, rsP_needs, rP_needs⟩
  have bP_shuns := FP_shuns.binds (ps := ["self"]) fun _ _ _ _ _ _ us hl => match us, hl with | [_], _ => rfl
  have oP_shuns : PropOf K CP "shuns" pP_shuns fP_shuns := ⟨aP_shuns, gP_shuns, tP_shuns, rsP_shuns, rP_shuns⟩
  have bB___init__ := FB___init__.binds (ps := ["self", "rooms", "keys", "doors", "people"]) fun _ _ _ _ _ _ us hl => match us, hl with | [_, _, _, _, _], _ => rfl
  have mB___init__ : Meth K CB "__init__" fB___init__ := ⟨aB___init__, iB___init__, kB___init__⟩
  have bB_key_rooms := FB_key_rooms.binds (ps := ["self"]) fun _ _ _ _ _ _ us hl => match us, hl with | [_], _ => rfl
  have oB_key_rooms : PropOf K CB "key_rooms" pB_key_rooms fB_key_rooms := ⟨aB_key_rooms, gB_key_rooms, tB_key_rooms, rsB_key_rooms, rB_key_rooms⟩
  have bB_doors := FB_doors.binds (ps := ["self"]) fun _ _ _ _ _ _ us hl => match us, hl with | [_], _ => rfl
  have oB_doors : PropOf K CB "doors" pB_doors fB_doors := ⟨aB_doors, gB_doors, tB_doors, rsB_doors, rB_doors⟩
  have bB_people := FB_people.binds (ps := ["self"]) fun _ _ _ _ _ _ us hl => match us, hl with | [_], _ => rfl
  have oB_people : PropOf K CB "people" pB_people fB_people := ⟨aB_people, gB_people, tB_people, rsB_people, rB_people⟩
  have bB_door := FB_door.binds (ps := ["self", "name"]) fun _ _ _ _ _ _ us hl => match us, hl with | [_, _], _ => rfl
  have mB_door : Meth K CB "door" fB_door := ⟨aB_door, iB_door, kB_door⟩
  have bB_person := FB_person.binds (ps := ["self", "name"]) fun _ _ _ _ _ _ us hl => match us, hl with | [_, _], _ => rfl
  have mB_person : Meth K CB "person" fB_person := ⟨aB_person, iB_person, kB_person⟩
  have bB_reach := FB_reach.binds (ps := ["self", "name", "locks"]) fun _ _ _ _ _ _ us hl => match us, hl with | [_, _, _], _ => rfl
  have mB_reach : Meth K CB "reach" fB_reach := ⟨aB_reach, iB_reach, kB_reach⟩
  have bB_price := FB_price.binds (ps := ["self", "locks"]) fun _ _ _ _ _ _ us hl => match us, hl with | [_, _], _ => rfl
  have mB_price : Meth K CB "price" fB_price := ⟨aB_price, iB_price, kB_price⟩
  have bB_is_right := FB_is_right.binds (ps := ["self", "locks"]) fun _ _ _ _ _ _ us hl => match us, hl with | [_, _], _ => rfl
  have mB_is_right : Meth K CB "is_right" fB_is_right := ⟨aB_is_right, iB_is_right, kB_is_right⟩
  have bK___init__ := FK___init__.binds (ps := ["self", "locks", "trails", "doubts"]) fun _ _ _ _ _ _ us hl => match us, hl with | [_, _, _, _], _ => rfl
  have mK___init__ : Meth K CK "__init__" fK___init__ := ⟨aK___init__, iK___init__, kK___init__⟩
  have bK_shows := FK_shows.binds (ps := ["self", "building"]) fun _ _ _ _ _ _ us hl => match us, hl with | [_, _], _ => rfl
  have mK_shows : Meth K CK "shows" fK_shows := ⟨aK_shows, iK_shows, kK_shows⟩
  have bN___init__ := FN___init__.binds (ps := ["self", "doubts"]) fun _ _ _ _ _ _ us hl => match us, hl with | [_, _], _ => rfl
  have mN___init__ : Meth K CN "__init__" fN___init__ := ⟨aN___init__, iN___init__, kN___init__⟩
  have bN_shows := FN_shows.binds (ps := ["self", "building"]) fun _ _ _ _ _ _ us hl => match us, hl with | [_, _], _ => rfl
  have mN_shows : Meth K CN "shows" fN_shows := ⟨aN_shows, iN_shows, kN_shows⟩
  have TL : LkC K mg CL := ⟨⟨pgL, hdL, poL, saL⟩, PySem.W.mg_of X G a_Locks, noL0, tycL, tyg, tyt, tymL, if_pos (beq_self_eq_true _), sfL, nbL⟩
  have TD : OwnC K mg CD "Door" ["kept_start", "kept_end", "kept_key", "kept_both", "kept_cost"] := ⟨⟨pgD, hdD, poD, saD⟩, PySem.W.mg_of X G a_Door, (fun f hf => by
    simp only [List.mem_cons, List.not_mem_nil, or_false] at hf
    rcases hf with rfl | rfl | rfl | rfl | rfl
    · exact noD0
    · exact noD1
    · exact noD2
    · exact noD3
    · exact noD4), tycD, tyg, tyt, tymD⟩
  have TP : OwnC K mg CP "Person" ["kept_start", "kept_carried", "kept_needs", "kept_shuns"] := ⟨⟨pgP, hdP, poP, saP⟩, PySem.W.mg_of X G a_Person, (fun f hf => by
    simp only [List.mem_cons, List.not_mem_nil, or_false] at hf
    rcases hf with rfl | rfl | rfl | rfl
    · exact noP0
    · exact noP1
    · exact noP2
    · exact noP3), tycP, tyg, tyt, tymP⟩
  have TB : OwnC K mg CB "Building" ["kept_rooms", "kept_keys", "door_names", "kept_doors", "person_names", "kept_people"] := ⟨⟨pgB, hdB, poB, saB⟩, PySem.W.mg_of X G a_Building, (fun f hf => by
    simp only [List.mem_cons, List.not_mem_nil, or_false] at hf
    rcases hf with rfl | rfl | rfl | rfl | rfl | rfl
    · exact noB0
    · exact noB1
    · exact noB2
    · exact noB3
    · exact noB4
    · exact noB5), tycB, tyg, tyt, tymB⟩
  have TK : OwnC K mg CK "Locking" ["locks", "trails", "doubts"] := ⟨⟨pgK, hdK, poK, saK⟩, PySem.W.mg_of X G a_Locking, (fun f hf => by
    simp only [List.mem_cons, List.not_mem_nil, or_false] at hf
    rcases hf with rfl | rfl | rfl
    · exact noK0
    · exact noK1
    · exact noK2), tycK, tyg, tyt, tymK⟩
  have TN : OwnC K mg CN "NoLocking" ["doubts"] := ⟨⟨pgN, hdN, poN, saN⟩, PySem.W.mg_of X G a_NoLocking, (fun f hf => by
    simp only [List.mem_cons, List.not_mem_nil, or_false] at hf
    rcases hf with rfl
    · exact noN0), tycN, tyg, tyt, tymN⟩
  refine ⟨PySem.W.fnOf "law" "law" (defArgs s_law) (defBody s_law) (defScope s_law) .none kV_law dc_law pm_law an_law cd_law ct_law, [(cSB, tPT)], spLaw K tPT, (fun p hp => by rw [List.mem_singleton.mp hp]; exact hTab), (fun p hp => by rw [List.mem_singleton.mp hp]; exact nTab), (fun p hp => by rw [List.mem_singleton.mp hp]; exact PySem.W.codeHd_of_K X cTab), fun s v => .of_eq rfl, fun H a ns hl _ hH hS => ⟨a, ns, rfl, hS, hl, tabs_new (hH _ (List.mem_singleton.mpr rfl)), fun _ => rfl⟩, fun base _ _ hTB => ?_⟩
  have TBL : LamX.TabB base mg cSB tPT := hTB _ (List.mem_singleton.mpr rfl)
  have S : Cst mg := ⟨⟨tk0, PySem.W.mg_of X G v_LETTERS⟩, ⟨tk1, PySem.W.mg_of X G v_LONGEST⟩⟩
  have Li : Lim mg := ⟨⟨tk2, PySem.W.mg_of X G v_FEWEST_ROOMS⟩, ⟨tk3, PySem.W.mg_of X G v_MOST_ROOMS⟩, ⟨tk4, PySem.W.mg_of X G v_MOST_KEYS⟩, ⟨tk5, PySem.W.mg_of X G v_MOST_DOORS⟩, ⟨tk6, PySem.W.mg_of X G v_MOST_PEOPLE⟩⟩
  have oN : FnOk l.prog w K mg base CX0 1 f_is_name _ ["value"] spName := ok_name F_is_name B S
  have GN : Fn l.prog w K mg base 1 "is_name" ["value"] spName := ⟨⟨_, _, n_is_name, k_is_name, b_is_name, oN⟩⟩
  have GA : Fn l.prog w K mg base 2 "are_names" ["values"] (spAre K) := ⟨⟨_, _, n_are_names, k_are_names, b_are_names, ok_are F_are_names B oN b_is_name n_is_name k_is_name⟩⟩
  have GI : Fn l.prog w K mg base 1 "all_in" ["names", "known"] (spAllIn K) := ⟨⟨_, _, n_all_in, k_all_in, b_all_in, ok_allIn F_all_in B⟩⟩
  have GIL : Fn l.prog w K mg base 1 "all_in" ["names", "known"] (spAllInL K) := ⟨⟨_, _, n_all_in, k_all_in, b_all_in, ok_allInL F_all_in B⟩⟩
  have GID : Fn l.prog w K mg base 1 "all_in" ["names", "known"] (spAllInD K) := ⟨⟨_, _, n_all_in, k_all_in, b_all_in, ok_allInD F_all_in B⟩⟩
  have GCo : Fn l.prog w K mg base 1 "is_cost" ["value"] spCost := ⟨⟨_, _, n_is_cost, k_is_cost, b_is_cost, ok_cost F_is_cost B ⟨tk7, PySem.W.mg_of X G v_HIGHEST_COST⟩⟩⟩
  have oC : FnOk l.prog w K mg base CX0 1 f_check_other _ ["other"] (spCheck CL) := ok_check F_check_other B TL
  have ML : Mk K CL fL___init__ := ⟨mkL, aL___init__, iL___init__, kcL⟩
  have rL : FnR l.prog w K mg base CX0 2 fL___init__ (spNew CL) := ok_init FL___init__ B TL oN b_is_name n_is_name k_is_name
  have HL : Has l.prog w K mg base CL := ⟨⟨_, _, ⟨aL___contains__, iL___contains__⟩, bL___contains__, ok_has FL___contains__ TL⟩⟩
  have PN : Pr l.prog w K mg base 1 CL "names" (spNames CL) := ⟨⟨_, _, _, oL_names, bL_names, ok_names FL_names B TL⟩⟩
  have DT : DoorT l.prog w K mg base CD := ⟨TD, ⟨⟨_, _, _, oD_start, bD_start, ok_getter FD_start ⟨rfl, rfl, rfl, by decide +kernel, rfl, by decide +kernel, by decide +kernel⟩ ⟨_, _, _, rfl⟩ TD.cl noD0⟩⟩,
    ⟨⟨_, _, _, oD_end, bD_end, ok_getter FD_end ⟨rfl, rfl, rfl, by decide +kernel, rfl, by decide +kernel, by decide +kernel⟩ ⟨_, _, _, rfl⟩ TD.cl noD1⟩⟩,
    ⟨⟨_, _, _, oD_key, bD_key, ok_getter FD_key ⟨rfl, rfl, rfl, by decide +kernel, rfl, by decide +kernel, by decide +kernel⟩ ⟨_, _, _, rfl⟩ TD.cl noD2⟩⟩⟩
  have PC : Pr l.prog w K mg base 1 CD "cost" (getSp CD "kept_cost") := ⟨⟨_, _, _, oD_cost, bD_cost, ok_getter FD_cost ⟨rfl, rfl, rfl, by decide +kernel, rfl, by decide +kernel, by decide +kernel⟩ ⟨_, _, _, rfl⟩ TD.cl noD4⟩⟩
  have PT : PersT l.prog w K mg base CP := ⟨TP, ⟨⟨_, _, _, oP_start, bP_start, ok_getter FP_start ⟨rfl, rfl, rfl, by decide +kernel, rfl, by decide +kernel, by decide +kernel⟩ ⟨_, _, _, rfl⟩ TP.cl noP0⟩⟩,
    ⟨⟨_, _, _, oP_carried, bP_carried, ok_getter FP_carried ⟨rfl, rfl, rfl, by decide +kernel, rfl, by decide +kernel, by decide +kernel⟩ ⟨_, _, _, rfl⟩ TP.cl noP1⟩⟩,
    ⟨⟨_, _, _, oP_needs, bP_needs, ok_getter FP_needs ⟨rfl, rfl, rfl, by decide +kernel, rfl, by decide +kernel, by decide +kernel⟩ ⟨_, _, _, rfl⟩ TP.cl noP2⟩⟩,
    ⟨⟨_, _, _, oP_shuns, bP_shuns, ok_getter FP_shuns ⟨rfl, rfl, rfl, by decide +kernel, rfl, by decide +kernel, by decide +kernel⟩ ⟨_, _, _, rfl⟩ TP.cl noP3⟩⟩⟩
  have GT : Fn l.prog w K mg base 2 "is_table" ["value", "fewest", "most"] spTable := ⟨⟨_, _, n_is_table, k_is_table, b_is_table, ok_table F_is_table B GN⟩⟩
  have GRo : Fn l.prog w K mg base 3 "are_rooms" ["rooms"] (spRooms K) := ⟨⟨_, _, n_are_rooms, k_are_rooms, b_are_rooms, ok_rooms F_are_rooms B Li GA⟩⟩
  have GIK : Fn l.prog w K mg base 2 "is_key" ["name", "room", "rooms"] (spIsKey K) := ⟨⟨_, _, n_is_key, k_is_key, b_is_key, ok_isKey F_is_key GN⟩⟩
  have GKs : Fn l.prog w K mg base 3 "are_keys" ["keys", "rooms"] (spKeys K) := ⟨⟨_, _, n_are_keys, k_are_keys, b_are_keys, ok_keys F_are_keys B Li GT GIK⟩⟩
  have GFD : Fn l.prog w K mg base 3 "fits_door" ["door", "rooms", "keys"] (spFitsD K CD) := ⟨⟨_, _, n_fits_door, k_fits_door, b_fits_door, ok_fitsD F_fits_door B DT GI⟩⟩
  have GDs : Fn l.prog w K mg base 4 "are_doors" ["doors", "rooms", "keys"] (spDoors K CD) := ⟨⟨_, _, n_are_doors, k_are_doors, b_are_doors, ok_doors F_are_doors B Li GT GFD⟩⟩
  have GFP : Fn l.prog w K mg base 3 "fits_person" ["person", "rooms", "keys"] (spFitsP K CP) := ⟨⟨_, _, n_fits_person, k_fits_person, b_fits_person, ok_fitsP F_fits_person B PT GI GID⟩⟩
  have GPs : Fn l.prog w K mg base 4 "are_people" ["people", "rooms", "keys"] (spPeople K CP) := ⟨⟨_, _, n_are_people, k_are_people, b_are_people, ok_people F_are_people B Li GT GFP⟩⟩
  have PK : Pr l.prog w K mg base 1 CB "key_rooms" (spKeyRooms K CD CP CB) := ⟨⟨_, _, _, oB_key_rooms, bB_key_rooms, ok_keyRooms FB_key_rooms B TB⟩⟩
  have PD : Pr l.prog w K mg base 1 CB "doors" (spBDoors K CD CP CB) := ⟨⟨_, _, _, oB_doors, bB_doors, ok_bDoors FB_doors B TB⟩⟩
  have PP : Pr l.prog w K mg base 1 CB "people" (spBPeople K CD CP CB) := ⟨⟨_, _, _, oB_people, bB_people, ok_bPeople FB_people B TB⟩⟩
  have MtD : Mt l.prog w K mg base 2 CB "door" ["self", "name"] (spDoorOf K CD CP CB) := ⟨⟨_, _, mB_door, bB_door, ok_doorOf FB_door TB GN⟩⟩
  have MtP : Mt l.prog w K mg base 2 CB "person" ["self", "name"] (spPersOf K CD CP CB) := ⟨⟨_, _, mB_person, bB_person, ok_persOf FB_person TB GN⟩⟩
  have GCh : Fn l.prog w K mg base 3 "check_locks" ["building", "locks"] (spChk K CD CP CB CL) := ⟨⟨_, _, n_check_locks, k_check_locks, b_check_locks, ok_chk F_check_locks B TL TB GIL PN PD⟩⟩
  have GH : Fn l.prog w K mg base 3 "keys_held" ["building", "person", "rooms"] (spHeld K CD CP CB) := ⟨⟨_, _, n_keys_held, k_keys_held, b_keys_held, ok_held F_keys_held B TB PT PK⟩⟩
  have GSu : Fn l.prog w K mg base 3 "suits" ["person", "rooms"] (spSuits K CP) := ⟨⟨_, _, n_suits, k_suits, b_suits, ok_suits F_suits B PT GI⟩⟩
  have GW : Gen l.prog w K mg base CD := ⟨⟨_, _, mD_ways, bD_ways, ok_ways FD_ways TD⟩⟩
  have GTh : Fn l.prog w K mg base 4 "lets_through" ["building", "person", "locks", "rooms", "name"] (spThru K CD CP CB CL) := ⟨⟨_, _, n_lets_through, k_lets_through, b_lets_through, ok_thru F_lets_through TB DT GH MtD HL⟩⟩
  have GAd : Fn l.prog w K mg base 5 "room_added" ["building", "person", "locks", "rooms", "name"] (spAdded K CD CP CB CL) := ⟨⟨_, _, n_room_added, k_room_added, b_room_added, ok_added F_room_added TB DT GTh MtD GW⟩⟩
  have GBe : Fn l.prog w K mg base 6 "rooms_beyond" ["building", "person", "locks", "rooms"] (spBeyond K CD CP CB CL) := ⟨⟨_, _, n_rooms_beyond, k_rooms_beyond, b_rooms_beyond, ok_beyond F_rooms_beyond TB GAd PD⟩⟩
  have MtR : Mt l.prog w K mg base 7 CB "reach" ["self", "name", "locks"] (spReach K CD CP CB CL) := ⟨⟨_, _, mB_reach, bB_reach, ok_reach FB_reach TB PT MtP GCh GBe⟩⟩
  have MtC : Mt l.prog w K mg base 4 CB "price" ["self", "locks"] (spPrice K CD CP CB CL) := ⟨⟨_, _, mB_price, bB_price, ok_price FB_price B TB TL TD PC PN GCh⟩⟩
  have MtI : Mt l.prog w K mg base 8 CB "is_right" ["self", "locks"] (spRight K CD CP CB CL) := ⟨⟨_, _, mB_is_right, bB_is_right, ok_right FB_is_right B TB GCh GSu MtR⟩⟩
  have GCB : Fn l.prog w K mg base 1 "check_building" ["building"] (spChkB CB) := ⟨⟨_, _, n_check_building, k_check_building, b_check_building, ok_chkB F_check_building B TB⟩⟩
  have GDO : Fn l.prog w K mg base 3 "are_doors_of" ["building", "names"] (spDoorsOf K CD CP CB) := ⟨⟨_, _, n_are_doors_of, k_are_doors_of, b_are_doors_of, ok_doorsOf F_are_doors_of B TB GN PD⟩⟩
  have GCT : Fn l.prog w K mg base 4 "check_trail" ["building", "trail"] (spChkT K CD CP CB) := ⟨⟨_, _, n_check_trail, k_check_trail, b_check_trail, ok_chkT F_check_trail GDO⟩⟩
  have GRO : Fn l.prog w K mg base 6 "rooms_of" ["building", "person", "locks", "trail"] (spRoomsOf K CD CP CB CL) := ⟨⟨_, _, n_rooms_of, k_rooms_of, b_rooms_of, ok_roomsOf F_rooms_of PT GAd⟩⟩
  have GST : Fn l.prog w K mg base 6 "first_step" ["building", "person", "locks", "rooms"] (spStep K CD CP CB CL) := ⟨⟨_, _, n_first_step, k_first_step, b_first_step, ok_step F_first_step TB GAd PD⟩⟩
  have GTO : Fn l.prog w K mg base 7 "trail_of" ["building", "name", "locks"] (spTrailOf K CD CP CB CL) := ⟨⟨_, _, n_trail_of, k_trail_of, b_trail_of, ok_trailOf F_trail_of TB PT GCB MtP GCh GST⟩⟩
  have GIT : Fn l.prog w K mg base 7 "is_trail" ["building", "name", "locks", "trail"] (spIsTrail K CD CP CB CL) := ⟨⟨_, _, n_is_trail, k_is_trail, b_is_trail, ok_isTrail F_is_trail TB GCB MtP GCh GCT GRO⟩⟩
  have GIC : Fn l.prog w K mg base 8 "is_complete" ["building", "name", "locks", "trail"] (spIsComp K CD CP CB CL) := ⟨⟨_, _, n_is_complete, k_is_complete, b_is_complete, ok_isComp F_is_complete TB GIT MtP GRO GBe⟩⟩
  have WS : Words mg := ⟨⟨tk8, PySem.W.mg_of X G v_THROUGH⟩, ⟨tk9, PySem.W.mg_of X G v_SHUT⟩⟩
  have MLs : MkLs l.prog w K mg base CL := ⟨⟨_, ML, rL⟩⟩
  have GFo : Fn l.prog w K mg base 4 "has_doubt_form" ["building", "doubt"] (spForm K CD CP CB) := ⟨⟨_, _, n_has_doubt_form, k_has_doubt_form, b_has_doubt_form, ok_form F_has_doubt_form B WS TB GN PP GDO⟩⟩
  have GCD : Fn l.prog w K mg base 5 "check_doubt" ["building", "doubt"] (spChkD K CD CP CB) := ⟨⟨_, _, n_check_doubt, k_check_doubt, b_check_doubt, ok_chkD F_check_doubt GFo⟩⟩
  have GLe : Fn l.prog w K mg base 7 "leads_to_shunned" ["building", "person", "trail"] (spLeads K CD CP CB) := ⟨⟨_, _, n_leads_to_shunned, k_leads_to_shunned, b_leads_to_shunned, ok_leads F_leads_to_shunned B TL PT MLs GRO⟩⟩
  have GSh : Fn l.prog w K mg base 8 "shuts_out" ["building", "name", "doors"] (spShuts K CD CP CB) := ⟨⟨_, _, n_shuts_out, k_shuts_out, b_shuts_out, ok_shuts F_shuts_out B TL TB PT MLs PD GI MtP MtR⟩⟩
  have GAK : Fn l.prog w K mg base 2 "all_in" ["names", "known"] (spAllInK K CL) := ⟨⟨_, _, n_all_in, k_all_in, b_all_in, ok_allInK F_all_in B HL⟩⟩
  have GSk : Fn l.prog w K mg base 3 "strikes" ["doubt", "locks"] (spStrikes K CL) := ⟨⟨_, _, n_strikes, k_strikes, b_strikes, ok_strikes F_strikes B WS HL GAK⟩⟩
  have GID' : Fn l.prog w K mg base 9 "is_doubt" ["building", "doubt"] (spIsDbt K CD CP CB) := ⟨⟨_, _, n_is_doubt, k_is_doubt, b_is_doubt, ok_isDbt F_is_doubt WS TB GCB GCD MtP GLe GSh⟩⟩
  have GRu : Fn l.prog w K mg base 10 "rules_out" ["building", "doubt", "locks"] (spRules K CD CP CB CL) := ⟨⟨_, _, n_rules_out, k_rules_out, b_rules_out, ok_rules F_rules_out TB GCB GCD GCh GID' GSk⟩⟩
  have mEn' : mg "enumerate" = none := PySem.W.mg_none_of X G zx_enumerate
  have MLt : MkLt l.prog w K mg base CL := ⟨⟨_, ML, rL⟩⟩
  have GLA : Fn l.prog w K mg base 4 "locks_at" ["doors", "indices"] (spLksAt K CL) := ⟨⟨_, _, n_locks_at, k_locks_at, b_locks_at, ok_lksAt F_locks_at TL MLt⟩⟩
  have GBS : Fn l.prog w K mg base 7 "sets_by_price" ["building"] (spBySets K CD CP CB CL tPT) := ⟨⟨_, _, n_sets_by_price, k_sets_by_price, b_sets_by_price, ok_bySets F_sets_by_price rfl TBL B TB PD MtC GLA⟩⟩
  have GIn : Fn l.prog w K mg base 8 "trail_into" ["building", "name", "locks", "wanted"] (spInto K CD CP CB CL) := ⟨⟨_, _, n_trail_into, k_trail_into, b_trail_into, ok_into F_trail_into TB mEn' MtP GTO GRO⟩⟩
  have GAb : Fn l.prog w K mg base 9 "doubt_about" ["building", "locks"] (spAbout K CD CP CB CL) := ⟨⟨_, _, n_doubt_about, k_doubt_about, b_doubt_about, ok_about F_doubt_about B WS TB PT HL PD PP MtP MtR GI GIn⟩⟩
  have GSt : Fn l.prog w K mg base 4 "is_struck" ["doubts", "locks"] (spStruck K CL) := ⟨⟨_, _, n_is_struck, k_is_struck, b_is_struck, ok_struck F_is_struck B GSk⟩⟩
  have GAD : Fn l.prog w K mg base 10 "are_doubts" ["building", "doubts"] (spAreD K CD CP CB) := ⟨⟨_, _, n_are_doubts, k_are_doubts, b_are_doubts, ok_areD F_are_doubts B GID'⟩⟩
  have OKk : MkO l.prog w K mg base CK 1 ["self", "locks", "trails", "doubts"] (spKIn K CK) := ⟨⟨_, _, ⟨mkK, aK___init__, iK___init__, kcK⟩, bK___init__, ok_kIn FK___init__ B TK⟩⟩
  have ONn : MkO l.prog w K mg base CN 1 ["self", "doubts"] (spNIn K CN) := ⟨⟨_, _, ⟨mkN, aN___init__, iN___init__, kcN⟩, bN___init__, ok_nIn FN___init__ B TN⟩⟩
  have GChp : Fn l.prog w K mg base 10 "cheapest" ["building"] (spCheap K CD CP CB CL CK CN tPT) := ⟨⟨_, _, n_cheapest, k_cheapest, b_cheapest, ok_cheap F_cheapest TB TK TN PP GCB GBS GSt GAb GTO OKk ONn⟩⟩
  have MtKS : Mt l.prog w K mg base 11 CK "shows" ["self", "building"] (spKShows K CD CP CB CL CK tPT) := ⟨⟨_, _, mK_shows, bK_shows, ok_kShows FK_shows B TB TK PP GCB GBS GSt GAD GIC MtI MtC⟩⟩
  have MtNS : Mt l.prog w K mg base 11 CN "shows" ["self", "building"] (spNShows K CD CP CB CN tPT) := ⟨⟨_, _, mN_shows, bN_shows, ok_nShows FN_shows B TN GCB GBS GSt GAD⟩⟩
  have EqL : EqM l.prog w K mg base CL (spEqL CL) := ⟨⟨_, _, aL___eq__, iL___eq__, bL___eq__, ok_eq FL___eq__ B TL⟩⟩
  have kwDv : KwdV K (.ref kwaD) doorKw := .inr ⟨kwaD, rfl, fun q hq => by
    simp only [List.mem_cons, List.not_mem_nil, or_false] at hq
    rcases hq with rfl | rfl | rfl
    · exact ⟨_, kwD0, rfl⟩
    · exact ⟨_, kwD1, rfl⟩
    · exact ⟨_, kwD2, _, rfl⟩⟩
  have kwPv : KwdV K (.ref kwaP) (persKw (eT0, eT1, eT2)) := .inr ⟨kwaP, rfl, fun q hq => by
    simp only [List.mem_cons, List.not_mem_nil, or_false] at hq
    rcases hq with rfl | rfl | rfl
    · exact ⟨_, kwP0, rfl⟩
    · exact ⟨_, kwP1, rfl⟩
    · exact ⟨_, kwP2, rfl⟩⟩
  have FDk : DoorFn K fD___init__ _ := ⟨⟨_, _, .none, .ref kwaD, _, _, _, _, _, _, rfl, lD___init__, cD___init__, .inl ⟨rfl, rfl⟩, kwDv⟩, kD___init__⟩
  have FPk : PersFn K (eT0, eT1, eT2) fP___init__ _ := ⟨⟨_, _, .none, .ref kwaP, _, _, _, _, _, _, rfl, lP___init__, cP___init__, .inl ⟨rfl, rfl⟩, kwPv⟩, kP___init__⟩
  have eEt : EmT K (eT0, eT1, eT2) := fun H => ⟨.inr ⟨_, #[], nE0, leT0, rfl, rfl, Nat.zero_le _, .nil⟩, .inr ⟨_, #[], nE1, leT1, rfl, rfl, Nat.zero_le _, .nil⟩, .inr ⟨_, #[], nE2, leT2, rfl, rfl, Nat.zero_le _, .nil⟩⟩
  have MB35 : ∃ f fd, Mk K CB f ∧ mg "Building" = some (.ref CB) ∧ L2.Binds K fd ["self", "rooms", "keys", "doors", "people"] [] ∧ FnOk l.prog w K mg base CX0 5 f fd ["self", "rooms", "keys", "doors", "people"] (spBld K CD CP CB) := ⟨_, _, ⟨mkB, aB___init__, iB___init__, kcB⟩, TB.mgC, bB___init__, ok_bld FB___init__ B TB GRo GKs GDs GPs⟩
  have or35 : ∃ f fd, OwnM K CL f (PySem.dunder Operator.BitOr.info.2) ∧ FnOk l.prog w K mg base CX0 4 f fd ["self", "other"] (spBin CL gOr) ∧ L2.Binds K fd ["self", "other"] [] := ⟨_, _, ⟨aL___or__, iL___or__⟩, ok_or FL___or__ TL oC b_check_other n_check_other k_check_other ML rL, bL___or__⟩
  have C35 : P35 l.prog w K mg base CD CP CB CL CK CN tPT (eT0, eT1, eT2) := ⟨B, TB, TL, TK, TN, ⟨_, _, ⟨mkD, aD___init__, iD___init__, kcD⟩, TD.mgC, FDk, ok_door FD___init__ B TD GA GN GCo⟩, ⟨_, _, ⟨mkP, aP___init__, iP___init__, kcP⟩, TP.mgC, FPk, ok_person FP___init__ B TP GA GN⟩, eEt, MB35, ⟨_, ML, rL⟩, or35, EqL, OKk, ONn, MtR, MtI, MtC, MtKS, MtNS, GChp, GIT, GIC, GID', GRu, GTO⟩
  have GH35 : Fn l.prog w K mg base 7 "_law_house" ["_law_worth"] (spHouse K CD CP CB tPT) := ⟨⟨_, _, n__law_house, k__law_house, b__law_house, ok_house F__law_house C35⟩⟩
  have GR35 : Fn l.prog w K mg base 9 "_law_reaches_right" ["_law_worth"] (spWorth tPT) := ⟨⟨_, _, n__law_reaches_right, k__law_reaches_right, b__law_reaches_right, ok_reaches F__law_reaches_right C35 GH35⟩⟩
  have GC35 : Fn l.prog w K mg base 12 "_law_cheapest_right" ["_law_worth"] (spWorth tPT) := ⟨⟨_, _, n__law_cheapest_right, k__law_cheapest_right, b__law_cheapest_right, ok_ch F__law_cheapest_right C35 GH35⟩⟩
  have GT35 : Fn l.prog w K mg base 9 "_law_trails_right" [] (spTrue tPT) := ⟨⟨_, _, n__law_trails_right, k__law_trails_right, b__law_trails_right, ok_trails F__law_trails_right C35 GH35⟩⟩
  have GD35 : Fn l.prog w K mg base 11 "_law_doubts_right" [] (spTrue tPT) := ⟨⟨_, _, n__law_doubts_right, k__law_doubts_right, b__law_doubts_right, ok_doubts F__law_doubts_right C35 GH35⟩⟩
  have GA35 : Fn l.prog w K mg base 12 "_law_answers_right" [] (spTrue tPT) := ⟨⟨_, _, n__law_answers_right, k__law_answers_right, b__law_answers_right, ok_ans F__law_answers_right C35 GH35⟩⟩
  exact ok_law F_law (PySem.W.mg_none_of X G zx_abs) (PySem.W.mg_of X G g_LockError) GR35 GC35 GT35 GD35 GA35
end Lw
set_option Elab.async false
set_option linter.all false
open PySem PySem.W PyProof.Rows
local macro_rules | `(tactic| o_head $H:term) => `(tactic| refine Lw.head_km (r := Lw.hdR) (q := Lw.hdQ) (M := 9000) (loose := Lw.hdN) (kwd := []) $H rfl (by kernel_rfl) (fun s => by kernel_rfl) (fun w => Lw.hdRun0 w) (by rfl) (by rfl) (by rfl) (by rfl) (by first | assumption | decide +kernel) (by decide +kernel) ⟨rfl, rfl, rfl, rfl, rfl, by decide +kernel⟩ ?_ ?_)
set_option maxRecDepth 100000 in
set_option maxHeartbeats 0 in
theorem PySem.Challenge.cw_lockdoors_k35_by_hand_holds : PySem.Challenge.rw_lockdoors_k35_by_hand.Holds := by
  w_on; o_law; km_head
  focus (w_witness2)
  k_fill
  refine LamX.walk_ofTs (l := PySem.Challenge.rw_lockdoors_k35_by_hand) (n := 63) (k := 13) (x := "_law_script") (CX := fun _ => L2.CX0) rfl (by decide) rfl ⟨rfl, by decide, by decide⟩ (fun w h Y => PySem.W.km_in_of Y) ?F (fun _ _ _ _ _ h => h)
  case F =>
    intro w mg fa h Y KX G hmg
    have hT1 := PySem.W.km_tabs_of Y _ (List.Mem.head _)
    refine' Lw.all_mk KX G hmg hT1 ?a_is_name ?l_is_name ?c_is_name ?k_is_name ?a_are_names ?l_are_names ?c_are_names ?k_are_names ?a_all_in ?l_all_in ?c_all_in ?k_all_in ?a_check_other ?l_check_other ?c_check_other ?k_check_other ?a_is_cost ?l_is_cost ?c_is_cost ?k_is_cost ?a_is_table ?l_is_table ?c_is_table ?k_is_table ?a_are_rooms ?l_are_rooms ?c_are_rooms ?k_are_rooms ?a_is_key ?l_is_key ?c_is_key ?k_is_key ?a_are_keys ?l_are_keys ?c_are_keys ?k_are_keys ?a_fits_door ?l_fits_door ?c_fits_door ?k_fits_door ?a_fits_person ?l_fits_person ?c_fits_person ?k_fits_person ?a_are_doors ?l_are_doors ?c_are_doors ?k_are_doors ?a_are_people ?l_are_people ?c_are_people ?k_are_people ?a_check_building ?l_check_building ?c_check_building ?k_check_building ?a_check_locks ?l_check_locks ?c_check_locks ?k_check_locks ?a_are_doors_of ?l_are_doors_of ?c_are_doors_of ?k_are_doors_of ?a_check_trail ?l_check_trail ?c_check_trail ?k_check_trail ?a_keys_held ?l_keys_held ?c_keys_held ?k_keys_held ?a_lets_through ?l_lets_through ?c_lets_through ?k_lets_through ?a_room_added ?l_room_added ?c_room_added ?k_room_added ?a_rooms_beyond ?l_rooms_beyond ?c_rooms_beyond ?k_rooms_beyond ?a_suits ?l_suits ?c_suits ?k_suits ?a_rooms_of ?l_rooms_of ?c_rooms_of ?k_rooms_of ?a_is_trail ?l_is_trail ?c_is_trail ?k_is_trail ?a_is_complete ?l_is_complete ?c_is_complete ?k_is_complete ?a_first_step ?l_first_step ?c_first_step ?k_first_step ?a_trail_of ?l_trail_of ?c_trail_of ?k_trail_of ?a_trail_into ?l_trail_into ?c_trail_into ?k_trail_into ?a_has_doubt_form ?l_has_doubt_form ?c_has_doubt_form ?k_has_doubt_form ?a_check_doubt ?l_check_doubt ?c_check_doubt ?k_check_doubt ?a_leads_to_shunned ?l_leads_to_shunned ?c_leads_to_shunned ?k_leads_to_shunned ?a_shuts_out ?l_shuts_out ?c_shuts_out ?k_shuts_out ?a_is_doubt ?l_is_doubt ?c_is_doubt ?k_is_doubt ?a_strikes ?l_strikes ?c_strikes ?k_strikes ?a_rules_out ?l_rules_out ?c_rules_out ?k_rules_out ?a_is_struck ?l_is_struck ?c_is_struck ?k_is_struck ?a_locks_at ?l_locks_at ?c_locks_at ?k_locks_at ?a_sets_by_price ?l_sets_by_price ?c_sets_by_price ?k_sets_by_price ?a_doubt_about ?l_doubt_about ?c_doubt_about ?k_doubt_about ?a_cheapest ?l_cheapest ?c_cheapest ?k_cheapest ?a_are_doubts ?l_are_doubts ?c_are_doubts ?k_are_doubts ?a__law_house ?l__law_house ?c__law_house ?k__law_house ?a__law_reaches_right ?l__law_reaches_right ?c__law_reaches_right ?k__law_reaches_right ?a__law_trails_right ?l__law_trails_right ?c__law_trails_right ?k__law_trails_right ?a__law_doubts_right ?l__law_doubts_right ?c__law_doubts_right ?k__law_doubts_right ?a__law_cheapest_right ?l__law_cheapest_right ?c__law_cheapest_right ?k__law_cheapest_right ?a__law_answers_right ?l__law_answers_right ?c__law_answers_right ?k__law_answers_right ?a_law ?l_law ?c_law ?k_law ?a_Locks ?pgL ?hdL ?poL ?saL ?mkL ?kcL ?tycL ?tymL ?sfL ?nbL ?noL0 ?a_Door ?pgD ?hdD ?poD ?saD ?mkD ?kcD ?tycD ?tymD ?noD0 ?noD1 ?noD2 ?noD3 ?noD4 ?a_Person ?pgP ?hdP ?poP ?saP ?mkP ?kcP ?tycP ?tymP ?noP0 ?noP1 ?noP2 ?noP3 ?a_Building ?pgB ?hdB ?poB ?saB ?mkB ?kcB ?tycB ?tymB ?noB0 ?noB1 ?noB2 ?noB3 ?noB4 ?noB5 ?a_Locking ?pgK ?hdK ?poK ?saK ?mkK ?kcK ?tycK ?tymK ?noK0 ?noK1 ?noK2 ?a_NoLocking ?pgN ?hdN ?poN ?saN ?mkN ?kcN ?tycN ?tymN ?noN0 ?aL___init__ ?iL___init__ ?lL___init__ ?cL___init__ ?kL___init__ ?aL___eq__ ?iL___eq__ ?lL___eq__ ?cL___eq__ ?kL___eq__ ?aL___or__ ?iL___or__ ?lL___or__ ?cL___or__ ?kL___or__ ?aL___contains__ ?iL___contains__ ?lL___contains__ ?cL___contains__ ?kL___contains__ ?aL_names ?gL_names ?tL_names ?rL_names ?lL_names ?cL_names ?kL_names ?aD___init__ ?iD___init__ ?lD___init__ ?cD___init__ ?kD___init__ ?aD_start ?gD_start ?tD_start ?rD_start ?lD_start ?cD_start ?kD_start ?aD_end ?gD_end ?tD_end ?rD_end ?lD_end ?cD_end ?kD_end ?aD_key ?gD_key ?tD_key ?rD_key ?lD_key ?cD_key ?kD_key ?aD_cost ?gD_cost ?tD_cost ?rD_cost ?lD_cost ?cD_cost ?kD_cost ?aD_ways ?iD_ways ?lD_ways ?cD_ways ?kD_ways ?aP___init__ ?iP___init__ ?lP___init__ ?cP___init__ ?kP___init__ ?aP_start ?gP_start ?tP_start ?rP_start ?lP_start ?cP_start ?kP_start ?aP_carried ?gP_carried ?tP_carried ?rP_carried ?lP_carried ?cP_carried ?kP_carried ?aP_needs ?gP_needs ?tP_needs ?rP_needs ?lP_needs ?cP_needs ?kP_needs ?aP_shuns ?gP_shuns ?tP_shuns ?rP_shuns ?lP_shuns ?cP_shuns ?kP_shuns ?aB___init__ ?iB___init__ ?lB___init__ ?cB___init__ ?kB___init__ ?aB_key_rooms ?gB_key_rooms ?tB_key_rooms ?rB_key_rooms ?lB_key_rooms ?cB_key_rooms ?kB_key_rooms ?aB_doors ?gB_doors ?tB_doors ?rB_doors ?lB_doors ?cB_doors ?kB_doors ?aB_people ?gB_people ?tB_people ?rB_people ?lB_people ?cB_people ?kB_people ?aB_door ?iB_door ?lB_door ?cB_door ?kB_door ?aB_person ?iB_person ?lB_person ?cB_person ?kB_person ?aB_reach ?iB_reach ?lB_reach ?cB_reach ?kB_reach ?aB_price ?iB_price ?lB_price ?cB_price ?kB_price ?aB_is_right ?iB_is_right ?lB_is_right ?cB_is_right ?kB_is_right ?aK___init__ ?iK___init__ ?lK___init__ ?cK___init__ ?kK___init__ ?aK_shows ?iK_shows ?lK_shows ?cK_shows ?kK_shows ?aN___init__ ?iN___init__ ?lN___init__ ?cN___init__ ?kN___init__ ?aN_shows ?iN_shows ?lN_shows ?cN_shows ?kN_shows ?tyg ?tyt ?nTab ?cTab ?kwD0 ?kwD1 ?kwD2 ?kwP0 ?kwP1 ?kwP2 ?leT0 ?leT1 ?leT2 ?g_LockError ?v_LETTERS ?v_LONGEST ?v_FEWEST_ROOMS ?v_MOST_ROOMS ?v_MOST_KEYS ?v_MOST_DOORS ?v_MOST_PEOPLE ?v_HIGHEST_COST ?v_THROUGH ?v_SHUT ?z0 ?z1 ?z2 ?z3 ?z4 ?z5 ?z6 ?z7 ?z8 ?z9 ?z10 ?z11 ?z12 ?z13 ?z14 ?z15 ?zx_abs ?zx_enumerate
    (case a_is_name => k_is)
    (case l_is_name => k_is)
    (case c_is_name => k_is)
    (case k_is_name => k_is)
    (case a_are_names => k_is)
    (case l_are_names => k_is)
    (case c_are_names => k_is)
    (case k_are_names => k_is)
    (case a_all_in => k_is)
    (case l_all_in => k_is)
    (case c_all_in => k_is)
    (case k_all_in => k_is)
    (case a_check_other => k_is)
    (case l_check_other => k_is)
    (case c_check_other => k_is)
    (case k_check_other => k_is)
    (case a_is_cost => k_is)
    (case l_is_cost => k_is)
    (case c_is_cost => k_is)
    (case k_is_cost => k_is)
    (case a_is_table => k_is)
    (case l_is_table => k_is)
    (case c_is_table => k_is)
    (case k_is_table => k_is)
    (case a_are_rooms => k_is)
    (case l_are_rooms => k_is)
    (case c_are_rooms => k_is)
    (case k_are_rooms => k_is)
    (case a_is_key => k_is)
    (case l_is_key => k_is)
    (case c_is_key => k_is)
    (case k_is_key => k_is)
    (case a_are_keys => k_is)
    (case l_are_keys => k_is)
    (case c_are_keys => k_is)
    (case k_are_keys => k_is)
    (case a_fits_door => k_is)
    (case l_fits_door => k_is)
    (case c_fits_door => k_is)
    (case k_fits_door => k_is)
    (case a_fits_person => k_is)
    (case l_fits_person => k_is)
    (case c_fits_person => k_is)
    (case k_fits_person => k_is)
    (case a_are_doors => k_is)
    (case l_are_doors => k_is)
    (case c_are_doors => k_is)
    (case k_are_doors => k_is)
    (case a_are_people => k_is)
    (case l_are_people => k_is)
    (case c_are_people => k_is)
    (case k_are_people => k_is)
    (case a_check_building => k_is)
    (case l_check_building => k_is)
    (case c_check_building => k_is)
    (case k_check_building => k_is)
    (case a_check_locks => k_is)
    (case l_check_locks => k_is)
    (case c_check_locks => k_is)
    (case k_check_locks => k_is)
    (case a_are_doors_of => k_is)
    (case l_are_doors_of => k_is)
    (case c_are_doors_of => k_is)
    (case k_are_doors_of => k_is)
    (case a_check_trail => k_is)
    (case l_check_trail => k_is)
    (case c_check_trail => k_is)
    (case k_check_trail => k_is)
    (case a_keys_held => k_is)
    (case l_keys_held => k_is)
    (case c_keys_held => k_is)
    (case k_keys_held => k_is)
    (case a_lets_through => k_is)
    (case l_lets_through => k_is)
    (case c_lets_through => k_is)
    (case k_lets_through => k_is)
    (case a_room_added => k_is)
    (case l_room_added => k_is)
    (case c_room_added => k_is)
    (case k_room_added => k_is)
    (case a_rooms_beyond => k_is)
    (case l_rooms_beyond => k_is)
    (case c_rooms_beyond => k_is)
    (case k_rooms_beyond => k_is)
    (case a_suits => k_is)
    (case l_suits => k_is)
    (case c_suits => k_is)
    (case k_suits => k_is)
    (case a_rooms_of => k_is)
    (case l_rooms_of => k_is)
    (case c_rooms_of => k_is)
    (case k_rooms_of => k_is)
    (case a_is_trail => k_is)
    (case l_is_trail => k_is)
    (case c_is_trail => k_is)
    (case k_is_trail => k_is)
    (case a_is_complete => k_is)
    (case l_is_complete => k_is)
    (case c_is_complete => k_is)
    (case k_is_complete => k_is)
    (case a_first_step => k_is)
    (case l_first_step => k_is)
    (case c_first_step => k_is)
    (case k_first_step => k_is)
    (case a_trail_of => k_is)
    (case l_trail_of => k_is)
    (case c_trail_of => k_is)
    (case k_trail_of => k_is)
    (case a_trail_into => k_is)
    (case l_trail_into => k_is)
    (case c_trail_into => k_is)
    (case k_trail_into => k_is)
    (case a_has_doubt_form => k_is)
    (case l_has_doubt_form => k_is)
    (case c_has_doubt_form => k_is)
    (case k_has_doubt_form => k_is)
    (case a_check_doubt => k_is)
    (case l_check_doubt => k_is)
    (case c_check_doubt => k_is)
    (case k_check_doubt => k_is)
    (case a_leads_to_shunned => k_is)
    (case l_leads_to_shunned => k_is)
    (case c_leads_to_shunned => k_is)
    (case k_leads_to_shunned => k_is)
    (case a_shuts_out => k_is)
    (case l_shuts_out => k_is)
    (case c_shuts_out => k_is)
    (case k_shuts_out => k_is)
    (case a_is_doubt => k_is)
    (case l_is_doubt => k_is)
    (case c_is_doubt => k_is)
    (case k_is_doubt => k_is)
    (case a_strikes => k_is)
    (case l_strikes => k_is)
    (case c_strikes => k_is)
    (case k_strikes => k_is)
    (case a_rules_out => k_is)
    (case l_rules_out => k_is)
    (case c_rules_out => k_is)
    (case k_rules_out => k_is)
    (case a_is_struck => k_is)
    (case l_is_struck => k_is)
    (case c_is_struck => k_is)
    (case k_is_struck => k_is)
    (case a_locks_at => k_is)
    (case l_locks_at => k_is)
    (case c_locks_at => k_is)
    (case k_locks_at => k_is)
    (case a_sets_by_price => k_is)
    (case l_sets_by_price => k_is)
    (case c_sets_by_price => k_is)
    (case k_sets_by_price => k_is)
    (case a_doubt_about => k_is)
    (case l_doubt_about => k_is)
    (case c_doubt_about => k_is)
    (case k_doubt_about => k_is)
    (case a_cheapest => k_is)
    (case l_cheapest => k_is)
    (case c_cheapest => k_is)
    (case k_cheapest => k_is)
    (case a_are_doubts => k_is)
    (case l_are_doubts => k_is)
    (case c_are_doubts => k_is)
    (case k_are_doubts => k_is)
    (case a__law_house => k_is)
    (case l__law_house => k_is)
    (case c__law_house => k_is)
    (case k__law_house => k_is)
    (case a__law_reaches_right => k_is)
    (case l__law_reaches_right => k_is)
    (case c__law_reaches_right => k_is)
    (case k__law_reaches_right => k_is)
    (case a__law_trails_right => k_is)
    (case l__law_trails_right => k_is)
    (case c__law_trails_right => k_is)
    (case k__law_trails_right => k_is)
    (case a__law_doubts_right => k_is)
    (case l__law_doubts_right => k_is)
    (case c__law_doubts_right => k_is)
    (case k__law_doubts_right => k_is)
    (case a__law_cheapest_right => k_is)
    (case l__law_cheapest_right => k_is)
    (case c__law_cheapest_right => k_is)
    (case k__law_cheapest_right => k_is)
    (case a__law_answers_right => k_is)
    (case l__law_answers_right => k_is)
    (case c__law_answers_right => k_is)
    (case k__law_answers_right => k_is)
    (case a_law => k_is)
    (case l_law => k_is)
    (case c_law => k_is)
    (case k_law => k_is)
    (case a_Locks => k_is)
    (case pgL => k_is)
    (case hdL => k_is)
    (case poL => k_is)
    (case saL => k_is)
    (case mkL => k_is)
    (case kcL => k_is)
    (case tycL => k_is)
    (case tymL => k_is)
    (case sfL => k_is)
    (case nbL => k_is)
    (case noL0 => k_is)
    (case a_Door => k_is)
    (case pgD => k_is)
    (case hdD => k_is)
    (case poD => k_is)
    (case saD => k_is)
    (case mkD => k_is)
    (case kcD => k_is)
    (case tycD => k_is)
    (case tymD => k_is)
    (case noD0 => k_is)
    (case noD1 => k_is)
    (case noD2 => k_is)
    (case noD3 => k_is)
    (case noD4 => k_is)
    (case a_Person => k_is)
    (case pgP => k_is)
    (case hdP => k_is)
    (case poP => k_is)
    (case saP => k_is)
    (case mkP => k_is)
    (case kcP => k_is)
    (case tycP => k_is)
    (case tymP => k_is)
    (case noP0 => k_is)
    (case noP1 => k_is)
    (case noP2 => k_is)
    (case noP3 => k_is)
    (case a_Building => k_is)
    (case pgB => k_is)
    (case hdB => k_is)
    (case poB => k_is)
    (case saB => k_is)
    (case mkB => k_is)
    (case kcB => k_is)
    (case tycB => k_is)
    (case tymB => k_is)
    (case noB0 => k_is)
    (case noB1 => k_is)
    (case noB2 => k_is)
    (case noB3 => k_is)
    (case noB4 => k_is)
    (case noB5 => k_is)
    (case a_Locking => k_is)
    (case pgK => k_is)
    (case hdK => k_is)
    (case poK => k_is)
    (case saK => k_is)
    (case mkK => k_is)
    (case kcK => k_is)
    (case tycK => k_is)
    (case tymK => k_is)
    (case noK0 => k_is)
    (case noK1 => k_is)
    (case noK2 => k_is)
    (case a_NoLocking => k_is)
    (case pgN => k_is)
    (case hdN => k_is)
    (case poN => k_is)
    (case saN => k_is)
    (case mkN => k_is)
    (case kcN => k_is)
    (case tycN => k_is)
    (case tymN => k_is)
    (case noN0 => k_is)
    (case aL___init__ => k_is)
    (case iL___init__ => k_is)
    (case lL___init__ => k_is)
    (case cL___init__ => k_is)
    (case kL___init__ => k_is)
    (case aL___eq__ => k_is)
    (case iL___eq__ => k_is)
    (case lL___eq__ => k_is)
    (case cL___eq__ => k_is)
    (case kL___eq__ => k_is)
    (case aL___or__ => k_is)
    (case iL___or__ => k_is)
    (case lL___or__ => k_is)
    (case cL___or__ => k_is)
    (case kL___or__ => k_is)
    (case aL___contains__ => k_is)
    (case iL___contains__ => k_is)
    (case lL___contains__ => k_is)
    (case cL___contains__ => k_is)
    (case kL___contains__ => k_is)
    (case aL_names => k_is)
    (case gL_names => k_is)
    (case tL_names => k_is)
    (case rL_names => k_is)
    (case lL_names => k_is)
    (case cL_names => k_is)
    (case kL_names => k_is)
    (case aD___init__ => k_is)
    (case iD___init__ => k_is)
    (case lD___init__ => k_is)
    (case cD___init__ => k_is)
    (case kD___init__ => k_is)
    (case aD_start => k_is)
    (case gD_start => k_is)
    (case tD_start => k_is)
    (case rD_start => k_is)
    (case lD_start => k_is)
    (case cD_start => k_is)
    (case kD_start => k_is)
    (case aD_end => k_is)
    (case gD_end => k_is)
    (case tD_end => k_is)
    (case rD_end => k_is)
    (case lD_end => k_is)
    (case cD_end => k_is)
    (case kD_end => k_is)
    (case aD_key => k_is)
    (case gD_key => k_is)
    (case tD_key => k_is)
    (case rD_key => k_is)
    (case lD_key => k_is)
    (case cD_key => k_is)
    (case kD_key => k_is)
    (case aD_cost => k_is)
    (case gD_cost => k_is)
    (case tD_cost => k_is)
    (case rD_cost => k_is)
    (case lD_cost => k_is)
    (case cD_cost => k_is)
    (case kD_cost => k_is)
    (case aD_ways => k_is)
    (case iD_ways => k_is)
    (case lD_ways => k_is)
    (case cD_ways => k_is)
    (case kD_ways => k_is)
    (case aP___init__ => k_is)
    (case iP___init__ => k_is)
    (case lP___init__ => k_is)
    (case cP___init__ => k_is)
    (case kP___init__ => k_is)
    (case aP_start => k_is)
    (case gP_start => k_is)
    (case tP_start => k_is)
    (case rP_start => k_is)
    (case lP_start => k_is)
    (case cP_start => k_is)
    (case kP_start => k_is)
    (case aP_carried => k_is)
    (case gP_carried => k_is)
    (case tP_carried => k_is)
    (case rP_carried => k_is)
    (case lP_carried => k_is)
    (case cP_carried => k_is)
    (case kP_carried => k_is)
    (case aP_needs => k_is)
    (case gP_needs => k_is)
    (case tP_needs => k_is)
    (case rP_needs => k_is)
    (case lP_needs => k_is)
    (case cP_needs => k_is)
    (case kP_needs => k_is)
    (case aP_shuns => k_is)
    (case gP_shuns => k_is)
    (case tP_shuns => k_is)
    (case rP_shuns => k_is)
    (case lP_shuns => k_is)
    (case cP_shuns => k_is)
    (case kP_shuns => k_is)
    (case aB___init__ => k_is)
    (case iB___init__ => k_is)
    (case lB___init__ => k_is)
    (case cB___init__ => k_is)
    (case kB___init__ => k_is)
    (case aB_key_rooms => k_is)
    (case gB_key_rooms => k_is)
    (case tB_key_rooms => k_is)
    (case rB_key_rooms => k_is)
    (case lB_key_rooms => k_is)
    (case cB_key_rooms => k_is)
    (case kB_key_rooms => k_is)
    (case aB_doors => k_is)
    (case gB_doors => k_is)
    (case tB_doors => k_is)
    (case rB_doors => k_is)
    (case lB_doors => k_is)
    (case cB_doors => k_is)
    (case kB_doors => k_is)
    (case aB_people => k_is)
    (case gB_people => k_is)
    (case tB_people => k_is)
    (case rB_people => k_is)
    (case lB_people => k_is)
    (case cB_people => k_is)
    (case kB_people => k_is)
    (case aB_door => k_is)
    (case iB_door => k_is)
    (case lB_door => k_is)
    (case cB_door => k_is)
    (case kB_door => k_is)
    (case aB_person => k_is)
    (case iB_person => k_is)
    (case lB_person => k_is)
    (case cB_person => k_is)
    (case kB_person => k_is)
    (case aB_reach => k_is)
    (case iB_reach => k_is)
    (case lB_reach => k_is)
    (case cB_reach => k_is)
    (case kB_reach => k_is)
    (case aB_price => k_is)
    (case iB_price => k_is)
    (case lB_price => k_is)
    (case cB_price => k_is)
    (case kB_price => k_is)
    (case aB_is_right => k_is)
    (case iB_is_right => k_is)
    (case lB_is_right => k_is)
    (case cB_is_right => k_is)
    (case kB_is_right => k_is)
    (case aK___init__ => k_is)
    (case iK___init__ => k_is)
    (case lK___init__ => k_is)
    (case cK___init__ => k_is)
    (case kK___init__ => k_is)
    (case aK_shows => k_is)
    (case iK_shows => k_is)
    (case lK_shows => k_is)
    (case cK_shows => k_is)
    (case kK_shows => k_is)
    (case aN___init__ => k_is)
    (case iN___init__ => k_is)
    (case lN___init__ => k_is)
    (case cN___init__ => k_is)
    (case kN___init__ => k_is)
    (case aN_shows => k_is)
    (case iN_shows => k_is)
    (case lN_shows => k_is)
    (case cN_shows => k_is)
    (case kN_shows => k_is)
    (case tyg => k_is)
    (case tyt => k_is)
    (case kwD0 => k_is)
    (case kwD1 => k_is)
    (case kwD2 => k_is)
    (case kwP0 => k_is)
    (case kwP1 => k_is)
    (case kwP2 => k_is)
    (case leT0 => k_is)
    (case leT1 => k_is)
    (case leT2 => k_is)
    (case g_LockError => k_is)
    (case v_LETTERS => k_is)
    (case v_LONGEST => k_is)
    (case v_FEWEST_ROOMS => k_is)
    (case v_MOST_ROOMS => k_is)
    (case v_MOST_KEYS => k_is)
    (case v_MOST_DOORS => k_is)
    (case v_MOST_PEOPLE => k_is)
    (case v_HIGHEST_COST => k_is)
    (case v_THROUGH => k_is)
    (case v_SHUT => k_is)
    (case z0 => k_is)
    (case z1 => k_is)
    (case z2 => k_is)
    (case z3 => k_is)
    (case z4 => k_is)
    (case z5 => k_is)
    (case z6 => k_is)
    (case z7 => k_is)
    (case z8 => k_is)
    (case z9 => k_is)
    (case z10 => k_is)
    (case z11 => k_is)
    (case z12 => k_is)
    (case z13 => k_is)
    (case z14 => k_is)
    (case z15 => k_is)
    (case zx_abs => k_is)
    (case zx_enumerate => k_is)
    (case nTab => kernel_rfl)
    (case cTab => kernel_rfl)
