import PyProof.Rows.All
import Wide.All
import OpenK.AllK
import Wide.FinOn
import HandS.ForMost
import HandS.Set
import HandS.Strs
import HandS.SetFor
import HandS.Star
import HandS.Property
import HandS.Small
import HandS.IsInst
import HandS.Walk
import HandS.Flow
import HandS.Wide
import HandS.EndBits
import HandS.TupAny
import HandS.GenList
import HandS.MakeKwOnly
import HandS.Iter
import HandS.More
import HandS.DictComp
import HandS.Dict
import HandS.WordsDict
import HandS.OwnEq
import HandS.NoneIn
import HandS.Steps
import KE.KDictSum
import KE.SortKeyHeap
import KE.SortData
import HandS.Lambda
import HandS.ForExc
import HandS.ClsMeth
import HandS.CallLocal
import HandS.Style
import HandS.TryOnly
import HandS.ExcOwn
import HandS.Head0
import HandS.Head1
import HandS.Head2
import PySem.Challenge.RW_lockdoors_k12_whole_walks
set_option Elab.async false
set_option linter.all false
set_option maxRecDepth 100000
namespace Lw
open PySem PySem.W PySem.Calls PyProof.Rows
def obH (as : List Addr) (s : SharedT) : List (Option Obj) := as.map (HandSHeadRun.getT s)
theorem obH_eq (as : List Addr) (s : SharedT) : obH as s = as.map s.abs.heap.get? := by
  unfold obH
  rw [show HandSHeadRun.getT s = s.abs.heap.get? from funext (HandSHeadRun.getT_eq s)]
/-- the head of a law by one kernel run, with a written part K -/
theorem head_k {r : OpenRow} {q : Program} {K : Params → Frag} {as : List Addr} {ek : ∀ P, as = (K P).map (·.1)} {M : Nat} {loose : List PySem.Str} {d : DefRec} {kwd : List (PySem.Str × PySem.Expr)} (H : Hook) (hH : H = kHook K as ek)
    (e : opening r.prog = plainProg r.prog.main.scope.names) (f : ∀ s, fenceModules? r.prog s = some s) (run : ∀ w, HandSHeadRun.RunEq r q (kHook K as ek) (obH as) M loose w)
    (hdef : defOf q r.name = some (d, kwd)) (hp : r.prog.theDef r.name = some (d.params, d.body, d.scope)) (hk : kwWritten? d.params.kwonlyargs d.params.kw_defaults = some kwd)
    (hwr : (!r.writes || r.records.isEmpty) = true) (k1 : r.wellSaid = true) (ok : (chainsOk q && opensWell r.prog && (frees r.toRowW && r.within.isEmpty)) = true) (hb : r.prog.bare) (hw : r.toRowW.promised)
    (call : WalkO q loose (XL q []) H.says r.toRowW d kwd fun f vs => PySem.call f vs) : r.Holds := by
  subst hH
  exact HandSHeadRun.head_any (H := kHook K as ek) (ob := obH as) (fun s => obH_eq as s) e f run hdef hp hk hwr k1 ok hb hw call
/-- what k_head finds, kept for the runs -/
structure Pack where
  K : Params → Frag
  as : List Addr
def Tag (_ : Pack) : Prop := True
def pick (r : OpenRow) (p : Pack) (_ : Tag p → r.Holds → r.Holds) : Pack := p
theorem fin {r : OpenRow} {K : Params → Frag} {as : List Addr} {ek : ∀ P, as = (K P).map (·.1)} (H : Hook) (_ : H = kHook K as ek) (_ : Tag ⟨K, as⟩) (h : r.Holds) : r.Holds := h
end Lw
set_option Elab.async false
set_option linter.all false
section
namespace Lw
open PySem PySem.W
abbrev hdR : OpenRow := OpenLaw.row PySem.Challenge.rw_lockdoors_k12_whole_walks
abbrev hdQ : Program := view hdR.prog [65]
def hdN0 : List PySem.Str := ["_wall", "LETTERS", "LONGEST", "is_name", "are_names", "all_in", "LockError", "BadLocks"]
def hdN1 : List PySem.Str := ["BadDoor", "BadPerson", "BadBuilding", "BadName", "BadTrail", "NoWay", "NothingPassed", "check_other"]
def hdN2 : List PySem.Str := ["Locks", "FEWEST_ROOMS", "MOST_ROOMS", "MOST_KEYS", "MOST_DOORS", "MOST_PEOPLE", "HIGHEST_COST", "is_cost"]
def hdN3 : List PySem.Str := ["Door", "Person", "is_table", "are_rooms", "is_key", "are_keys", "fits_door", "fits_person"]
def hdN4 : List PySem.Str := ["are_doors", "are_people", "Building", "check_building", "check_locks", "are_doors_of", "check_trail", "keys_held"]
def hdN5 : List PySem.Str := ["lets_through", "room_added", "rooms_beyond", "room_behind", "Walk", "_law_cell_at", "_law_draw", "_law_number"]
def hdN6 : List PySem.Str := ["_law_next", "_law_pick", "_law_some", "_law_drawn", "_law_building", "_law_locks", "_law_held", "_law_behind"]
def hdN7 : List PySem.Str := ["_law_refused", "_law_stands", "_law_one_right"]
def hdN : List PySem.Str := hdN0 ++ hdN1 ++ hdN2 ++ hdN3 ++ hdN4 ++ hdN5 ++ hdN6 ++ hdN7
end Lw
open PySem PySem.W PyProof.Rows
local macro_rules | `(tactic| o_head $H:term) => `(tactic| exact Lw.fin $H rfl (by assumption) (by assumption))
set_option maxRecDepth 100000 in
set_option maxHeartbeats 0 in
noncomputable def Lw.hdP : Lw.Pack := by
  apply Lw.pick Lw.hdR
  intro t h
  k_head
theorem Lw.hdEk : ∀ P, Lw.hdP.as = (Lw.hdP.K P).map (·.1) := fun _ => by kernel_rfl
theorem Lw.hdRun0 : ∀ w : World, HandSHeadRun.RunEq Lw.hdR Lw.hdQ (kHook Lw.hdP.K Lw.hdP.as Lw.hdEk) (Lw.obH Lw.hdP.as) 9000 Lw.hdN w := fun w os => by kernel_rfl
end
set_option Elab.async false
set_option linter.all false
set_option maxRecDepth 100000
set_option maxHeartbeats 2000000
/-! Sets of texts: set(sequence of texts), sorted(set), len(set), set == set. -/
namespace TxS
open PySem PySem.Spec PyProof.Rows L2

def txt (e : Int × Value) : Str := match e.2 with
  | .str z _ => z
  | _ => Str.empty
def TxE (w : World) (e : Int × Value) : Prop := ∃ z q, e.2 = Value.str z q ∧ e.1 = hashStr w z

structure Tbl (w : World) (es : Array (Int × Value)) (t : SetTable) (S : Str → Bool) : Prop where
  row : ∀ e ∈ es.toList, TxE w e
  nd : (es.toList.map txt).Nodup
  mem : ∀ z, S z = true ↔ z ∈ es.toList.map txt
  few : es.size < scanBound
  fit : t.fits es.size = true
  ris : Ris t.place.toList
  led : w.params.followText "set-order" = true ∨ t.led = true
/-- the set of texts at a: S its members, n how many -/
def SetX (w : World) (h : Heap) (a : Addr) (S : Str → Bool) (n : Nat) : Prop :=
  ∃ ob es ep t, h.get? a = some ob ∧ ob.ExactSet ∧ ob.data = .set es ep t ∧ Tbl w es t S ∧ es.size = n

section
variable {P : Program} {w : World} {h h' : Heap} {a : Addr} {S : Str → Bool} {n : Nat}
theorem SetX.move (R : SetX w h a S n) (keep : ∀ ob, h.get? a = some ob → h'.get? a = some ob) : SetX w h' a S n := by
  obtain ⟨ob, es, ep, t, hob, rest⟩ := R
  exact ⟨ob, es, ep, t, keep ob hob, rest⟩
theorem SetX.like {S' : Str → Bool} (R : SetX w h a S n) (e : ∀ z, S' z = S z) : SetX w h a S' n := (funext e : S' = S) ▸ R
theorem row_is {e : Int × Value} (r : TxE w e) (z : Str) : (PySem.strKind P w).is z e.2 = true ↔ txt e = z := by
  obtain ⟨y, q, e2, _⟩ := r
  unfold txt
  rw [e2]
  constructor
  · intro u
    obtain ⟨q', e'⟩ := Value.isStrOf_shape (x := z) (v := Value.str y q) u
    injection e'
  · intro u
    subst u
    show Value.isStrOf y (Value.str y q) = true
    simp [Value.isStrOf]
theorem rows_el {l : List (Int × Value)} (r : ∀ e ∈ l, TxE w e) : ElemsOf (PySem.strKind P w) l := fun e he => by
  obtain ⟨y, q, e2, e1⟩ := r e he
  refine ⟨⟨y, ?_, e1⟩, by rw [e2] <;> rfl⟩
  rw [e2]
  show Value.isStrOf y (Value.str y q) = true
  simp [Value.isStrOf]
theorem rows_mem {l : List (Int × Value)} (r : ∀ e ∈ l, TxE w e) (z : Str) : z ∈ l.map txt ↔ ∃ e ∈ l, (PySem.strKind P w).is z e.2 = true := by
  rw [List.mem_map]
  exact ⟨fun ⟨e, he, q⟩ => ⟨e, he, (row_is (r e he) z).2 q⟩, fun ⟨e, he, q⟩ => ⟨e, he, (row_is (r e he) z).1 q⟩⟩
theorem SetX.of (R : SetX w h a S n) : h.SetOf (PySem.strKind P w) a S n := by
  obtain ⟨ob, es, ep, t, hob, ex, hd, T, hn⟩ := R
  exact ⟨ob, es, ep, t, hob, ex, hd, rows_el T.row, fun z => (T.mem z).trans (rows_mem T.row z), T.few, T.fit, hn⟩
theorem Tbl.relay {es es2 : Array (Int × Value)} {t t2 : SetTable} (T : Tbl w es t S) (p : es2.toList.Perm es.toList) (f : t2.fits es2.size = true) (r : Ris t2.place.toList) (l : t2.led = t.led) : Tbl w es2 t2 S := by
  have sz : es2.size = es.size := by rw [← Array.length_toList, ← Array.length_toList]; exact p.length_eq
  exact ⟨fun e he => T.row e (p.mem_iff.mp he), (p.map txt).nodup_iff.mpr T.nd, fun z => (T.mem z).trans (p.map txt).mem_iff.symm, sz ▸ T.few, f, r, T.led.imp id fun q => l.trans q⟩
theorem Tbl.more {es es2 : Array (Int × Value)} {t t2 : SetTable} {z : Str} {q : Tok} (T : Tbl w es t S) (fresh : z ∉ es.toList.map txt) (p : es2.toList.Perm ((hashStr w z, Value.str z q) :: es.toList)) (b : es2.size < scanBound)
    (f : t2.fits es2.size = true) (r : Ris t2.place.toList) (l : t2.led = t.led) : Tbl w es2 t2 (fun y => S y || decide (y = z)) := by
  have pk : (es2.toList.map txt).Perm (z :: es.toList.map txt) := p.map txt
  refine ⟨fun e he => ?_, pk.nodup_iff.mpr (List.nodup_cons.mpr ⟨fresh, T.nd⟩), fun y => ?_, b, f, r, T.led.imp id fun u => l.trans u⟩
  · rcases List.mem_cons.mp (p.mem_iff.mp he) with u | u
    · exact ⟨z, q, by rw [u], by rw [u]⟩
    · exact T.row e u
  · rw [Bool.or_eq_true, decide_eq_true_eq, T.mem y, pk.mem_iff, List.mem_cons]
    exact Or.comm
end

section
variable {P : Program} {w : World} {A : Around} {E : Value → Shared → Prop} {s : Shared} {a : Addr} {S S' : Str → Bool} {n : Nat}
/-- the table is laid, and laid anew where it is too full -/
theorem lay_end {g : Bool → Sem Unit} (hg : ∀ (b : Bool) (s1 : Shared) (Q' : Unit → Shared → Prop), Q' () s1 → wpAny (model P w) A (g b) Q' E s1)
    {ob : Obj} {es es1 : Array (Int × Value)} {ep : Nat} {t t2 : SetTable} (hob : s.heap.get? a = some ob) (ex : ob.ExactSet) (hd : ob.data = .set es ep t) (T : Tbl w es1 t2 S') {dm : Bool} {R : Option Bool → Shared → Prop}
    (hR : ∀ h', Heap.SameBut a s.heap h' → SetX w h' a S' es1.size → R (some true) { s with heap := h' }) :
    wpAny (model P w) A (do
        storeSet a es1 t2
        if (!dm && t2.tooFull) = true then do
            g (relayAll t2 es1 (SetTable.grown es1.size)).2.2
            storeSet a (relayAll t2 es1 (SetTable.grown es1.size)).1 (relayAll t2 es1 (SetTable.grown es1.size)).2.1
            pure (some true)
          else pure (some true)) R E s := by
  refine wpAny_bind (wpAny_storeSet_of hob hd ?_ (fits_of_scanBound T.few))
  have st1 := store_at (es' := es1) (t' := t2) hob hd
  have same1 := Heap.SameBut.update s.heap a (Obj.putSet es1 t2)
  split
  · have T2 := T.relay (relayAll_perm t2 es1 (SetTable.grown es1.size)) (relayAll_fits t2 es1 (SetTable.grown es1.size)) (relayAll_ris t2 es1 (SetTable.grown es1.size)) (relayAll_led t2 es1 (SetTable.grown es1.size))
    have sz2 : (relayAll t2 es1 (SetTable.grown es1.size)).1.size = es1.size := by
      rw [← Array.length_toList, ← Array.length_toList]
      exact (relayAll_perm t2 es1 (SetTable.grown es1.size)).length_eq
    refine wpAny_bind (hg _ _ _ ?_)
    refine wpAny_bind (wpAny_storeSet_of st1 rfl ?_ (fits_of_scanBound T2.few))
    exact wpAny_pure (hR _ (same1.trans (Heap.SameBut.update _ a _)) ⟨_, _, _, _, store_at st1 rfl, ex, rfl, T2, sz2⟩)
  · exact wpAny_pure (hR _ same1 ⟨_, es1, _, t2, st1, ex, rfl, T, rfl⟩)

theorem add_txt {z : Str} {q : Tok} {Q : Bool → Shared → Prop} (R : SetX w s.heap a S n) (room : n + 1 < scanBound)
    (hQ : ∀ h', Heap.SameBut a s.heap h' → SetX w h' a (fun y => S y || decide (y = z)) (if S z = true then n else n + 1) → Q (!S z) { s with heap := h' }) :
    wpAny (model P w) A (setAddHashed a (.str z q) (hashStr w z)) Q E s := by
  obtain ⟨ob, es, ep, t, hob, ex, hd, T, hn⟩ := R
  have key : (PySem.strKind P w).is z (.str z q) = true := by
    show Value.isStrOf z (Value.str z q) = true
    simp [Value.isStrOf]
  have scn : (Value.str z q).scannable = true := rfl
  have els : ElemsOf (PySem.strKind P w) es.toList := rows_el T.row
  unfold setAddHashed setAddHashedIn
  refine wpAny_holding (wpAny_bind (wpAny_setState_of hob hd T.fit ?_))
  dsimp only
  rw [byScan_of scn T.few els]
  simp only [↓reduceIte]
  unfold setAddByScan
  refine wpAny_bind (wpAny_bind (wpAny_rule ?_))
  refine wpAny_bind (wpAny_setScan_of (knd := PySem.strKind P w) key hob hd T.fit els ?_)
  cases fi : List.findIdx? (fun e => (PySem.strKind P w).is z e.2) es.toList with
  | some j =>
    dsimp only
    obtain ⟨lj, pj, _⟩ := List.findIdx?_eq_some_iff_getElem.mp fi
    have yes : S z = true := (T.mem z).2 ((rows_mem (P := P) T.row z).2 ⟨es.toList[j], List.getElem_mem lj, pj⟩)
    have same : (fun y => S y || decide (y = z)) = S := funext fun y => by
      by_cases u : y = z
      · subst u
        rw [yes] <;> rfl
      · rw [decide_eq_false u, Bool.or_false]
    have done := hQ s.heap (Heap.SameBut.refl a s.heap) (by rw [same, if_pos yes]; exact ⟨ob, es, ep, t, hob, ex, hd, T, hn⟩)
    rw [yes] at done
    exact wpAny_pure (wpAny_pure done)
  | none =>
    dsimp only
    have fresh : z ∉ es.toList.map txt := fun u => by
      obtain ⟨e, he, k1⟩ := (rows_mem (P := P) T.row z).1 u
      have k2 := List.findIdx?_eq_none_iff.mp fi e he
      rw [k1] at k2
      cases k2
    have no : S z = false := Bool.eq_false_iff.mpr fun u => fresh ((T.mem z).1 u)
    have way : ∀ (b : Bool) {s1 : Shared} {Q' : Unit → Shared → Prop}, Q' () s1 → wpAny (model P w) A (match b with | true => rule "set.scan.the-table-gave-way" | false => pure ()) Q' E s1 := by
      intro b s1 Q' u
      cases b
      · exact wpAny_pure u
      · exact wpAny_rule u
    have p0 := layNew_perm t es ((PySem.strKind P w).hash z) (.str z q)
    have f0 := layNew_fits t es ((PySem.strKind P w).hash z) (.str z q)
    have r0 := layNew_ris t es ((PySem.strKind P w).hash z) (.str z q) T.ris
    have l0 := layNew_led t es ((PySem.strKind P w).hash z) (.str z q)
    show wpAny _ _ _ _ _ _
    have hh : (PySem.strKind P w).hash z = hashStr w z := rfl
    rw [hh] at p0 f0 r0 l0
    generalize layNew t es (hashStr w z) (.str z q) = Z at p0 f0 r0 l0 ⊢
    obtain ⟨es1, t1, dm, gv⟩ := Z
    dsimp only at p0 f0 r0 l0 ⊢
    rw [Array.toList_push] at p0
    have p1 : es1.toList.Perm ((hashStr w z, Value.str z q) :: es.toList) := p0.trans (List.perm_append_singleton _ _)
    have sz : es1.size = n + 1 := by
      rw [← Array.length_toList, p1.length_eq, List.length_cons, Array.length_toList, hn]
    have bd : es1.size < scanBound := by rw [sz]; exact room
    have T1 : ∀ t' : SetTable, t'.fits es1.size = true → Ris t'.place.toList → t'.led = t1.led → Tbl w es1 t' (fun y => S y || decide (y = z)) := fun t' a b c => T.more fresh p1 bd a b (c.trans l0)
    have fin : ∀ h', Heap.SameBut a s.heap h' → SetX w h' a (fun y => S y || decide (y = z)) es1.size → Q true { s with heap := h' } := fun h' sb r => by
      have u := hQ h' sb
      rw [no] at u
      rw [sz] at r
      exact u r
    refine wpAny_bind (way _ ?_)
    split
    · refine wpAny_bind ?_
      rw [hashByValue_scannable 8 scn]
      refine wpAny_pure ?_
      refine lay_end (fun b s1 Q' u => ?_) hob ex hd (T1 _ ?_ ?_ ?_) ?_
      · cases b <;> first | exact wpAny_pure u | exact wpAny_rule u
      · first | exact f0 | (split <;> first | exact f0 | exact SetTable.fits_plain_off f0)
      · first | exact r0 | (split <;> exact r0)
      · first | rfl | (split <;> rfl)
      · intro h' sb r
        exact wpAny_pure (fin h' sb r)
    · refine wpAny_bind (wpAny_pure ?_)
      simp only [↓reduceIte]
      refine lay_end (fun b s1 Q' u => ?_) hob ex hd (T1 _ f0 r0 rfl) ?_
      · cases b <;> first | exact wpAny_pure u | exact wpAny_rule u
      · intro h' sb r
        exact wpAny_pure (fin h' sb r)
end

/-! ### set(sequence of texts) -/
abbrev freshSet (w : World) : Obj := { cls := .type "set", dict := none, data := .set #[] 0 (.fresh 0 0 (!w.params.followText "set-order")) }
theorem fresh_at {w : World} {h : Heap} {a : Addr} (hob : h.get? a = some (freshSet w)) : SetX w h a (fun _ => false) 0 := by
  refine ⟨_, #[], 0, _, hob, ⟨rfl, rfl, rfl⟩, rfl, ⟨fun e he => (by cases he), List.Pairwise.nil, fun z => ⟨fun u => (by cases u), fun u => (by cases u)⟩, by decide, by rfl, List.Pairwise.nil, ?_⟩, rfl⟩
  show _ ∨ (!w.params.followText "set-order") = true
  cases w.params.followText "set-order" <;> simp

section
variable {P : Program} {w : World} {A : Around} {E : Value → Shared → Prop} {s : Shared}
theorem upd_loop {I : Addr} {fp wr : List Addr} {G : Array GenState → Array GenState → Prop} {n : Nat} {Pv : Nat → Value → Prop} {St : Nat → Shared → Prop} {R : Result → Shared → Prop}
    (W : WalksS P w A.in1 I fp wr G n Pv St) (D : Addr) (off : D ∉ fp) (zs : List Str) (len : n = zs.length) (few : zs.length + 1 < scanBound) (val : ∀ i v, Pv i v → ∃ z q, zs[i]? = some z ∧ v = .str z q) :
    ∀ (k i : Nat) (s : Shared), n - i = k → i ≤ n → St i s → (∃ c, c ≤ i ∧ SetX w s.heap D (fun y => decide (y ∈ zs.take i)) c) →
      (∀ s' c, Moved (D :: wr) G s s' → c ≤ n → SetX w s'.heap D (fun y => decide (y ∈ zs)) c → R (.ok (.ret .none)) s') →
      codeAny (model P w) A (.builtin "set.update.loop" ⟨[.ref D, .ref I], []⟩) R s := by
  have offW : D ∉ wr := fun u => off (W.sub _ u)
  have wide : ∀ b ∈ wr, b ∈ D :: wr := fun b u => List.mem_cons_of_mem _ u
  intro k
  induction k with
  | zero =>
    rintro i s ek hi st ⟨c, hc, X⟩ hR
    obtain rfl : i = n := by omega
    rw [List.take_of_length_le (by omega)] at X
    refine codeAny_builtin F.entry_set_update_loop ?_
    rw [Around.under_plainId F.plain_set_update_loop _]
    refine wpAny_bind (m := pyNext (.ref I)) (W.done s _ _ st fun s' mv => ?_)
    exact wpAny_pure (hR s' c (mv.mono wide) hc (X.move fun o e => mv.heap D o offW e))
  | succ k ih =>
    rintro i s ek hi st ⟨c, hc, X⟩ hR
    have lt : i < n := by omega
    refine codeAny_builtin F.entry_set_update_loop ?_
    rw [Around.under_plainId F.plain_set_update_loop _]
    refine wpAny_bind (m := pyNext (.ref I)) (W.item i s _ _ lt st fun v s' pv st' mv => ?_)
    obtain ⟨z, q, hz, rfl⟩ := val i v pv
    have X1 : SetX w s'.heap D (fun y => decide (y ∈ zs.take i)) c := X.move fun o e => mv.heap D o offW e
    refine wpAny_bind (m := holding [Value.str z q] (setAdd D (.str z q))) (wpAny_holding ?_)
    unfold setAdd
    refine wpAny_holding (wpAny_bind (wpAny_pyHash_str ?_))
    refine add_txt (s := { s' with toks := s'.toks + 1 }) X1 (by omega) fun h' same X2 => ?_
    have X3 : SetX w h' D (fun y => decide (y ∈ zs.take (i + 1))) (if decide (z ∈ zs.take i) = true then c else c + 1) := X2.like fun y => by
      rw [List.take_add_one, hz]
      simp [List.mem_append]
    have hc3 : (if decide (z ∈ zs.take i) = true then c else c + 1) ≤ i + 1 := by
      by_cases u : decide (z ∈ zs.take i) = true
      · rw [if_pos u]
        omega
      · rw [if_neg u]
        omega
    refine wpAny_pure ⟨plainId_quiet F.plain_set_update_loop _, ih (i + 1) _ (by omega) lt (W.frame _ s' _ _ st' (Nat.le_succ _) fun b hb o e => ?_) ⟨_, hc3, X3⟩ fun s2 c2 mv2 hc2 X4 => ?_⟩
    · exact (same.2 b fun u : b = D => off (u ▸ hb)).trans e
    · refine hR s2 c2 (Moved.trans W.gtrans ((mv.mono wide).then_heap (Nat.le_succ _) fun b o hb e => ?_) mv2) hc2 X4
      exact (same.2 b fun u : b = D => hb (u ▸ List.mem_cons_self)).trans e

theorem at_txt {us : List Value} {zs : List Str} (r : StrsAre us zs) (i : Nat) (v : Value) (e : us[i]? = some v) : ∃ z q, zs[i]? = some z ∧ v = .str z q := by
  obtain ⟨q, e2⟩ := SS.strs_at r i v e
  have h1 : i < us.length := (List.getElem?_eq_some_iff.mp e).1
  have h2 : i < zs.length := by rw [← StrsAre.len_eq r]; exact h1
  refine ⟨zs[i], q, List.getElem?_eq_getElem h2, ?_⟩
  rw [e2, List.getD_eq_getElem?_getD, List.getElem?_eq_getElem h2] <;> rfl

set_option maxHeartbeats 6400000 in
theorem call_setT {l : Addr} {its : Array Value} (zs : List Str) {Q : Value → Shared → Prop} (calm : A.handled = none) (hl : s.heap.IsTuple l its) (hz : StrsAre its.toList zs) (few : zs.length + 1 < scanBound)
    (done : ∀ (h' : Heap) (tk c : Nat), SetX w h' s.heap.objs.size (fun y => decide (y ∈ zs)) c → c ≤ zs.length → (∀ b o, s.heap.get? b = some o → h'.get? b = some o) → Q (.ref s.heap.objs.size) { s with heap := h', toks := tk }) :
    wpAny (model P w) A (call (.type "set") [.ref l]) Q E s := by
  have sz : its.size = zs.length := by
    rw [← StrsAre.len_eq hz, Array.length_toList]
  obtain ⟨k0, k1, m1⟩ := F.called_set.mro
  have m2 := F.called_set.made
  have m3 := F.called_set.sub
  refine wpAny_call (codeAny_of_tree ?_)
  show wpAny _ _ (callAny (.type "set") _) _ _ _
  refine wpAny_pure ⟨Code.quiet_builtin _ (by decide +kernel), codeAny_builtin F.entry_type_call ?_⟩
  rw [Around.under_plain (weight_type_call_type "set" [.ref l] []) rfl]
  have m4 := F.called_set.notType
  have m5 := F.called_set.canCreate
  have m6 := F.typeCall_set_1 (.ref l)
  repeat (any_goals (first | assumption | wp_step))
  refine codeAny_mono (code_set_led1 (.ref l) (E := E) (Q₁ := fun v s1 => v = .ref s.heap.objs.size ∧ s1 = { s with heap := s.heap.push (freshSet w) }) ⟨rfl, rfl⟩) fun r s1 hr => ?_
  cases r with
  | error e => exact hr
  | ok fl =>
    cases fl with
    | ret v =>
      obtain ⟨rfl, rfl⟩ := hr
      have g0 : (s.heap.push (freshSet w)).get? s.heap.objs.size = some (freshSet w) := Heap.get?_push_size _ rfl
      have ty0 : Shared.TypeIs { s with heap := s.heap.push (freshSet w) } (.ref s.heap.objs.size) "set" := ⟨_, g0, rfl⟩
      have m7 := F.called_set.init.lookup
      have m8 := F.called_set.init.bind (.ref s.heap.objs.size)
      repeat (any_goals (first | assumption | wp_step))
      refine codeAny_mono (codeAny_call_builtin (R := wants (fun r s2 => r = .none ∧ ∃ h' tk c, s2 = { s with heap := h', toks := tk } ∧ SetX w h' s.heap.objs.size (fun y => decide (y ∈ zs)) c ∧ c ≤ zs.length ∧
          (∀ b o, s.heap.get? b = some o → h'.get? b = some o)) E) F.called_set.init.plain F.entry_set_init (check_set_init_1 ty0 ?_)) fun r2 s2 hr2 => ?_
      · obtain ⟨⟨oc, od, odt, osl⟩, ho, hcl, nl, hdl⟩ := hl
        simp only at hcl hdl
        subst hcl hdl
        have ho1 : (s.heap.push (freshSet w)).get? l = some { cls := .type "tuple", dict := od, data := .seq its nl, slots := osl } := Heap.get?_push_of_some _ ho
        have n1 := F.sub_tuple_set
        have n2 := F.sub_tuple_frozenset
        have n3 : (Value.type "tuple" == Value.type "dict") = false := by decide
        have isT : (s.heap.push (freshSet w)).IsTuple l its := ⟨_, ho1, rfl, nl, rfl⟩
        unfold Builtin.«set.__init__» noKeywords Builtin.Frozenset.updateFrom
        generalize ePI : pyIter = PI
        wp_walk
        subst ePI
        refine wpAny_pyIter_tuple isT ?_
        refine wpAny_bind (wpAny_runValue ?_)
        have ll : l < s.heap.objs.size := Heap.lt_size ho
        have cm : A.in1.in1.in1.handled = none := by simp [calm]
        have zz : (s.heap.push (freshSet w)).objs.size = s.heap.objs.size + 1 := Heap.size_push ..
        have nI : l ≠ (s.heap.push (freshSet w)).objs.size := by rw [zz]; exact Nat.ne_of_lt (Nat.lt_succ_of_lt ll)
        have nF : s.heap.objs.size ∉ [(s.heap.push (freshSet w)).objs.size, l] := by
          simp only [List.mem_cons, List.not_mem_nil, or_false, not_or]
          exact ⟨by rw [zz]; exact Nat.ne_of_lt (Nat.lt_succ_self _), Nat.ne_of_gt ll⟩
        refine upd_loop ((Walks.tuple cm _ l nI its).toS) s.heap.objs.size nF zs sz few (fun i v hv => at_txt hz i v (by rw [Array.getElem?_toList]; exact hv)) (its.size - 0) 0 _ (by omega) (Nat.zero_le _)
          ⟨⟨_, Heap.get?_push_size _ rfl, rfl, rfl⟩, (isT.push _)⟩ ⟨0, Nat.le_refl 0, ?_⟩ fun s' c' mv hc' X' => ?_
        · exact (fresh_at (Heap.get?_push_of_some _ g0)).like fun y => by simp
        · obtain ⟨h', g2, d2, tk2, os2⟩ := s'
          obtain rfl : g2 = s.gens := mv.gens
          obtain rfl : d2 = s.drawn := mv.drawn
          obtain rfl : os2 = s.os := mv.os
          show wpAny _ _ _ _ _ _
          refine wpAny_pure (wpAny_pure ⟨rfl, h', tk2, c', rfl, X', by omega, fun b o e => ?_⟩)
          have bl : b < s.heap.objs.size := Heap.lt_size e
          refine mv.heap b o ?_ (Heap.get?_push_of_some _ (Heap.get?_push_of_some _ e))
          simp only [List.mem_cons, List.not_mem_nil, or_false, not_or]
          exact ⟨Nat.ne_of_lt bl, by rw [zz]; exact Nat.ne_of_lt (Nat.lt_succ_of_lt bl)⟩
      · cases r2 with
        | error e => exact hr2
        | ok fl2 =>
          cases fl2 with
          | ret r =>
            obtain ⟨rfl, h', tk, c', rfl, X', hc', kp⟩ := hr2
            repeat (any_goals (first | assumption | wp_step))
            exact done _ _ _ X' hc' kp
          | _ => exact hr2.elim
    | _ => exact hr.elim

set_option maxHeartbeats 6400000 in
theorem call_setL {l : Addr} {its : Array Value} (zs : List Str) {Q : Value → Shared → Prop} (calm : A.handled = none) (hl : s.heap.IsList l its) (hz : StrsAre its.toList zs) (few : zs.length + 1 < scanBound)
    (done : ∀ (h' : Heap) (tk c : Nat), SetX w h' s.heap.objs.size (fun y => decide (y ∈ zs)) c → c ≤ zs.length → (∀ b o, s.heap.get? b = some o → h'.get? b = some o) → Q (.ref s.heap.objs.size) { s with heap := h', toks := tk }) :
    wpAny (model P w) A (call (.type "set") [.ref l]) Q E s := by
  have sz : its.size = zs.length := by
    rw [← StrsAre.len_eq hz, Array.length_toList]
  obtain ⟨k0, k1, m1⟩ := F.called_set.mro
  have m2 := F.called_set.made
  have m3 := F.called_set.sub
  refine wpAny_call (codeAny_of_tree ?_)
  show wpAny _ _ (callAny (.type "set") _) _ _ _
  refine wpAny_pure ⟨Code.quiet_builtin _ (by decide +kernel), codeAny_builtin F.entry_type_call ?_⟩
  rw [Around.under_plain (weight_type_call_type "set" [.ref l] []) rfl]
  have m4 := F.called_set.notType
  have m5 := F.called_set.canCreate
  have m6 := F.typeCall_set_1 (.ref l)
  repeat (any_goals (first | assumption | wp_step))
  refine codeAny_mono (code_set_led1 (.ref l) (E := E) (Q₁ := fun v s1 => v = .ref s.heap.objs.size ∧ s1 = { s with heap := s.heap.push (freshSet w) }) ⟨rfl, rfl⟩) fun r s1 hr => ?_
  cases r with
  | error e => exact hr
  | ok fl =>
    cases fl with
    | ret v =>
      obtain ⟨rfl, rfl⟩ := hr
      have g0 : (s.heap.push (freshSet w)).get? s.heap.objs.size = some (freshSet w) := Heap.get?_push_size _ rfl
      have ty0 : Shared.TypeIs { s with heap := s.heap.push (freshSet w) } (.ref s.heap.objs.size) "set" := ⟨_, g0, rfl⟩
      have m7 := F.called_set.init.lookup
      have m8 := F.called_set.init.bind (.ref s.heap.objs.size)
      repeat (any_goals (first | assumption | wp_step))
      refine codeAny_mono (codeAny_call_builtin (R := wants (fun r s2 => r = .none ∧ ∃ h' tk c, s2 = { s with heap := h', toks := tk } ∧ SetX w h' s.heap.objs.size (fun y => decide (y ∈ zs)) c ∧ c ≤ zs.length ∧
          (∀ b o, s.heap.get? b = some o → h'.get? b = some o)) E) F.called_set.init.plain F.entry_set_init (check_set_init_1 ty0 ?_)) fun r2 s2 hr2 => ?_
      · obtain ⟨⟨oc, od, odt, osl⟩, ho, hcl, nl, hdl⟩ := hl
        simp only at hcl hdl
        subst hcl hdl
        have ho1 : (s.heap.push (freshSet w)).get? l = some { cls := .type "list", dict := od, data := .seq its nl, slots := osl } := Heap.get?_push_of_some _ ho
        have n1 := F.sub_list_set
        have n2 := F.sub_list_frozenset
        have n3 : (Value.type "list" == Value.type "dict") = false := by decide
        have isT : (s.heap.push (freshSet w)).IsList l its := ⟨_, ho1, rfl, nl, rfl⟩
        unfold Builtin.«set.__init__» noKeywords Builtin.Frozenset.updateFrom
        generalize ePI : pyIter = PI
        wp_walk
        subst ePI
        refine wpAny_pyIter_list isT ?_
        refine wpAny_bind (wpAny_runValue ?_)
        have ll : l < s.heap.objs.size := Heap.lt_size ho
        have cm : A.in1.in1.in1.handled = none := by simp [calm]
        have zz : (s.heap.push (freshSet w)).objs.size = s.heap.objs.size + 1 := Heap.size_push ..
        have nI : l ≠ (s.heap.push (freshSet w)).objs.size := by rw [zz]; exact Nat.ne_of_lt (Nat.lt_succ_of_lt ll)
        have nF : s.heap.objs.size ∉ [(s.heap.push (freshSet w)).objs.size, l] := by
          simp only [List.mem_cons, List.not_mem_nil, or_false, not_or]
          exact ⟨by rw [zz]; exact Nat.ne_of_lt (Nat.lt_succ_self _), Nat.ne_of_gt ll⟩
        refine upd_loop ((Walks.list cm _ l nI its).toS) s.heap.objs.size nF zs sz few (fun i v hv => at_txt hz i v (by rw [Array.getElem?_toList]; exact hv)) (its.size - 0) 0 _ (by omega) (Nat.zero_le _)
          ⟨⟨_, Heap.get?_push_size _ rfl, rfl, rfl⟩, (isT.push _)⟩ ⟨0, Nat.le_refl 0, ?_⟩ fun s' c' mv hc' X' => ?_
        · exact (fresh_at (Heap.get?_push_of_some _ g0)).like fun y => by simp
        · obtain ⟨h', g2, d2, tk2, os2⟩ := s'
          obtain rfl : g2 = s.gens := mv.gens
          obtain rfl : d2 = s.drawn := mv.drawn
          obtain rfl : os2 = s.os := mv.os
          show wpAny _ _ _ _ _ _
          refine wpAny_pure (wpAny_pure ⟨rfl, h', tk2, c', rfl, X', by omega, fun b o e => ?_⟩)
          have bl : b < s.heap.objs.size := Heap.lt_size e
          refine mv.heap b o ?_ (Heap.get?_push_of_some _ (Heap.get?_push_of_some _ e))
          simp only [List.mem_cons, List.not_mem_nil, or_false, not_or]
          exact ⟨Nat.ne_of_lt bl, by rw [zz]; exact Nat.ne_of_lt (Nat.lt_succ_of_lt bl)⟩
      · cases r2 with
        | error e => exact hr2
        | ok fl2 =>
          cases fl2 with
          | ret r =>
            obtain ⟨rfl, h', tk, c', rfl, X', hc', kp⟩ := hr2
            repeat (any_goals (first | assumption | wp_step))
            exact done _ _ _ X' hc' kp
          | _ => exact hr2.elim
    | _ => exact hr.elim
end
end TxS
set_option Elab.async false
set_option linter.all false
set_option maxRecDepth 100000
set_option maxHeartbeats 2000000
namespace TxS
open PySem PySem.Spec PyProof.Rows L2

/-! ### ascending lists of texts -/
def Sl (a b : Str) : Prop := a.cps.toList < b.cps.toList
instance (a b : Str) : Decidable (Sl a b) := inferInstanceAs (Decidable (a.cps.toList < b.cps.toList))
theorem sl_irr (a : Str) : ¬ Sl a a := List.lt_irrefl _
theorem sl_trans {a b c : Str} (h : Sl a b) (k : Sl b c) : Sl a c := List.lt_trans h k
theorem str_ext {a b : Str} (h : a.cps.toList = b.cps.toList) : a = b := by
  cases a
  cases b
  simp only [Str.mk.injEq]
  exact Array.toList_inj.mp h
theorem sl_total (a b : Str) : Sl a b ∨ a = b ∨ Sl b a := by
  by_cases h : Sl a b
  · exact .inl h
  · by_cases k : Sl b a
    · exact .inr (.inr k)
    · exact .inr (.inl (str_ext (List.le_antisymm (List.not_lt.mp k) (List.not_lt.mp h))))
abbrev Asc (l : List Str) : Prop := l.Pairwise Sl
theorem asc_same : ∀ {l m : List Str}, Asc l → Asc m → (∀ z, z ∈ l ↔ z ∈ m) → l = m
  | [], [], _, _, _ => rfl
  | [], y :: m, _, _, h => absurd ((h y).2 List.mem_cons_self) (by simp)
  | x :: l, [], _, _, h => absurd ((h x).1 List.mem_cons_self) (by simp)
  | x :: l, y :: m, hl, hm, h => by
    obtain ⟨l1, l2⟩ := List.pairwise_cons.mp hl
    obtain ⟨m1, m2⟩ := List.pairwise_cons.mp hm
    have exy : x = y := by
      rcases List.mem_cons.mp ((h x).1 List.mem_cons_self) with e | e
      · exact e
      · rcases List.mem_cons.mp ((h y).2 List.mem_cons_self) with e2 | e2
        · exact e2.symm
        · exact absurd (sl_trans (m1 x e) (l1 y e2)) (sl_irr y)
    subst exy
    refine congrArg (x :: ·) (asc_same l2 m2 fun z => ⟨fun u => ?_, fun u => ?_⟩)
    · rcases List.mem_cons.mp ((h z).1 (List.mem_cons_of_mem _ u)) with e | e
      · subst e
        exact absurd (l1 z u) (sl_irr z)
      · exact e
    · rcases List.mem_cons.mp ((h z).2 (List.mem_cons_of_mem _ u)) with e | e
      · subst e
        exact absurd (m1 z u) (sl_irr z)
      · exact e
def ins (z : Str) : List Str → List Str
  | [] => [z]
  | x :: r => if Sl z x then z :: x :: r else if z = x then x :: r else x :: ins z r
def srt (l : List Str) : List Str := l.foldr ins []
theorem mem_ins (z : Str) : ∀ (l : List Str) (y : Str), y ∈ ins z l ↔ y = z ∨ y ∈ l
  | [], y => by simp [ins]
  | x :: r, y => by
    unfold ins
    by_cases h : Sl z x
    · rw [if_pos h]
      simp
    · rw [if_neg h]
      by_cases k : z = x
      · rw [if_pos k]
        subst k
        simp
      · rw [if_neg k, List.mem_cons, mem_ins z r y, List.mem_cons]
        constructor
        · rintro (a | a | a)
          · exact .inr (.inl a)
          · exact .inl a
          · exact .inr (.inr a)
        · rintro (a | a | a)
          · exact .inr (.inl a)
          · exact .inl a
          · exact .inr (.inr a)
theorem asc_ins (z : Str) : ∀ l : List Str, Asc l → Asc (ins z l)
  | [], _ => List.pairwise_singleton _ _
  | x :: r, h => by
    obtain ⟨h1, h2⟩ := List.pairwise_cons.mp h
    unfold ins
    by_cases a : Sl z x
    · rw [if_pos a]
      refine List.pairwise_cons.mpr ⟨fun y hy => ?_, h⟩
      rcases List.mem_cons.mp hy with e | e
      · exact e ▸ a
      · exact sl_trans a (h1 y e)
    · rw [if_neg a]
      by_cases k : z = x
      · rw [if_pos k]
        exact h
      · rw [if_neg k]
        refine List.pairwise_cons.mpr ⟨fun y hy => ?_, asc_ins z r h2⟩
        rcases (mem_ins z r y).1 hy with e | e
        · subst e
          rcases sl_total x y with q | q | q
          · exact q
          · exact absurd q.symm k
          · exact absurd q a
        · exact h1 y e
theorem asc_srt : ∀ l : List Str, Asc (srt l)
  | [] => List.Pairwise.nil
  | z :: r => asc_ins z (srt r) (asc_srt r)
theorem mem_srt : ∀ (l : List Str) (y : Str), y ∈ srt l ↔ y ∈ l
  | [], y => Iff.rfl
  | z :: r, y => by
    show y ∈ ins z (srt r) ↔ _
    rw [mem_ins, mem_srt r y, List.mem_cons]
theorem srt_eq {l m : List Str} (h : ∀ z, z ∈ l ↔ z ∈ m) : srt l = srt m := asc_same (asc_srt l) (asc_srt m) fun z => by rw [mem_srt, mem_srt, h z]
theorem srt_of {l m : List Str} (a : Asc m) (h : ∀ z, z ∈ m ↔ z ∈ l) : m = srt l := asc_same a (asc_srt l) fun z => by rw [mem_srt, h z]
theorem srt_asc {l : List Str} (a : Asc l) : srt l = l := (srt_of a fun _ => Iff.rfl).symm
theorem srt_iff {l m : List Str} : srt l = srt m ↔ ∀ z, z ∈ l ↔ z ∈ m := ⟨fun e z => by rw [← mem_srt l z, e, mem_srt], srt_eq⟩
theorem len_ins (z : Str) : ∀ l : List Str, (ins z l).length ≤ l.length + 1
  | [] => Nat.le_refl _
  | x :: r => by
    unfold ins
    have ih := len_ins z r
    split
    · exact Nat.le_refl _
    · split
      · exact Nat.le_succ _
      · simp only [List.length_cons]
        omega
theorem len_srt : ∀ l : List Str, (srt l).length ≤ l.length
  | [] => Nat.le_refl _
  | z :: r => by
    have := len_srt r
    have := len_ins z (srt r)
    show (ins z (srt r)).length ≤ r.length + 1
    omega
theorem asc_of : ∀ {l : List Str}, sortedS l = true → l.Nodup → Asc l
  | [], _, _ => List.Pairwise.nil
  | x :: r, h, nd => by
    have go : ∀ (r : List Str) (p : Str), risingS p r = true → (p :: r).Nodup → Asc (p :: r) := by
      intro r
      induction r with
      | nil => intro p _ _; exact List.pairwise_singleton _ _
      | cons y r ih =>
        intro p h nd
        have h0 : (!ltCps y.cps.toList p.cps.toList && risingS y r) = true := h
        obtain ⟨h1, h2⟩ := Bool.and_eq_true_iff.mp h0
        obtain ⟨n1, n2⟩ := List.nodup_cons.mp nd
        have t := ih y h2 n2
        have py : Sl p y := by
          rcases sl_total p y with q | q | q
          · exact q
          · exact absurd (q ▸ List.mem_cons_self) n1
          · exfalso
            have : ltCps y.cps.toList p.cps.toList = true := (ltCps_eq _ _).trans (decide_eq_true q)
            rw [this] at h1
            cases h1
        refine List.pairwise_cons.mpr ⟨fun z hz => ?_, t⟩
        rcases List.mem_cons.mp hz with e | e
        · exact e ▸ py
        · exact sl_trans py ((List.pairwise_cons.mp t).1 z e)
    exact go r x h nd

/-! ### sorted(set) -/
section
variable {P : Program} {w : World} {A : Around} {E : Value → Shared → Prop} {s : Shared} {a : Addr} {S : Str → Bool} {n : Nat}
theorem strs_of : ∀ (l : List Value), (∀ v ∈ l, ∃ z q, v = Value.str z q) → ∃ zs : List Str, StrsAre l zs ∧ zs = l.map fun v => txt (0, v)
  | [], _ => ⟨[], .nil, rfl⟩
  | v :: l, h => by
    obtain ⟨z, q, rfl⟩ := h v List.mem_cons_self
    obtain ⟨zs, r, e⟩ := strs_of l fun u hu => h u (List.mem_cons_of_mem _ hu)
    exact ⟨z :: zs, .cons z q r, by rw [e]; rfl⟩
theorem sort_set {Q : Value → Shared → Prop} (R : SetX w s.heap a S n) (calm : A.handled = none) (few : n < 64)
    (done : ∀ s' p (out : Array Value) (c : Nat) (ys : List Str), (∀ b o, s.heap.get? b = some o → s'.heap.get? b = some o) → s'.gens = s.gens → s'.os = s.os → s.heap.objs.size ≤ p →
      s'.heap.get? p = some (seqObj "list" out c) → StrsAre out.toList ys → Asc ys → (∀ z, z ∈ ys ↔ S z = true) → ys.length = n → Q (.ref p) s') :
    wpAny (model P w) A (call (.builtin "sorted") [.ref a]) Q E s := by
  obtain ⟨ob, es, ep, t, hob, ex, hd, T, hn⟩ := R
  refine Calls.call_function_entry kind_sorted plain_sorted entry_sorted (args_sorted1 _) ?_
  unfold Builtin.«sorted»
  refine wpAny_bind (m := checkCount "sorted" 1 1 _) (wpAny_pure (wpAny_bind (collect_set (A := A.in1) calm ⟨ob, hob, ex.1, hd⟩ T.fit T.few T.ris T.led fun s1 vs kp sz g1 o1 pm => ?_)))
  have lv : vs.length = n := by rw [pm.length_eq, List.length_map, Array.length_toList]; exact hn
  obtain ⟨zs, hz, ez⟩ := strs_of vs fun v hv => by
    obtain ⟨e, he, q⟩ := List.mem_map.mp (pm.mem_iff.mp hv)
    obtain ⟨y, tk, h1, _⟩ := T.row e he
    exact ⟨y, tk, by rw [← q]; exact h1⟩
  have pk : zs.Perm (es.toList.map txt) := by
    rw [ez]
    have q := pm.map fun v => txt (0, v)
    rw [List.map_map] at q
    exact q
  refine wpAny_bind (wpAny_newList ?_ (by rw [lv, sizeLine_eq]; omega))
  have at1 : (s1.heap.push (seqObj "list" vs.toArray 0)).get? s1.heap.objs.size = some (seqObj "list" vs.toArray 0) := Heap.get?_push_size _ rfl
  refine wpAny_bind (wpAny_holding (wpAny_call_entry slot_list_sort ⟨_, at1, rfl⟩ entry_list_sort (list_sort_treeK strKind_oneLt at1 hz.keysOf (fun v1 v2 rest e => keyKind_strs (by rw [← e]; exact hz)) (by rw [lv]; exact few) fun st' a1 a2 => ⟨_, rfl, ?_⟩) (args_list_sort _)))
  obtain ⟨ys, y1, y2, y3⟩ := sorted_out_str hz a1 a2
  obtain ⟨c, hc⟩ := sortedHeap_at (vs := vs) (out := (arrOf st').map (·.2)) at1
  have py : ys.Perm (es.toList.map txt) := y2.trans pk
  refine wpAny_pure ⟨_, rfl, done _ s1.heap.objs.size _ c ys (fun b u e => ?_) g1 o1 sz hc y1 (asc_of y3 (py.nodup_iff.mpr T.nd)) (fun z => by rw [py.mem_iff, ← T.mem z]) (by rw [py.length_eq, List.length_map, Array.length_toList]; exact hn)⟩
  have q := kp b u e
  have lt := Heap.lt_size q
  refine Eq.trans (sortedHeap_old (Nat.ne_of_lt lt) ?_) (Heap.get?_push_of_some _ q)
  rw [size_push']
  exact Nat.lt_succ_of_lt lt
end

/-! ### set == set -/
section
variable {P : Program} {w : World} {A : Around} {E : Value → Shared → Prop} {s : Shared} {a b : Addr} {S S' : Str → Bool} {n m : Nat}
theorem entry_set_eq : entryFor table "set.__eq__" = some Builtin.«frozenset.__eq__» :=
  entryFor_alias (id' := "frozenset.__eq__") (by kernel_rfl) rfl (by decide +kernel) (by kernel_rfl)
theorem any_set {Q : Bool → Shared → Prop} (ty : s.TypeIs (.ref a) "set") (h : Q true s) : wpAny (model P w) A (Builtin.Frozenset.isAnySet (.ref a)) Q E s := by
  unfold Builtin.Frozenset.isAnySet orM
  refine wpAny_bind (wpAny_isInstance ty sub_set_self ?_)
  exact wpAny_pure h
theorem quiet_txt {z : Str} {q : Tok} : Builtin.Frozenset.quietEq (.str z q) = pure true := rfl
theorem size_set {Q : Nat → Shared → Prop} (R : SetX w s.heap a S n) (h : Q n s) : wpAny (model P w) A (Builtin.Frozenset.sizeOf a) Q E s := by
  obtain ⟨ob, es, ep, t, hob, ex, hd, T, hn⟩ := R
  unfold Builtin.Frozenset.sizeOf
  refine wpAny_bind (wpAny_setEntries_of hob hd T.fit (wpAny_pure ?_))
  rw [hn]
  exact h
theorem SetX.ty (R : SetX w s.heap a S n) : s.TypeIs (.ref a) "set" := by
  obtain ⟨ob, es, ep, t, hob, ex, hd, T, hn⟩ := R
  exact ⟨ob, hob, ex.1⟩
theorem full_of : ∀ {l m : List Str}, l.Nodup → (∀ x ∈ l, x ∈ m) → m.length ≤ l.length → ∀ x ∈ m, x ∈ l
  | [], m, _, _, hl, x, hx => by
    have : m = [] := List.eq_nil_of_length_eq_zero (Nat.le_zero.mp hl)
    rw [this] at hx
    cases hx
  | a :: l, m, nd, hs, hl, x, hx => by
    obtain ⟨n1, n2⟩ := List.nodup_cons.mp nd
    have am : a ∈ m := hs a List.mem_cons_self
    have le : (m.erase a).length ≤ l.length := by
      rw [List.length_erase_of_mem am]
      rw [List.length_cons] at hl
      omega
    by_cases e : x = a
    · exact e ▸ List.mem_cons_self
    · refine List.mem_cons_of_mem _ (full_of n2 (fun y hy => ?_) le x ((List.mem_erase_of_ne e).mpr hx))
      exact (List.mem_erase_of_ne fun u : y = a => n1 (u ▸ hy)).mpr (hs y (List.mem_cons_of_mem _ hy))
theorem walk_unseen {Q : List (Int × Value) → Shared → Prop} {ob ob' : Obj} {es es' : Array (Int × Value)} {ep ep' : Nat} {t t' : SetTable} (hob : s.heap.get? a = some ob) (hd : ob.data = .set es ep t) (T : Tbl w es t S)
    (hob' : s.heap.get? b = some ob') (hd' : ob'.data = .set es' ep' t') (T' : Tbl w es' t' S') (h : Q es.toList s) : wpAny (model P w) A (Builtin.Frozenset.walkUnseen a b) Q E s := by
  unfold Builtin.Frozenset.walkUnseen
  refine wpAny_bind (wpAny_setEntries_of hob hd T.fit ?_)
  refine wpAny_bind (wpAny_setEntries_of hob' hd' T'.fit ?_)
  refine wpAny_bind (wpAny_forIn_list _ (fun rest x s' => (∀ e ∈ rest, TxE w e) ∧ x.1 = none ∧ s' = s) _ ?_ ?_ _ _ ⟨fun e he => ?_, rfl, rfl⟩)
  · rintro ⟨h0, v⟩ rest x s' ⟨hr, hx, rfl⟩
    obtain ⟨z, q, e2, _⟩ := hr _ List.mem_cons_self
    have e2' : v = Value.str z q := e2
    subst e2'
    refine wpAny_bind (wpAny_of_eq quiet_txt ?_)
    exact wpAny_pure ⟨fun e he => hr e (List.mem_cons_of_mem _ he), rfl, rfl⟩
  · rintro ⟨x1, x2⟩ s' ⟨_, hx, rfl⟩
    have hx' : x1 = none := hx
    subst hx'
    exact wpAny_pure h
  · rcases List.mem_append.mp he with u | u
    · exact T.row e u
    · exact T'.row e u
theorem sub_set {id : String} {Q : Bool → Shared → Prop} (R : SetX w s.heap a S n) (R' : SetX w s.heap b S' m) (le : ¬ n > m) (done : ∀ k : Bool, (k = true ↔ ∀ z, S z = true → S' z = true) → Q k s) :
    wpAny (model P w) A (Builtin.Frozenset.subsetOf id a b) Q E s := by
  have Ra := R
  obtain ⟨ob, es, ep, t, hob, ex, hd, T, hn⟩ := R
  have R0 := R'
  obtain ⟨ob', es', ep', t', hob', ex', hd', T', hn'⟩ := R'
  unfold Builtin.Frozenset.subsetOf
  refine wpAny_bind (size_set Ra (wpAny_bind (size_set R0 ?_)))
  rw [if_neg le]
  refine wpAny_bind (wpAny_setEpoch_of hob hd T.fit ?_)
  refine wpAny_bind (walk_unseen hob hd T hob' hd' T' ?_)
  refine wpAny_bind (wpAny_forIn_list _ (fun rest x s' => (∃ pre, pre ++ rest = es.toList ∧ ∀ e ∈ pre, S' (txt e) = true) ∧ x.1 = none ∧ s' = s) _ ?_ ?_ _ _ ⟨⟨[], rfl, fun _ u => by cases u⟩, rfl, rfl⟩)
  · rintro ⟨h0, v⟩ rest x s' ⟨⟨pre, hp, ha⟩, hx, rfl⟩
    have hm : (h0, v) ∈ es.toList := by rw [← hp]; exact List.mem_append_right _ List.mem_cons_self
    obtain ⟨z, q, e2, e1⟩ := T.row _ hm
    have e2' : v = Value.str z q := e2
    have e1' : h0 = hashStr w z := e1
    subst e2' e1'
    have key : (PySem.strKind P w).is z (.str z q) = true := by
      show Value.isStrOf z (Value.str z q) = true
      simp [Value.isStrOf]
    refine wpAny_bind (wpAny_holding (wpAny_setFind_of (knd := PySem.strKind P w) key rfl R0.of fun r hr => ?_))
    cases r with
    | none =>
      have no : S' z = false := hr.symm
      refine wpAny_pure ?_
      exact wpAny_pure (done false ⟨fun u => (by cases u), fun h => (by
        have := h z ((T.mem z).2 (List.mem_map.mpr ⟨_, hm, rfl⟩))
        rw [no] at this
        cases this)⟩)
    | some j =>
      have yes : S' z = true := hr.symm
      rw [if_neg (by simp)]
      unfold Builtin.Frozenset.unchanged
      refine wpAny_bind (wpAny_bind (wpAny_setEpoch_of hob hd T.fit ?_))
      rw [if_neg (by simp)]
      refine wpAny_pure (wpAny_pure ⟨⟨pre ++ [(hashStr w z, Value.str z q)], by rw [List.append_assoc]; exact hp, fun e he => ?_⟩, rfl, rfl⟩)
      rcases List.mem_append.mp he with u | u
      · exact ha e u
      · rw [List.mem_singleton.mp u]
        exact yes
  · rintro ⟨x1, x2⟩ s' ⟨⟨pre, hp, ha⟩, hx, rfl⟩
    have hx' : x1 = none := hx
    subst hx'
    rw [List.append_nil] at hp
    subst hp
    refine wpAny_pure (done true ⟨fun _ z hz => ?_, fun _ => rfl⟩)
    obtain ⟨e, he, rfl⟩ := List.mem_map.mp ((T.mem z).1 hz)
    exact ha e he
theorem subt_sf : isSubtype (.type "set") (.type "frozenset") = pure false := by rw [isSubtype_type]; kernel_rfl
theorem eq_set {Q : Value → Shared → Prop} (R : SetX w s.heap a S n) (R' : SetX w s.heap b S' m) (hu : A.units < cLine) (done : ∀ k : Bool, (k = true ↔ ∀ z, S z = S' z) → Q (.bool k) s) :
    wpAny (model P w) A (compareOp .Eq (.ref a) (.ref b)) Q E s := by
  show wpAny (model P w) A (richCompare .Eq (.ref a) (.ref b)) Q E s
  refine wpAny_richCompare_same_room (op := .Eq) R.ty R'.ty F.slot_set_eq (wpAny_call_entry F.slot_set_eq R.ty entry_set_eq ?_ (F.args_set_eq_2 _ _)) hu
  unfold Builtin.«frozenset.__eq__»
  refine wpAny_bind (m := Builtin.Frozenset.slot1 "__eq__" _) (wpAny_of_eq (a := (Value.ref a, Value.ref b)) (by rfl) ?_)
  refine wpAny_bind (m := Builtin.Frozenset.isAnySet (.ref b)) (any_set R'.ty ?_)
  rw [if_neg (by simp)]
  refine wpAny_bind (wpAny_pure ?_)
  refine wpAny_bind (wpAny_pure ?_)
  refine wpAny_bind (size_set R ?_)
  refine wpAny_bind (size_set R' ?_)
  dsimp only
  refine wpAny_bind ?_
  have T := R
  have T' := R'
  obtain ⟨ob, es, ep, t, hob, ex, hd, T, hn⟩ := T
  obtain ⟨ob', es', ep', t', hob', ex', hd', T', hn'⟩ := T'
  have same_len : (∀ z, S z = S' z) → n = m := fun h => by
    have p : (es.toList.map txt).Perm (es'.toList.map txt) := (List.perm_ext_iff_of_nodup T.nd T'.nd).mpr fun z => by rw [← T.mem z, ← T'.mem z, h z]
    have := p.length_eq
    rw [List.length_map, List.length_map, Array.length_toList, Array.length_toList] at this
    omega
  by_cases e : n = m
  · rw [if_neg (by simp [e])]
    unfold andM
    refine wpAny_bind (wpAny_bind (wpAny_isInstance R.ty subt_sf ?_))
    refine wpAny_pure ?_
    rw [if_neg (by simp)]
    refine sub_set R R' (by omega) fun k hk => ?_
    refine wpAny_pure ⟨_, rfl, (fun u => nomatch u), done k (hk.trans ⟨fun h z => ?_, fun h z hz => (h z) ▸ hz⟩)⟩
    -- a subset as large as the whole is the whole
    have sub : ∀ y ∈ es.toList.map txt, y ∈ es'.toList.map txt := fun y hy => (T'.mem y).1 (h y ((T.mem y).2 hy))
    rw [Bool.eq_iff_iff, T.mem z, T'.mem z]
    exact ⟨sub z, full_of T.nd sub (by rw [List.length_map, List.length_map, Array.length_toList, Array.length_toList]; omega) z⟩
  · rw [if_pos (by simp [e])]
    refine wpAny_pure (wpAny_pure ⟨_, rfl, (fun u => nomatch u), done false ⟨fun u => (by cases u), fun h => absurd (same_len h) e⟩⟩)
end

/-! ### over the layer -/
def SetXO (w : World) (a : Addr) (S : Str → Bool) (n : Nat) : HO := .ext fun h => SetX w h a S n
section
variable {X : Cx}
theorem setXO_new {w : World} {P : Program} {H : Hp} {h : Heap} {a : Addr} {S : Str → Bool} {n : Nat} (R : SetX w h a S n) : ObjOk P w H h a (SetXO w a S n) := by
  have ⟨ob, _, _, _, hob, _⟩ := R
  exact ⟨R, ⟨ob, hob⟩, fun h1 h2 p k => p.move k⟩
theorem setXO_get {pins : List (Addr × Obj)} {σ : L2.St} {H : Hp} {s : Shared} {a : Addr} {S : Str → Bool} {n : Nat} (I : Inv X pins σ H s) (ha : H a = some (SetXO X.w a S n)) : SetX X.w s.heap a S n := (I.hok a _ ha).1
/-- set(t), t a tuple or a list of texts -/
def rSetX (K : PySem.W.Frag) (w : World) : List V → Hp → VK → Prop := fun xs H Q => ∃ (p : Addr) (zs : List Str), xs = [V.ref p] ∧ (SqT K H p (zs.map V.str) ∨ SqL K H p (zs.map V.str)) ∧ zs.length + 1 < scanBound ∧
  ∀ l c, c ≤ zs.length → H l = none → Q (.ref l) (upd H l (SetXO w l (fun y => decide (y ∈ zs)) c))
theorem cr_setX (hc : X.calm = true) : CallR X (.type "set") (rSetX X.K X.w) := by
  intro pins s σ H vs us Q I r h
  obtain ⟨p, zs, rfl, hs, few, q⟩ := h
  rw [Vals.ref1 r]
  have fin : ∀ (h' : Heap) (tk c : Nat), SetX X.w h' s.heap.objs.size (fun y => decide (y ∈ zs)) c → c ≤ zs.length → (∀ b o, s.heap.get? b = some o → h'.get? b = some o) → EP X pins σ Q (.ref s.heap.objs.size) { s with heap := h', toks := tk } := fun h' tk c R hc' kp =>
    ⟨.ref _, _, I.laid kp (Nat.le_refl _) (setXO_new R), rfl, q _ c hc' (I.hok.fresh (Nat.le_refl _))⟩
  rcases hs with hs | hs
  · obtain ⟨its, rv, pl, _⟩ := I.tuple hs
    exact call_setT zs (I.ok.hd hc) pl (by simpa using rv.strs) few fin
  · obtain ⟨its, rv, pl, _⟩ := I.list hs
    exact call_setL zs (I.ok.hd hc) pl.isList (by simpa using rv.strs) few fin
/-- sorted(found) -/
def rSortX (w : World) : List V → Hp → VK → Prop := fun vs H Q => ∃ (a : Addr) (S : Str → Bool) (n : Nat), vs = [V.ref a] ∧ H a = some (SetXO w a S n) ∧ n < 64 ∧
  ∀ (ys : List Str) (p : Addr), Asc ys → (∀ z, z ∈ ys ↔ S z = true) → ys.length = n → H p = none → Q (.ref p) (upd H p (.lst (ys.map V.str)))
theorem cr_sortX (hc : X.calm = true) : CallR X (.builtin "sorted") (rSortX X.w) := by
  intro pins s σ H vs us Q I r h
  obtain ⟨a, S, n, rfl, ha, few, q⟩ := h
  rw [Vals.ref1 r]
  refine sort_set (setXO_get I ha) (I.ok.hd hc) few fun s' p out c ys kp g o hp hg hi hA hm hl => ?_
  have len : (ys.map V.str).length ≤ sizeLine := by rw [List.length_map, hl, sizeLine_eq]; omega
  have hn : H p = none := I.hok.fresh hp
  have J : Inv X pins σ (upd H p (.lst (ys.map V.str))) { s with heap := s'.heap, gens := s'.gens, drawn := s'.drawn, toks := s'.toks } :=
    I.call (ch := []) (Un.laid kp hp hn) (I.hok.laid kp hp ⟨len, out.toList, c, vals_of_strs hi, hg⟩) (by rw [g]; exact I.bare) (fun _ z => nomatch z)
  have e : s' = { s with heap := s'.heap, gens := s'.gens, drawn := s'.drawn, toks := s'.toks } := by
    cases s'
    cases s
    cases o
    rfl
  rw [e]
  exact ⟨.ref p, _, J, rfl, q ys p hA hm hl hn⟩
/-- set(a) == set(b) -/
def rEqX (w : World) : R2 := fun x y H Q => ∃ (a b : Addr) (S S' : Str → Bool) (n m : Nat), x = V.ref a ∧ y = V.ref b ∧ H a = some (SetXO w a S n) ∧ H b = some (SetXO w b S' m) ∧ ∀ k : Bool, (k = true ↔ ∀ z, S z = S' z) → Q (.bl k) H
theorem op_eqX (hu : X.A.units < cLine) : OpR X (compareOp .Eq) (rEqX X.w) := by
  intro pins s σ H x y v u Q I rx ry h
  obtain ⟨a, b, S, S', n, m, rfl, rfl, ha, hb, q⟩ := h
  cases rx
  cases ry
  exact eq_set (setXO_get I ha) (setXO_get I hb) hu fun k hk => ⟨.bl k, H, I, rfl, q k hk⟩
/-- len(found) -/
theorem cr_lenX : CallR X (.builtin "len") (fun xs H Q => ∃ (a : Addr) (S : Str → Bool) (n : Nat), xs = [V.ref a] ∧ H a = some (SetXO X.w a S n) ∧ Q (.int n) H) := by
  intro pins s σ H vs us Q I r h
  obtain ⟨a, S, n, rfl, ha, q⟩ := h
  rw [Vals.ref1 r]
  obtain ⟨ob, es, ep, t, hob, ex, hd, T, hn⟩ := setXO_get I ha
  have big : (es.size : Int) < 2 ^ 63 := by
    have := fits_of_scanBound T.few
    rw [sizeLine_eq] at this
    omega
  refine call_len_set hob ex hd T.fit big ⟨.int n, H, I.tok _, ⟨s.toks + 1, ?_⟩, q⟩
  rw [hn]
end
end TxS
set_option Elab.async false
set_option linter.all false
set_option maxRecDepth 100000
set_option maxHeartbeats 2000000
/-! Operators of an own class: a | b, a == b, x in a, len(a), bool(a); C() and C(*xs) by a positional promise of __init__. -/
namespace LkO
open PySem PySem.Spec PyProof.Rows L2

/-- the class at C has the def at f under this name -/
structure OwnM (K : PySem.W.Frag) (C f : Addr) (name : Str) : Prop where
  at_ : PySem.W.findIn K (.ref C) name = some (some (.ref f))
  fn : PySem.W.isFn K (.ref f) = true

section
variable {X : Cx} {CX : CXT} {k : Nat} {C f : Addr} {fd : FuncData} {ps : List Str} {sp : Sp} {E : XK}
theorem back_of {pins : List (Addr × Obj)} {σ : L2.St} {Q : VK} {u : Value} {s' : Shared} (h : EP X pins σ Q u s') : PySem.W.CmpBack (EP X pins σ Q) u s' := by
  cases u with
  | notImplemented =>
    obtain ⟨v, H', I', rv, q⟩ := h
    cases v with
    | non => exact nomatch (show Value.notImplemented = Value.none from rv)
    | bl b => exact nomatch (show Value.notImplemented = Value.bool b from rv)
    | int i => obtain ⟨t, e⟩ := (show ∃ t, Value.notImplemented = Value.int i t from rv); exact nomatch e
    | str z => obtain ⟨t, e⟩ := (show ∃ t, Value.notImplemented = Value.str z t from rv); exact nomatch e
    | byt z => obtain ⟨t, e⟩ := (show ∃ t, Value.notImplemented = Value.bytes z t from rv); exact nomatch e
    | flt z => obtain ⟨t, e⟩ := (show ∃ t, Value.notImplemented = Value.float z t from rv); exact nomatch e
    | ref a => exact nomatch (show Value.notImplemented = Value.ref a from rv)
    | ty n => exact nomatch (show Value.notImplemented = Value.type n from rv)
  | _ => exact h
theorem inst_of {pins : List (Addr × Obj)} {σ : L2.St} {H : Hp} {s : Shared} {a dx : Addr} {fs : List (Str × V)} (I : Inv X pins σ H s) (h : H a = some (.ins C dx fs)) : ∃ od, PySem.W.InstAt s.heap a (PySem.W.instObj C dx) C od := by
  obtain ⟨mA, J, _⟩ := ins_get I.hok h
  obtain ⟨od, J, _⟩ := J.look
  exact ⟨_, J⟩
/-- both operands instances of C: the method's promise -/
def rOwn (C : Addr) (sp : Sp) (E : XK) : R2 := fun x y H Q => ∃ a dx fs b dy gs, x = .ref a ∧ y = .ref b ∧ H a = some (.ins C dx fs) ∧ H b = some (.ins C dy gs) ∧ sp [.ref a, .ref b] H Q E
theorem op_own {op : Operator} (hc : PySem.W.selfFirst X.K C = true) (m : OwnM X.K C f (PySem.dunder op.info.2)) (F : FnOk X.prog X.w X.K X.mg X.base CX k f fd ps sp) (hr : Room k X.A) (hb : Binds X.K fd ps []) (hx : Passes CX X E) :
    OpR X (binaryOp op) (rOwn C sp E) := by
  intro pins s σ H x y v u Q I rx ry h
  obtain ⟨a, dx, fs, b, dy, gs, rfl, rfl, ha, hb', q⟩ := h
  cases rx
  cases ry
  obtain ⟨od, J⟩ := inst_of I ha
  obtain ⟨od', J'⟩ := inst_of I hb'
  obtain ⟨m0, hF⟩ := I.fr
  exact PySem.W.binop_K hF I.ok.mod.kin J J'.type hc m.at_ m.fn (thn (run_fn (vs := [.ref a, .ref b]) F hr hb .nil hx I (.cons rfl (.cons rfl .nil)) q) fun w s' z => back_of z)
theorem op_ownEq (m : OwnM X.K C f "__eq__") (F : FnOk X.prog X.w X.K X.mg X.base CX k f fd ps sp) (hr : Room k X.A) (hb : Binds X.K fd ps []) (hx : Passes CX X E) : OpR X (compareOp .Eq) (rOwn C sp E) := by
  intro pins s σ H x y v u Q I rx ry h
  obtain ⟨a, dx, fs, b, dy, gs, rfl, rfl, ha, hb', q⟩ := h
  cases rx
  cases ry
  obtain ⟨od, J⟩ := inst_of I ha
  obtain ⟨od', J'⟩ := inst_of I hb'
  obtain ⟨m0, hF⟩ := I.fr
  exact PySem.W.cmp_K (op := .Eq) (tb := .ref C) hr.units0 hF I.ok.mod.kin J J'.type (by simp [PySem.W.notFirst]) m.at_ m.fn (thn (run_fn (vs := [.ref a, .ref b]) F hr hb .nil hx I (.cons rfl (.cons rfl .nil)) q) fun w s' z => back_of z)
/-- x in a -/
def rOwnIn (C : Addr) (sp : Sp) (E : XK) (neg : Bool) : R2 := fun x y H Q => ∃ a dx fs, y = .ref a ∧ H a = some (.ins C dx fs) ∧ sp [.ref a, x] H (fun v H' => ∃ c, v = .bl c ∧ Q (.bl (if neg then !c else c)) H') E
theorem op_ownIn (m : OwnM X.K C f "__contains__") (F : FnOk X.prog X.w X.K X.mg X.base CX k f fd ps sp) (hr : Room k X.A) (hb : Binds X.K fd ps []) (hx : Passes CX X E) : OpR X (compareOp .In) (rOwnIn C sp E false) := by
  intro pins s σ H x y v u Q I rx ry h
  obtain ⟨a, dx, fs, rfl, ha, q⟩ := h
  cases ry
  obtain ⟨od, J⟩ := inst_of I ha
  obtain ⟨m0, hF⟩ := I.fr
  refine PySem.W.in_K hF I.ok.mod.kin J m.at_ m.fn (thn (run_fn (vs := [.ref a, x]) F hr hb .nil hx I (.cons rfl (.cons rx .nil)) q) fun w s' z => ?_)
  obtain ⟨z0, H', I', rz, c, rfl, q'⟩ := z
  cases rz
  exact wpAny_truthy_bool ⟨.bl c, H', I', rfl, q'⟩
theorem op_ownNotIn (m : OwnM X.K C f "__contains__") (F : FnOk X.prog X.w X.K X.mg X.base CX k f fd ps sp) (hr : Room k X.A) (hb : Binds X.K fd ps []) (hx : Passes CX X E) : OpR X (compareOp .NotIn) (rOwnIn C sp E true) := by
  intro pins s σ H x y v u Q I rx ry h
  obtain ⟨a, dx, fs, rfl, ha, q⟩ := h
  cases ry
  obtain ⟨od, J⟩ := inst_of I ha
  obtain ⟨m0, hF⟩ := I.fr
  refine PySem.W.notIn_K hF I.ok.mod.kin J m.at_ m.fn (thn (run_fn (vs := [.ref a, x]) F hr hb .nil hx I (.cons rfl (.cons rx .nil)) q) fun w s' z => ?_)
  obtain ⟨z0, H', I', rz, c, rfl, q'⟩ := z
  cases rz
  exact wpAny_truthy_bool ⟨.bl (!c), H', I', rfl, q'⟩
/-- the callee runs one builtin deeper -/
theorem run_in1 {A : Around} {pins : List (Addr × Obj)} {σ : L2.St} {H : Hp} {s : Shared} {Q : VK} {us : List Value} {vs : List V} (F : FnOk X.prog X.w X.K X.mg X.base CX k f fd ps sp) (hr : Room k A) (fr : A.frames = X.A.frames) (hb : Binds X.K fd ps []) (hx : Passes CX X E)
    (I : Inv X pins σ H s) (r : Vals vs us) (h : sp vs H Q E) : wpAny (model X.prog X.w) A (call (.ref f) us) (EP X pins σ Q) X.xe s := by
  have hl : us.length = ps.length := by rw [← r.length]; exact F.len _ _ _ _ h
  have e0 : Env0 X.prog X.w X.K X.mg X.base A X.stack s H := by
    have e := I.env0
    exact ⟨by rw [fr]; exact e.frames, e.mod, e.bs, e.bsz, e.funs, e.frf, e.hok, e.bare⟩
  refine wpAny_call (codeAny_mono (F.run A X.stack s H ⟨us, []⟩ us vs Q E hr e0 (by simpa using hb s us I.kIn (by simpa using hl)) r h) fun r s' hq => ?_)
  cases r with
  | error e => exact hx pins σ H s e s' I hq
  | ok fl =>
    cases fl with
    | ret u => exact I.after hq
    | next => exact False.elim hq
    | brk => exact False.elim hq
    | cont => exact False.elim hq
/-- len(a) -/
def rOwnLen (C : Addr) (sp : Sp) (E : XK) (g : Nat → V) : List V → Hp → VK → Prop := fun xs H Q => ∃ a dx fs, xs = [.ref a] ∧ H a = some (.ins C dx fs) ∧ sp [.ref a] H (fun v H' => ∃ n : Nat, v = .int n ∧ n ≤ sizeLine ∧ Q (g n) H') E
theorem cr_ownLen (m : OwnM X.K C f "__len__") (F : FnOk X.prog X.w X.K X.mg X.base CX k f fd ps sp) (hr : Room (k + 1) X.A) (hb : Binds X.K fd ps []) (hx : Passes CX X E) : CallR X (.builtin "len") (rOwnLen C sp E fun n => .int n) := by
  intro pins s σ H xs us Q I r h
  obtain ⟨a, dx, fs, rfl, ha, q⟩ := h
  rw [Vals.ref1 r]
  obtain ⟨od, J⟩ := inst_of I ha
  obtain ⟨m0, hF⟩ := I.fr
  refine PySem.W.len_K hF I.ok.mod.kin J m.at_ m.fn (thn (run_in1 (vs := [.ref a]) F hr.in1 rfl hb hx I (.cons rfl .nil) q) fun w s' z => ?_)
  obtain ⟨z0, H', I', rz, n, rfl, hn, q'⟩ := z
  obtain ⟨t, rfl⟩ := rz
  have hl := line63
  exact ⟨⟨by omega, by omega⟩, .int n, H', I'.tok _, ⟨_, rfl⟩, q'⟩
/-- a's truth, by __len__ alone -/
theorem own_truth {A : Around} {pins : List (Addr × Obj)} {σ : L2.St} {H : Hp} {s : Shared} {a dx : Addr} {fs : List (Str × V)} {Q : Bool → Hp → Prop} (nb : PySem.W.findIn X.K (.ref C) "__bool__" = some none) (m : OwnM X.K C f "__len__")
    (F : FnOk X.prog X.w X.K X.mg X.base CX k f fd ps sp) (hr : Room (k + 1) A) (fr : A.frames = X.A.frames) (hb : Binds X.K fd ps []) (hx : Passes CX X E) (I : Inv X pins σ H s) (ha : H a = some (.ins C dx fs))
    (h : sp [.ref a] H (fun v H' => ∃ n : Nat, v = .int n ∧ n ≤ sizeLine ∧ Q (n != 0) H') E) : wpAny (model X.prog X.w) A (truthy (.ref a)) (TP X pins σ Q) X.xe s := by
  obtain ⟨od, J⟩ := inst_of I ha
  obtain ⟨m0, hF⟩ := I.fr
  have kin := I.kIn
  have key : wpAny (model X.prog X.w) A (runValue (.builtin "len" ⟨[.ref a], []⟩)) (fun r s' => ∃ (n : Nat) (t : Tok), r = .int n t ∧ TP X pins σ Q (n != 0) s') X.xe s := by
    refine wpAny_runValue (codeAny_builtin entry_len ?_)
    rw [Around.under_plainId plain_len _]
    unfold Builtin.«len»
    refine wpAny_bind (m := oneArg "len" _) (wpAny_pure ?_)
    refine wpAny_bind (m := callSpecial? (.ref a) (Str.ofString "__len__")) (PySem.W.special_fn kin J m.at_ (beq_iff_eq.mp m.fn) (thn (run_in1 (vs := [.ref a]) F hr.in1 fr hb hx I (.cons rfl .nil) h) fun w s' z => ?_))
    obtain ⟨z0, H', I', rz, n, rfl, hn, q'⟩ := z
    obtain ⟨t, rfl⟩ := rz
    have hl := line63
    refine wpAny_bind (wpAny_holding (wpAny_pure ?_))
    refine wpAny_bind (wpAny_letGo ?_)
    rw [if_neg (by omega)]
    rw [if_neg (by omega)]
    exact wpAny_bind (wpAny_mkInt (wpAny_pure ⟨n, _, rfl, H', I'.tok _, q'⟩))
  unfold truthy
  refine wpAny_bind (m := callSpecial? (.ref a) (Str.ofString "__bool__")) (wpAny_bind (wpAny_bind (J.type.here ((PySem.W.looks_findIn kin nb).here (wpAny_pure ?_)))))
  refine wpAny_bind (wpAny_bind (J.type.here ((PySem.W.looks_findIn kin m.at_).here ?_)))
  refine wpAny_bind (thn key fun r s' z => ?_)
  obtain ⟨n, t, rfl, q⟩ := z
  refine wpAny_pure ?_
  have e : ((n : Int) != 0) = (n != 0) := by
    cases n <;> rfl
  rw [e]
  exact q
theorem cr_ownBool (nb : PySem.W.findIn X.K (.ref C) "__bool__" = some none) (m : OwnM X.K C f "__len__") (F : FnOk X.prog X.w X.K X.mg X.base CX k f fd ps sp) (hr : Room (k + 4) X.A) (hb : Binds X.K fd ps []) (hx : Passes CX X E) :
    CallR X (.type "bool") (rOwnLen C sp E fun n => .bl (n != 0)) := by
  intro pins s σ H xs us Q I r h
  obtain ⟨a, dx, fs, rfl, ha, q⟩ := h
  rw [Vals.ref1 r]
  refine callType_newIn (S := fun A' R s' => A' = X.A.in1 ∧ s' = s ∧ (∀ b s2, TP X pins σ (fun b H' => Q (.bl b) H') b s2 → R (.ok (.ret (.bool b))) s2) ∧ ∀ e s2, X.xe e s2 → R (.error e) s2) PySem.F.called_bool PySem.F.newNe_bool (PySem.F.typeCall_bool_1 _) (PySem.F.newCall_bool_1 _) (fun obj => PySem.F.args_object_init_2 obj _) PySem.F.entry_bool_new (fun A' R s' hS => ?_) ?_
  · obtain ⟨rfl, rfl, h1, h2⟩ := hS
    unfold Builtin.«bool.__new__»
    refine wpAny_bind (m := isType (Value.type "bool")) (wpAny_of_eq (a := true) (by rfl) ?_)
    dsimp only
    rw [if_neg (by simp)]
    refine wpAny_bind (wpAny_of_eq PySem.F.conv_sub_bool ?_)
    rw [if_neg (by simp)]
    refine wpAny_bind (wpAny_of_eq (a := [Value.ref a]) (by rfl) ?_)
    dsimp only
    refine wpAny_bind (wpAny_mono (own_truth (A := X.A.in1.in1) (Q := fun b H' => Q (.bl b) H') nb m F (hr.in1.in1.mono (by omega)) rfl hb hx I ha q) (fun b s2 z => ?_) fun e s2 z => h2 e s2 z)
    exact wpAny_pure (h1 b s2 z)
  · exact ⟨rfl, rfl, fun b s2 z => ⟨PySem.typeIs_bool _ _, let ⟨H', I', q'⟩ := z; ⟨.bl b, H', I', rfl, q'⟩⟩, fun e s2 z => z⟩
end

/-! ### C(), C(*xs) -/
section
variable {X : Cx} {CX : CXT} {k : Nat} {f C : Addr} {sp : Sp} {E : XK} {x : Str} {e : Expr} {te : TE} {p sp_ pos : Pos}
theorem pe_makeR0 (M : Mk X.K C f) (F : FnR X.prog X.w X.K X.mg X.base CX k f sp) (hr : Room (k + 1) X.A) (hg : Gl X x) (hm : X.mg x = some (.ref C)) (hx : Passes CX X E) (hdb : (x == ("__debug__" : Str)) = false := by decide) :
    PE X (.Call (.Name x p) [] [] pos) (StX.tMakeR C sp E tNil) := by
  refine ⟨fun pins s σ H Q I h => ?_⟩
  refine wpAny_Call_Name_kw (ld_glob I hg hm ?_ hdb)
  exact PySem.W.callWith_K0 I.kIn M.kp (StX.run_makeR (us := []) M F hr hx I .nil h)
def tMakeS (K : PySem.W.Frag) (C : Addr) (sp : Sp) (E : XK) (te : TE) : TE := fun σ H Q => te σ H fun y H1 => ∃ a xs, y = V.ref a ∧ (SqT K H1 a xs ∨ SqL K H1 a xs) ∧ ∀ x dx, H1 x = Option.none → H1 dx = Option.none → dx ≠ x →
  sp (V.ref x :: xs) (upd (upd H1 dx (.own x)) x (.ins C dx [])) (fun v H2 => v = .non ∧ Q (.ref x) H2) E
theorem pe_makeS (M : Mk X.K C f) (F : FnR X.prog X.w X.K X.mg X.base CX k f sp) (hr : Room (k + 1) X.A) (hg : Gl X x) (hm : X.mg x = some (.ref C)) (hx : Passes CX X E) (he : PE X e te) (hd : (x == ("__debug__" : Str)) = false := by decide)
    (hst : starEach [.Starred e sp_] X.env = [(true, eval e X.env)] := by rfl) : PE X (.Call (.Name x p) [.Starred e sp_] [] pos) (tMakeS X.K C sp E te) := by
  refine ⟨fun pins s σ H Q I h => ?_⟩
  refine wpAny_Call_Name_kw (ld_glob I hg hm ?_ hd)
  refine PySem.W.callWith_S (h₀ := X.base) I.ok.mod.kin M.kp (thn (he.run pins s σ H _ I h) fun v s1 ⟨y, H1, I1, ry, a, xs, ey, hxs, q⟩ => ?_) hst
  subst ey
  obtain rfl : v = Value.ref a := ry
  exact StX.star_any I1 hxs fun us s2 I2 rv => ⟨I2.kIn, StX.run_makeR M F hr hx I2 rv q⟩
end
end LkO
set_option Elab.async false
set_option linter.all false
set_option maxRecDepth 100000
set_option maxHeartbeats 2000000
/-! What the program's defs share: names, lists of texts as data, heaps that grew, comprehensions. -/
namespace Lk
open PySem PySem.Spec PyProof.Rows L2 TxS LkO

/-! ### names -/
def abc : Str := "abcdefghijklmnopqrstuvwxyz"
def lettersOk (z : Str) : Bool := z.cps.toList.all fun c => decide (c ∈ abc.cps.toList)
def isNm (z : Str) : Bool := (decide (1 ≤ z.length) && decide (z.length ≤ 8)) && lettersOk z
theorem nm_len {z : Str} (h : isNm z = true) : z.length ≤ 8 := by
  unfold isNm at h
  simp only [Bool.and_eq_true, decide_eq_true_eq] at h
  exact h.1.2
theorem nm_line {z : Str} (h : isNm z = true) : z.length ≤ sizeLine := Nat.le_trans (nm_len h) (by rw [sizeLine_eq]; decide)
theorem abc_small : abc.cps.toList.all (fun c => decide (c < 128)) = true := by decide +kernel
theorem nm_ok {z : Str} (h : isNm z = true) : PyData.strOk z = true := by
  have l8 := nm_len h
  unfold isNm at h
  simp only [Bool.and_eq_true] at h
  have h2 := h.2
  unfold lettersOk at h2
  have small : ∀ c ∈ z.cps.toList, c < 128 := fun c hc => by
    have := List.all_eq_true.mp h2 c hc
    exact of_decide_eq_true (List.all_eq_true.mp abc_small c (of_decide_eq_true this))
  unfold PyData.strOk
  rw [← Array.all_toList]
  refine List.all_eq_true.mpr fun c hc => decide_eq_true ?_
  have := small c hc
  omega

/-! ### heaps that grew -/
theorem same_new {H : Hp} {p : Addr} {o : HO} (h : H p = none) : Same H (upd H p o) := fun b x e => by
  rw [upd_ne (ne_of_none e h)]
  exact e
theorem Same.up {H H1 : Hp} {p : Addr} {o : HO} (s : Same H H1) (h : H p = none) : Same H (upd H1 p o) := fun b x e => by
  rw [upd_ne (ne_of_none e h)]
  exact s b x e
theorem Same.tup {K : PySem.W.Frag} {H H' : Hp} {a : Addr} {xs : List V} (e : Same H H') (h : SqT K H a xs) : SqT K H' a xs := by
  rcases h with (h | ⟨o, h⟩) | h
  · exact .inl (.inl (e _ _ h))
  · exact .inl (.inr ⟨o, e _ _ h⟩)
  · exact .inr h
/-- a list or a tuple -/
def Sq (K : PySem.W.Frag) (H : Hp) (a : Addr) (xs : List V) : Prop := SqL K H a xs ∨ SqT K H a xs
theorem Same.sq {K : PySem.W.Frag} {H H' : Hp} {a : Addr} {xs : List V} (e : Same H H') (h : Sq K H a xs) : Sq K H' a xs := h.imp e.seq (Same.tup e)
/-- all of H stands, and a list of xs stands at D -/
def Grow (H : Hp) (D : Addr) (xs : List V) (H' : Hp) : Prop := Same H H' ∧ H' D = some (.lst xs)
theorem grow0 {H : Hp} {D : Addr} (n : H D = none) : Grow H D [] (upd H D (.lst [])) := ⟨same_new n, upd_same⟩
/-- one more item in a comprehension's list -/
theorem grow1 {H H4 : Hp} {D : Addr} {acc acc' : List V} {y : V} (n : H D = none) (g : Grow H D acc H4) (l : acc.length < sizeLine) (e : acc' = acc ++ [y]) :
    ∃ acc, H4 D = some (.lst acc) ∧ acc.length < sizeLine ∧ Grow H D acc' (upd H4 D (.lst (acc ++ [y]))) := ⟨acc, g.2, l, Same.up g.1 n, by rw [upd_same, e]⟩
theorem Grow.more {H H1 H2 : Hp} {D : Addr} {xs : List V} (g : Grow H D xs H1) (s : Same H1 H2) : Grow H D xs H2 := ⟨g.1.trans s, s _ _ g.2⟩
theorem take_next {α β : Type} {f : α → β} {l : List α} {i : Nat} {x : α} (h : l[i]? = some x) : (l.map f).take (i + 1) = (l.map f).take i ++ [f x] := by
  rw [List.take_add_one, List.getElem?_map, h]
  rfl
theorem take_next1 {α : Type} {l : List α} {i : Nat} {x : α} (h : l[i]? = some x) : l.take (i + 1) = l.take i ++ [x] := by
  rw [List.take_add_one, h]
  rfl
theorem at_map {α β : Type} {f : α → β} {l : List α} {i : Nat} {y : β} (h : (l.map f)[i]? = some y) : ∃ x, l[i]? = some x ∧ y = f x := by
  rw [List.getElem?_map] at h
  cases q : l[i]? with
  | none =>
    rw [q] at h
    cases h
  | some x =>
    rw [q] at h
    exact ⟨x, rfl, (Option.some.inj h).symm⟩

/-! ### texts as data -/
theorem flat_strs (zs : List Str) : (zs.map V.str).all flatV = true := by
  rw [List.all_map]
  exact List.all_eq_true.mpr fun _ _ => rfl
theorem inV_str (z : Str) : ∀ zs : List Str, inV (.str z) (zs.map V.str) = decide (z ∈ zs)
  | [] => rfl
  | y :: r => by
    have ih := inV_str z r
    unfold inV at ih ⊢
    rw [List.map_cons, List.any_cons, ih]
    show ((y == z) || decide (z ∈ r)) = decide (z ∈ y :: r)
    by_cases e : y = z
    · subst e
      simp
    · have e1 : (y == z) = false := beq_eq_false_iff_ne.mpr e
      rw [e1]
      simp [Ne.symm e]
theorem eqvAll_strs : ∀ zs ws : List Str, PyData.eqvAll (zs.map PyData.str) (ws.map PyData.str) = decide (zs = ws)
  | [], [] => by simp [PyData.eqvAll]
  | [], _ :: _ => by simp [PyData.eqvAll]
  | _ :: _, [] => by simp [PyData.eqvAll]
  | z :: r, y :: q => by
    simp only [List.map_cons, PyData.eqvAll, PyData.eqv, eqvAll_strs r q]
    by_cases h : z = y <;> simp [h]
theorem canLay_strs : ∀ zs : List Str, (∀ z ∈ zs, PyData.strOk z = true) → PyData.canLayAll0 (zs.map PyData.str) = true
  | [], _ => by simp [PyData.canLayAll0]
  | z :: r, h => by simp [PyData.canLayAll0, PyData.canLay0, h z List.mem_cons_self, canLay_strs r fun y hy => h y (List.mem_cons_of_mem _ hy)]
theorem depth_strs : ∀ zs : List Str, PyData.depthAll (zs.map PyData.str) ≤ 1
  | [] => by simp [PyData.depthAll]
  | z :: r => by
    have := depth_strs r
    simp only [List.map_cons, PyData.depthAll, PyData.depth]
    omega
theorem shaped_strsL {zs : List Str} (h : ∀ z ∈ zs, PyData.strOk z = true) : SeqAt.shaped (.list (zs.map PyData.str)) = true := by
  have h1 := depth_strs zs
  have h2 : PyData.depth (.list (zs.map PyData.str)) ≤ 64 := by simp only [PyData.depth]; omega
  show (PyData.canLay0 _ && decide _) = true
  rw [Bool.and_eq_true]
  exact ⟨by simp only [PyData.canLay0]; exact canLay_strs zs h, decide_eq_true h2⟩
theorem shaped_strsT {zs : List Str} (h : ∀ z ∈ zs, PyData.strOk z = true) : SeqAt.shaped (.tuple (zs.map PyData.str)) = true := by
  have h1 := depth_strs zs
  have h2 : PyData.depth (.tuple (zs.map PyData.str)) ≤ 64 := by simp only [PyData.depth]; omega
  show (PyData.canLay0 _ && decide _) = true
  rw [Bool.and_eq_true]
  exact ⟨by simp only [PyData.canLay0]; exact canLay_strs zs h, decide_eq_true h2⟩
theorem dp_strs {K : PySem.W.Frag} {H : Hp} : ∀ zs : List Str, DpAll K H (zs.map V.str) (zs.map PyData.str)
  | [] => .nil
  | z :: r => .cons (.str z) (dp_strs r)
end Lk
set_option Elab.async false
set_option linter.all false
set_option maxRecDepth 100000
set_option maxHeartbeats 2000000
/-! Generators that hand out fresh tuples, walked by a comprehension. -/
namespace LkG
open PySem PySem.Spec PyProof.Rows L2 TxS LkO Lk GenW
open Sem (wp)

/-! ### trees without a call -/
def Calm {α : Type} : Sem α → Prop
  | .pure _ => True
  | .raise _ => True
  | .unsupported _ => True
  | .finish _ => True
  | .rule _ k => Calm (k ())
  | .at _ k => Calm (k ())
  | .load _ _ k => ∀ o, Calm (k o)
  | .update _ _ _ k => Calm (k ())
  | .loadIfAlive _ k => ∀ o, Calm (k o)
  | .point _ k => Calm (k ())
  | .register _ _ => True
  | .alloc _ k => ∀ a, Calm (k a)
  | .fresh k => ∀ t, Calm (k t)
  | .ask k => ∀ x, Calm (k x)
  | .choose _ _ k => ∀ n, Calm (k n)
  | .os _ _ k => ∀ r, Calm (k r)
  | .handled _ k => ∀ r, Calm (k r)
  | .genState _ k => ∀ r, Calm (k r)
  | .stack k => ∀ r, Calm (k r)
  | .thread k => ∀ r, Calm (k r)
  | .fork _ _ => True
  | .await _ _ _ _ _ => True
  | .yield _ _ _ _ => True
  | .call _ _ _ _ _ => False
  | .newGen _ _ => False
  | .resume _ _ _ _ => False
/-- such a tree has one end -/
theorem wp_both {α : Type} (M : Model) (Γ : PySem.Ctx) (t : Sem α) : ∀ (Q Q' : α → Pos → Shared → Prop) (E E' : Value → Pos → Shared → Prop) (p : Pos) (s : Shared), Calm t → wp M Γ t Q E p s → wp M Γ t Q' E' p s →
    wp M Γ t (fun a p' s' => Q a p' s' ∧ Q' a p' s') (fun e p' s' => E e p' s' ∧ E' e p' s') p s := by
  induction t with
  | pure a => intro Q Q' E E' p s _ h h'; exact ⟨h, h'⟩
  | raise e => intro Q Q' E E' p s _ h h'; exact ⟨h, h'⟩
  | unsupported _ => intro Q Q' E E' p s _ h _; exact h
  | finish _ => intro Q Q' E E' p s _ h _; exact h
  | rule _ k ih => intro Q Q' E E' p s c h h'; exact ih () Q Q' E E' p s c h h'
  | «at» p' k ih => intro Q Q' E E' p s c h h'; exact ih () Q Q' E E' p' s c h h'
  | load a _ k ih =>
    intro Q Q' E E' p s c h h'
    obtain ⟨o, ho, h⟩ := h
    obtain ⟨o', ho', h'⟩ := h'
    rw [ho] at ho'
    cases ho'
    exact ⟨o, ho, ih o Q Q' E E' p s (c o) h h'⟩
  | update a _ f k ih => intro Q Q' E E' p s c h h'; exact ⟨h.1, ih () Q Q' E E' p _ c h.2 h'.2⟩
  | loadIfAlive a k ih => intro Q Q' E E' p s c h h'; exact ih _ Q Q' E E' p s (c _) h h'
  | point _ k ih => intro Q Q' E E' p s c h h'; exact ih () Q Q' E E' p s c h h'
  | register _ _ => intro Q Q' E E' p s _ h _; exact h
  | alloc o k ih => intro Q Q' E E' p s c h h'; exact ih _ Q Q' E E' p _ (c _) h h'
  | fresh k ih => intro Q Q' E E' p s c h h'; exact ih _ Q Q' E E' p _ (c _) h h'
  | ask k ih => intro Q Q' E E' p s c h h'; exact ih _ Q Q' E E' p s (c _) h h'
  | choose src m k ih => intro Q Q' E E' p s c h h'; exact ⟨h.1, ih _ Q Q' E E' p _ (c _) h.2 h'.2⟩
  | os q _ k ih => intro Q Q' E E' p s c h h'; exact ih _ Q Q' E E' p _ (c _) h h'
  | call _ _ _ _ _ _ => intro Q Q' E E' p s c _ _; exact c.elim
  | handled own k ih => intro Q Q' E E' p s c h h'; exact ih _ Q Q' E E' p s (c _) h h'
  | genState g k ih =>
    intro Q Q' E E' p s c h h'
    obtain ⟨o, ho, h⟩ := h
    obtain ⟨o', ho', h'⟩ := h'
    rw [ho] at ho'
    cases ho'
    exact ⟨o, ho, ih _ Q Q' E E' p s (c _) h h'⟩
  | newGen _ _ _ => intro Q Q' E E' p s c _ _; exact c.elim
  | resume _ _ _ _ _ => intro Q Q' E E' p s c _ _; exact c.elim
  | yield _ _ _ _ => intro Q Q' E E' p s _ h _; exact h
  | stack k ih => intro Q Q' E E' p s c h h'; exact ih _ Q Q' E E' p s (c _) h h'
  | fork _ _ => intro Q Q' E E' p s _ h _; exact h
  | thread k ih => intro Q Q' E E' p s c h h'; exact ih _ Q Q' E E' p s (c _) h h'
  | await _ _ _ _ _ => intro Q Q' E E' p s _ h _; exact h
theorem wpAny_both {α : Type} {M : Model} {A : Around} {t : Sem α} {Q Q' : α → Shared → Prop} {E E' : Value → Shared → Prop} {s : Shared} (c : Calm t) (h : wpAny M A t Q E s) (h' : wpAny M A t Q' E' s) :
    wpAny M A t (fun a s' => Q a s' ∧ Q' a s') (fun e s' => E e s' ∧ E' e s') s := fun Γ p hΓ => wp_both M Γ t _ _ _ _ p s c (h Γ p hΓ) (h' Γ p hΓ)
theorem calm_nsSet (a : Addr) (name : Str) (v : Value) : Calm (nsSet a name v) := by
  unfold nsSet
  intro x t o
  show Calm (match o.data with | .dict es _ => _ | _ => _)
  split
  · show Calm (if _ then _ else _)
    split
    · trivial
    · trivial
  · trivial
end LkG
set_option Elab.async false
set_option linter.all false
set_option maxRecDepth 100000
set_option maxHeartbeats 2000000
namespace LkG
open PySem PySem.Spec PyProof.Rows L2 TxS LkO Lk GenW
open Sem (wp)
/-- nothing but tokens moved -/
structure Qt (s s' : Shared) : Prop where
  gens : s'.gens = s.gens
  heap : s'.heap = s.heap
theorem Qt.refl (s : Shared) : Qt s s := ⟨rfl, rfl⟩
theorem Qt.trans {s s1 s2 : Shared} (a : Qt s s1) (b : Qt s1 s2) : Qt s s2 := ⟨b.gens.trans a.gens, b.heap.trans a.heap⟩
theorem thq {α : Type} {M : Model} {A : Around} {E : Value → Shared → Prop} {t : Sem α} {Q Q' : α → Shared → Prop} {s : Shared} (h : wpAny M A t Q (fun _ _ => False) s) (k : ∀ a s', Q a s' → Q' a s') : wpAny M A t Q' E s :=
  wpAny_mono h k fun _ _ z => z.elim
/-- an expression that only reads -/
structure QE (X : Cx) (e : Expr) (t : TE) : Prop where
  run : ∀ (pins : List (Addr × Obj)) (s : Shared) (σ : L2.St) (H : Hp) (Q : VK), Inv X pins σ H s → t σ H Q → wpAny (model X.prog X.w) X.A (eval e X.env) (fun u s' => EP X pins σ Q u s' ∧ Qt s s') (fun _ _ => False) s
/-- a test that only reads -/
structure QT (X : Cx) (e : Expr) (t : TT) : Prop where
  run : ∀ (pins : List (Addr × Obj)) (s : Shared) (σ : L2.St) (H : Hp) (Q : Bool → Hp → Prop), Inv X pins σ H s → t σ H Q → wpAny (model X.prog X.w) X.A (isTrue e X.env (eval e X.env)) (fun b s' => TP X pins σ Q b s' ∧ Qt s s') (fun _ _ => False) s
section
variable {X : Cx} {pos : Pos}
theorem qe_var {i : Nat} {x : Str} (hN : X.N[i]? = some x) (vis : Vis X.env.scope x) (nd : (x == ("__debug__" : Str)) = false := by decide) (nc : (x == ("__classdict__" : Str)) = false := by decide) : QE X (.Name x pos) (tVar i) := by
  refine ⟨fun pins s σ H Q I ⟨v, e, q⟩ => ?_⟩
  obtain ⟨m, ns, look⟩ := I.loc
  obtain ⟨u, ru, l⟩ := look i x v hN e vis
  have done : EP X pins σ Q u s ∧ Qt s s := ⟨⟨v, H, I, ru, q⟩, Qt.refl s⟩
  rcases l with ⟨kd, at_⟩ | ⟨kd | kd, c, hc, cell⟩
  · exact wpAny_Name (wpAny_loadName_local I.ok.kind kd ns at_ done) nd
  · exact wpAny_Name (wpAny_loadName_cell I.ok.kind kd hc cell done) nd
  · exact wpAny_Name (wpAny_loadName_free I.ok.kind kd hc cell done nc) nd
theorem qe_fld {e : Expr} {f : Str} {ta : TE} (he : QE X e ta) (hb : attributeBase e f X.env (eval e X.env) = eval e X.env) : QE X (.Attribute e f pos) (tFld X.K ta f) := by
  refine ⟨fun pins s σ H Q I h => attr_of hb (thq (he.run pins s σ H _ I h) fun u s1 z => ?_)⟩
  obtain ⟨⟨x, H1, I1, rx, a, C, dx, fs, v, rfl, ea, c, n, l, q⟩, k1⟩ := z
  obtain rfl : u = Value.ref a := rx
  obtain ⟨mA, ob, rel, _⟩ := ins_get I1.hok ea
  obtain ⟨y, hy, ry⟩ := RelO.some_of (v := v) (o := mA f) (by rw [← l]; exact rel f)
  exact get_map I1.kIn ob (c.get f) c.hd n hy (handed_of ry) ⟨⟨v, H1, I1.tok _, ry, q⟩, k1.trans ⟨rfl, rfl⟩⟩
/-- x in a list of texts -/
def rInL (K : PySem.W.Frag) (neg : Bool) : R2 := fun x y H Q => ∃ p xs, y = .ref p ∧ SqL K H p xs ∧ flatV x = true ∧ xs.all flatV = true ∧ Q (.bl (if neg then !inV x xs else inV x xs)) H
theorem qt_in {a b : Expr} {ta tb : TE} (ha : QE X a ta) (hb : QE X b tb) (hm : behindInMarks .In b = false) : QT X (.Compare a [.In] [b] pos) (tTest (tOp (rInL X.K false) ta tb)) := by
  refine ⟨fun pins s σ H Q I h => wpAny_isTrue_Compare1 (thq (ha.run pins s σ H _ I h) fun v s1 ⟨⟨x, H1, I1, rx, q1⟩, k1⟩ => thq (hb.run pins s1 σ H1 _ I1 q1) fun u s2 ⟨⟨y, H2, I2, ry, q2⟩, k2⟩ => ?_) hm⟩
  obtain ⟨p, xs, rfl, hp, fx, fs, k, e, q⟩ := q2
  cases ry
  obtain ⟨its, r, pl, _⟩ := I2.list hp
  refine SeqAt.in_listAt (eqU x) pl.isList (fun w hw => mem_eqAt rx fx r fs w (by simpa using hw)) ?_
  have e1 : its.toArray.any (eqU x) = inV x xs := by
    rw [show its.toArray.any (eqU x) = its.any (eqU x) from by simp, any_eqU r fs]
    rfl
  rw [e1]
  injection e with e2
  rw [show inV x xs = k from e2]
  exact wpAny_truthy_bool ⟨⟨H2, I2, q⟩, k1.trans k2⟩
theorem qt_notIn {a b : Expr} {ta tb : TE} (ha : QE X a ta) (hb : QE X b tb) (hm : behindInMarks .NotIn b = false) : QT X (.Compare a [.NotIn] [b] pos) (tTest (tOp (rInL X.K true) ta tb)) := by
  refine ⟨fun pins s σ H Q I h => wpAny_isTrue_Compare1 (thq (ha.run pins s σ H _ I h) fun v s1 ⟨⟨x, H1, I1, rx, q1⟩, k1⟩ => thq (hb.run pins s1 σ H1 _ I1 q1) fun u s2 ⟨⟨y, H2, I2, ry, q2⟩, k2⟩ => ?_) hm⟩
  obtain ⟨p, xs, rfl, hp, fx, fs, k, e, q⟩ := q2
  cases ry
  obtain ⟨its, r, pl, _⟩ := I2.list hp
  refine SeqAt.notIn_listAt (eqU x) pl.isList (fun w hw => mem_eqAt rx fx r fs w (by simpa using hw)) ?_
  have e1 : its.toArray.any (eqU x) = inV x xs := by
    rw [show its.toArray.any (eqU x) = its.any (eqU x) from by simp, any_eqU r fs]
    rfl
  rw [e1]
  injection e with e2
  rw [show (!inV x xs) = k from e2]
  exact wpAny_truthy_bool ⟨⟨H2, I2, q⟩, k1.trans k2⟩
theorem qt_val {e : Expr} {t : TE} (h : QE X e t) (he : ∀ whole, isTrue e X.env whole = (do let v ← whole; standAt e.pos; holding [v] (truthy v)) := by intro _; rfl) : QT X e (tTest t) := by
  refine ⟨fun pins s σ H Q I z => isTrue_plain (thq (h.run pins s σ H _ I z) fun v s1 ⟨⟨x, H1, I1, rx, k, e, q⟩, k1⟩ => ?_) (he _)⟩
  subst e
  cases rx
  exact wpAny_truthy_bool ⟨⟨H1, I1, q⟩, k1⟩
theorem qt_and {a b : Expr} {ta tb : TT} (ha : QT X a ta) (hb : QT X b tb) : QT X (.BoolOp .And [a, b] pos) (tAnd ta tb) := by
  refine ⟨fun pins s σ H Q I h => isTrue_and (thq (ha.run pins s σ H _ I h) fun c s1 ⟨⟨H1, I1, q1⟩, k1⟩ => ?_)⟩
  cases c with
  | false => exact ⟨⟨H1, I1, q1⟩, k1⟩
  | true =>
    refine isTrue_and (thq (hb.run pins s1 σ H1 _ I1 q1) fun d s2 ⟨z, k2⟩ => ?_)
    cases d with
    | false => exact ⟨z, k1.trans k2⟩
    | true => exact isTrue_and_nil ⟨z, k1.trans k2⟩
/-- a pair of two such values: one new tuple -/
theorem run_pair {a b : Expr} {x1 : Nat} {ta tb : TE} {pins : List (Addr × Obj)} {s : Shared} {σ : L2.St} {H : Hp} {x y : V} (ha : QE X a ta) (hb : QE X b tb) (hs : starEach [a, b] X.env = [(false, eval a X.env), (false, eval b X.env)]) (I : Inv X pins σ H s)
    (h : ta σ H fun x' H1 => x' = x ∧ tb σ H1 fun y' _ => y' = y) : wpAny (model X.prog X.w) X.A (eval (.Tuple [a, b] x1 pos) X.env)
      (fun u s' => u = .ref s.heap.objs.size ∧ s'.gens = s.gens ∧ s'.os = s.os ∧ (∃ o, s'.heap = s.heap.push o) ∧ ∃ ua ub, RelV x ua ∧ RelV y ub ∧ IsTup s'.heap s.heap.objs.size #[ua, ub]) (fun _ _ => False) s := by
  refine wpAny_Tuple_spliced ?_
  rw [hs]
  show wpAny _ _ (spliced ((false, eval a X.env) :: _)) _ _ s
  refine Calls.spliced_cons (thq (ha.run pins s σ H _ I h) fun u s1 ⟨⟨x', H1, I1, rx, ex, q1⟩, k1⟩ => ?_)
  subst ex
  refine Calls.spliced_cons (thq (hb.run pins s1 σ H1 _ I1 q1) fun u2 s2 ⟨⟨y', H2, I2, ry, ey⟩, k2⟩ => ?_)
  subst ey
  have k := k1.trans k2
  refine Calls.spliced_nil ⟨by show 2 ≤ sizeLine; rw [sizeLine_eq]; decide, ?_⟩
  rw [k.heap]
  exact ⟨rfl, k.gens, I2.os.trans I.os.symm, ⟨_, rfl⟩, u, u2, rx, ry, ⟨_, Heap.get?_push_size _ rfl, rfl, _, rfl⟩⟩
/-- a name of the block is stored -/
theorem store_q {M : Model} {A : Around} {E : Value → Shared → Prop} {pins : List (Addr × Obj)} {s : Shared} {σ : L2.St} {H : Hp} {i : Nat} {x : Str} {v : V} {u : Value} {Q : Unit → Shared → Prop} (I : Inv X pins σ H s) (hN : X.N.Nodup) (hi : X.N[i]? = some x) (kd : X.env.kindOf x = some .local) (lo : X.env.scope.names.lookup x = some .local) (r : RelV v u)
    (q : ∀ s', Inv X pins (σ.set i (some v)) H s' → s'.gens = s.gens → Heap.SameBut X.env.locals s.heap s'.heap → Q () s') : wpAny M A (storeName X.env x u) Q E s := by
  obtain ⟨m, ns, _⟩ := id I.loc
  have pl : (X.env.scope.kind == .class || (X.env.scope.kind == .module && X.env.locals != X.env.globals)) = false := by rw [I.ok.kind]; rfl
  have cm : Calm (storeName X.env x u) := by
    rw [storeName_local kd pl]
    exact calm_nsSet _ _ _
  have h1 : wpAny M A (storeName X.env x u) (fun _ s' => Inv X pins (σ.set i (some v)) H s') (fun _ _ => False) s := store_ok2 I hN hi (.inl lo) r (fun s' J _ => J) (.inr lo)
  have h2 : wpAny M A (storeName X.env x u) (fun _ s' => s'.gens = s.gens ∧ Heap.SameBut X.env.locals s.heap s'.heap) (fun _ _ => False) s := wpAny_storeName_local kd ns (fun h' _ sb => ⟨rfl, sb⟩) pl
  exact wpAny_mono (wpAny_both cm h1 h2) (fun _ s' z => q s' z.1 z.2.1 z.2.2) fun _ _ z => z.1.elim
end

/-! ### a generator that hands out fresh pairs -/
/-- all that stood at s1 stands, but for the names of the frame at L -/
structure Woke (L : Addr) (s1 s2 : Shared) : Prop where
  os : s2.os = s1.os
  bare : AllBare s2.gens
  keep : ∀ b o, b ≠ L → s1.heap.get? b = some o → s2.heap.get? b = some o
  ns : ∃ o, s2.heap.get? L = some o ∧ ∀ vs, o.data ≠ .fields vs
def YT (L : Addr) (s1 : Shared) (outs : List (V × V)) : Protocol := fun n s₀ v s kap => (s.os = s₀.os ∧ s.gens = s₀.gens ∧ (∃ o, s.heap = s₀.heap.push o) ∧ v = .ref s₀.heap.objs.size) ∧
  (∃ x y ua ub, n < outs.length ∧ outs[outs.length - 1 - n]? = some (x, y) ∧ RelV x ua ∧ RelV y ub ∧ IsTup s.heap s₀.heap.objs.size #[ua, ub]) ∧ ∀ s', Woke L s1 s' → kap (.send .none) s'
def FT (n : Nat) (s₀ s : Shared) : Prop := n = 0 ∧ s.os = s₀.os ∧ s.gens = s₀.gens ∧ s.heap = s₀.heap
def RT : GenEnd := fun n s₀ r s => ((r = .ok (.ret .none) ∨ r = .ok .next) ∧ FT n s₀ s) ∨ ∃ e, r = .error e ∧ (fun _ _ => False) e s
/-- woken at s₀, nothing moved since -/
structure Fine (L : Addr) (s1 s₀ s : Shared) : Prop where
  wk : Woke L s1 s
  os : s.os = s₀.os
  gens : s.gens = s₀.gens
  heap : s.heap = s₀.heap
/-- the same frame, seen from another beginning -/
abbrev at0 (X : Cx) (s0 : Shared) : Cx := { X with s_0 := s0 }
theorem frames_at {h h' base : Heap} {L : Addr} {o : Obj} (hs : Heap.SameBut L h h') (ho : h'.get? L = some o) (hd : ∀ vs, o.data ≠ .fields vs) : ∀ {l : List Env}, h.FunFrames base l → h'.FunFrames base l
  | [], _ => trivial
  | _ :: _, ⟨hk, ⟨L', o1, hf, hb, h1, hd1⟩, hr⟩ => by
    refine ⟨hk, ?_, frames_at hs ho hd hr⟩
    by_cases q : L' = L
    · exact ⟨L', o, hf, hb, by rw [q]; exact ho, hd⟩
    · exact ⟨L', o1, hf, hb, (hs.2 L' q).trans h1, hd1⟩
theorem inv_shift {X : Cx} {σ : L2.St} {H : Hp} {s1 s3 : Shared} {L : Addr} (I : Inv X [] σ H s1) (hpn : X.pn = []) (hH : X.H_0 = H) (hL : L ∈ X.fs) (hc : ∀ x c, X.env.cells.lookup x = some c → c ≠ L) (k0 : ∀ b o, X.s_0.heap.get? b = some o → s1.heap.get? b = some o) (wk : Woke L s1 s3) :
    ∃ s0, Inv (at0 X s0) [] σ H s3 := by
  obtain ⟨bn, o0, ho0, _⟩ := I.ok.funs.mem hL
  obtain ⟨o, ho, hd⟩ := wk.ns
  have fo : o.isFreed = false := (Heap.get?_some_iff.mp ho).2
  have sb : Heap.SameBut L X.s_0.heap (X.s_0.heap.update L fun _ => o) := Heap.SameBut.update _ _ _
  have hU : (X.s_0.heap.update L fun _ => o).get? L = some o := Heap.get?_update_self _ ho0 fo
  have HL : H L = none := by rw [← hH]; exact I.ok.frf L hL
  have lt : L < X.s_0.heap.objs.size := Heap.lt_size ho0
  have nl : X.env.locals ≠ L := Nat.ne_of_gt (Nat.lt_of_lt_of_le lt I.ok.above)
  have nit : ∀ b u, H b = some u → b ≠ L := fun b u e z => by rw [z, HL] at e; cases e
  refine ⟨{ X.s_0 with heap := X.s_0.heap.update L fun _ => o }, ⟨I.ok.mod, I.ok.kind, I.ok.glob, I.ok.blt, ?_, I.ok.inj, I.ok.has, ?_, I.ok.hd, I.ok.frames, I.ok.stk, I.ok.exf, ?_, ?_, I.ok.noex, I.ok.exfs, frames_at sb hU hd I.ok.funs, I.ok.frf⟩, wk.os.trans I.os, wk.bare, ?_, ?_, ?_, I.free, I.freeC, ?_, ?_, I.len⟩
  · show (X.s_0.heap.update L fun _ => o).objs.size ≤ _
    rw [sb.1]
    exact I.ok.above
  · intro x c h1 h2
    show (X.s_0.heap.update L fun _ => o).objs.size ≤ _
    rw [sb.1]
    exact I.ok.cab x c h1 h2
  · intro b u e
    obtain ⟨h1, h2⟩ := I.ok.bs b u e
    have nb : b ≠ L := fun z => by rw [z, bn] at e; cases e
    exact ⟨(sb.2 b nb).trans h1, h2⟩
  · show _ ≤ (X.s_0.heap.update L fun _ => o).objs.size
    rw [sb.1]
    exact I.ok.bsz
  · show Un X.fs X.ex X.H_0 H (X.s_0.heap.update L fun _ => o) s3.heap
    rw [hH]
    refine Un.kept fun b u e => ?_
    by_cases q : b = L
    · subst q
      rw [hU] at e
      cases e
      exact ho
    · rw [sb.2 b q] at e
      exact wk.keep b u q (k0 b u e)
  · obtain ⟨m, ⟨oL, es, ep, hoL, r⟩, look⟩ := I.loc
    refine ⟨m, ⟨oL, es, ep, wk.keep _ _ nl hoL, r⟩, fun i x v h1 h2 h3 => ?_⟩
    obtain ⟨u, ru, l⟩ := look i x v h1 h2 h3
    refine ⟨u, ru, l.imp id fun ⟨kd, c, h4, oc, hoc, hdc⟩ => ⟨kd, c, h4, oc, wk.keep _ _ (hc x c h4) hoc, hdc⟩⟩
  · intro x c e
    obtain ⟨v, oc, hoc, hdc⟩ := I.cell x c e
    exact ⟨v, oc, wk.keep _ _ (hc x c e) hoc, hdc⟩
  · intro p hp
    rw [show (at0 X _).pn = [] from hpn] at hp
    simp at hp
  · intro b u e
    refine (I.hok b u e).stay (fun c v hc q => wk.keep c v ?_ q) (fun _ q => q) fun _ _ q => q
    rcases hc with z | z
    · rw [z]; exact nit b u e
    · exact nit c _ z
section
variable {X : Cx} {A : Around} {L : Addr} {s1 : Shared} {all : List (V × V)} {σ : L2.St} {H : Hp} {c : Code}
/-- statements of the body: outs is still to come, outs' behind them -/
def GQ (X : Cx) (A : Around) (L : Addr) (s1 : Shared) (all : List (V × V)) (c : Code) (t : Sem Flow) (outs outs' : List (V × V)) : Prop :=
  ∀ (K : Flow → Sem PySem.Fin) (J : Value → Sem PySem.Fin) (s₀ s : Shared), Fine L s1 s₀ s → (∀ s₀ s, Fine L s1 s₀ s → Seg (model X.prog X.w) A RT (YT L s1 all) outs'.length s₀ c (K .next) [] s) →
    Seg (model X.prog X.w) A RT (YT L s1 all) outs.length s₀ c (t.wrap K J id id) [] s
theorem gq_nil {outs : List (V × V)} : GQ X A L s1 all c (execs [] X.env) outs outs := fun K J s₀ s h k => seg_execs_nil (k s₀ s h)
theorem gq_cons {st : Stmt} {rest : List Stmt} {o o1 o2 : List (V × V)} (a : GQ X A L s1 all c (exec st X.env) o o1) (b : GQ X A L s1 all c (execs rest X.env) o1 o2) : GQ X A L s1 all c (execs (st :: rest) X.env) o o2 :=
  fun K J s₀ s h k => seg_execs_cons (a _ J s₀ s h fun s₀' s' h' => b K J s₀' s' h' k)
theorem gq_yield {a b : Expr} {x1 : Nat} {p yp ep : Pos} {ta tb : TE} {x y : V} {outs : List (V × V)} (ov : A.over c [] = X.A) (hI : ∀ s2, Woke L s1 s2 → ∃ s0, Inv (at0 X s0) [] σ H s2) (ha : ∀ s0, QE (at0 X s0) a ta) (hb : ∀ s0, QE (at0 X s0) b tb) (h : ta σ H fun x' H1 => x' = x ∧ tb σ H1 fun y' _ => y' = y)
    (suf : ∃ pre, all = pre ++ (x, y) :: outs) (hs : starEach [a, b] X.env = [(false, eval a X.env), (false, eval b X.env)] := by rfl) (hco : X.env.scope.isCoroutine = false := by rfl) (hi : interactive X.env = false := by rfl) :
    GQ X A L s1 all c (exec (.Expr (.Yield (some (.Tuple [a, b] x1 p)) yp) ep) X.env) ((x, y) :: outs) outs := by
  intro K J s₀ s f k
  refine seg_Expr_Yield rfl rfl rfl ?_ hco hi
  rw [ov]
  obtain ⟨s0, I0⟩ := hI s f.wk
  refine thq (run_pair (X := at0 X s0) (ha s0) (hb s0) hs I0 h) fun u s' z => ?_
  obtain ⟨rfl, hg, ho, hp, ua, ub, ra, rb, ht⟩ := z
  intro kap hk
  obtain ⟨pre, e⟩ := suf
  rw [f.heap] at hp ht
  refine ⟨⟨ho.trans f.os, hg.trans f.gens, hp, by rw [f.heap]⟩, ⟨x, y, ua, ub, ?_, ?_, ra, rb, ht⟩, fun s'' wk => hk .none s'' (k s'' s'' ⟨wk, rfl, rfl, rfl⟩)⟩
  · rw [e, List.length_append, List.length_cons]
    omega
  · rw [e, List.length_append, List.length_cons, show pre.length + (outs.length + 1) - 1 - outs.length = pre.length from by omega, List.getElem?_append_right (Nat.le_refl _), Nat.sub_self]
    rfl
theorem gq_if {test : Expr} {body orelse : List Stmt} {p : Pos} {tc : TT} {d : Bool} {outs outs' : List (V × V)} (ov : A.over c [] = X.A) (hI : ∀ s2, Woke L s1 s2 → ∃ s0, Inv (at0 X s0) [] σ H s2) (ht : ∀ s0, QT (at0 X s0) test tc) (h : tc σ H fun d' _ => d' = d)
    (hb : GQ X A L s1 all c (execs (if d = true then body else orelse) X.env) outs outs') : GQ X A L s1 all c (exec (.If test body orelse p) X.env) outs outs' := by
  intro K J s₀ s f k
  rw [exec_If]
  refine seg_bind_wrap (wpAny_standAt ?_)
  refine seg_bind_wrap ?_
  rw [ov]
  obtain ⟨s0, I0⟩ := hI s f.wk
  refine thq ((ht s0).run [] s σ H _ I0 h) fun b s' ⟨⟨H', I', e⟩, q⟩ => ?_
  subst e
  have f' : Fine L s1 s₀ s' := ⟨⟨(I'.os.trans I0.os.symm).trans f.wk.os, I'.bare, fun b o n e => by rw [q.heap]; exact f.wk.keep b o n e, by rw [q.heap]; exact f.wk.ns⟩, (I'.os.trans I0.os.symm).trans f.os, q.gens.trans f.gens, q.heap.trans f.heap⟩
  cases b with
  | true => exact hb K J s₀ s' f' k
  | false => exact hb K J s₀ s' f' k
end
end LkG
set_option Elab.async false
set_option linter.all false
set_option maxRecDepth 100000
set_option maxHeartbeats 2000000
namespace LkG
open PySem PySem.Spec PyProof.Rows L2 TxS LkO Lk GenW
open Sem (wp)
/-- a generator of these pairs that has not begun -/
def GT (P : Program) (w : World) (k : Nat) (outer : List Env) (outs : List (V × V)) (s : Shared) (u : Value) (s' : Shared) : Prop :=
  ∃ (a : Addr) (g : Nat) (c : Code), u = .ref a ∧ a < s'.heap.objs.size ∧ s'.heap.IsGen a g ∧ s'.gens[g]? = some (.fresh c) ∧ s'.os = s.os ∧ AllBare s'.gens ∧ (∀ b o, s.heap.get? b = some o → s'.heap.get? b = some o) ∧
    ∀ (A : Around) (L : Addr) (s2 : Shared), L ∈ frs outer → Room k A → A.frames = some outer → Woke L s' s2 → Seg (model P w) A RT (YT L s' outs) outs.length s2 c ((model P w).den c) [] s2
section
variable {P : Program} {w : World} {K : PySem.W.Frag} {mg : Str → Option Value} {base : Heap} {k : Nat} {f : Addr} {name qual : Str} {params : Arguments} {body : List Stmt} {scope : Scope} {dV kV doc pm cdv ct oc : Value} {an od : Option Addr}
  {osl : Array (Option Value)} {N ps : List Str}
/-- the call, by the body -/
theorem call_gt {A : Around} {outer : List Env} {s : Shared} {H : Hp} {args : Args} {us : List Value} {vs : List V} {outs : List (V × V)} (lk : K.lookup f = some ⟨oc, od, .func (PySem.W.fnOf name qual params body scope dV kV doc pm an cdv ct), osl⟩) (hcd : PySem.W.codeIn K cdv qual = true)
    (S : GScope N ps scope) (hr : Room (k + 1) A) (e0 : Env0 P w K mg base A outer s H) (hb : BindsTo s (PySem.W.fnOf name qual params body scope dV kV doc pm an cdv ct) args (ps.zip us)) (hl : vs.length = ps.length) (r : Vals vs us)
    (hq : ∀ (A2 : Around) (L : Addr) (s1 : Shared), Room k (A2.deeper (envOfC qual scope s.heap.objs.size f cdv)) → (∀ s2, Woke L s1 s2 → ∃ s0, Inv (at0 (gcxOf P w K mg base N qual scope f cdv A2 outer s H E0 []) s0) [] (start N vs) H s2) →
      GQ (gcxOf P w K mg base N qual scope f cdv A2 outer s H E0 []) A2 L s1 outs (.func body (envOfC qual scope s.heap.objs.size f cdv)) (execs body (envOfC qual scope s.heap.objs.size f cdv)) outs []) :
    codeAny (model P w) A (.call (.ref f) args) (fun r s' => match r with | .ok (.ret u) => GT P w (k + 1) outer outs s u s' | _ => False) s := by
  have KX : K.In s.heap := e0.mod.kin.keeps fun b o e => (e0.bs b o e).1
  have lim : s.heap.NoLimit := e0.mod.nolimit.keeps fun b o e => (e0.bs b o e).1
  have kinds : ∀ y ∈ ps.zip us, scope.names.lookup y.1 = some .local ∨ (scope.names.lookup y.1 = some .cell ∧ ((cellsFrom (s.heap.objs.size + 1) scope.names []).lookup y.1).isSome = true) := fun ⟨n, v⟩ hy =>
    (S.par n (List.of_mem_zip hy).1).imp id fun q => ⟨q, PySem.W.cellsFrom_some _ _ _ (.inl q)⟩
  refine codeAny_call_generator hr.depth (KX _ _ lk) rfl S.co S.gen rfl (PySem.W.codeRec_of KX hcd) (hb _ _ _ _ ?_)
  refine wpAny_newFunctionEnv_cells S.kind kinds fun env he s1 x => ?_
  subst he
  refine ⟨lim.keeps x.toInCall.keep, ?_⟩
  obtain ⟨h1, tk, es, hk⟩ := x.done
  have os1 : s1.os = s.os := by rw [es]
  have gn1 : s1.gens = s.gens := by rw [es]
  generalize ego : ({ cls := .type "generator", data := .fields #[.int s1.gens.size 0, .str name s1.toks, .str qual (s1.toks + 1)] } : Obj) = go
  have gAt : (s1.heap.push go).get? s1.heap.objs.size = some go := by
    rw [← ego]
    exact Heap.get?_push_size _ rfl
  have up : ∀ b o, s1.heap.get? b = some o → (s1.heap.push go).get? b = some o := fun b o e => Heap.get?_push_of_some _ e
  refine ⟨s1.heap.objs.size, s1.gens.size, _, rfl, ?_, ⟨go, _, _, gAt, by rw [← ego], by rw [← ego], by rw [← ego]⟩, Array.getElem?_push_size .., os1, AllBare.push (by rw [gn1]; exact e0.bare) rfl, fun b o e => up b o (x.toInCall.keep b o e), ?_⟩
  · show _ < (s1.heap.push _).objs.size
    rw [Heap.size_push]
    exact Nat.lt_succ_self _
  intro A2 L s2 hL hr2 hf2 wk
  have e2 : Env0 P w K mg base A2 outer s H := ⟨hf2, e0.mod, e0.bs, e0.bsz, e0.funs, e0.frf, e0.hok, e0.bare⟩
  have I1 : Inv (gcxOf P w K mg base N qual scope f cdv A2 outer s H E0 []) [] (start N vs) H s1 := inv_startG S hr2.hd e2 hl r x
  have lt : L < s.heap.objs.size := by
    obtain ⟨_, o0, ho0, _⟩ := e0.funs.mem hL
    exact Heap.lt_size ho0
  have hI : ∀ s3, Woke L { s1 with gens := s1.gens.push (.fresh (.func body (envOfC qual scope s.heap.objs.size f cdv))), toks := s1.toks + 1 + 1, heap := s1.heap.push go } s3 → ∃ s0, Inv (at0 (gcxOf P w K mg base N qual scope f cdv A2 outer s H E0 []) s0) [] (start N vs) H s3 := fun s3 z => by
    refine inv_shift (s1 := s1) I1 rfl rfl hL (fun n c h => ?_) (fun b o e => x.toInCall.keep b o e) ⟨z.os, z.bare, fun b o n e => z.keep b o n (up b o e), z.ns⟩
    have := x.above n c (PySem.mem_of_lookup h)
    exact Nat.ne_of_gt (Nat.lt_trans lt this)
  refine seg_func ?_
  have q := hq A2 L _ (hr2.deeper _) hI
  refine q (fun f => .pure (.done (.ret (match f with | .ret v => v | _ => .none)))) _ s2 s2 ⟨wk, rfl, rfl, rfl⟩ fun s₀ s3 f3 => ?_
  exact seg_end (.ok (.ret .none)) (.inl ⟨.inl rfl, rfl, f3.os, f3.gens, f3.heap⟩)
end

/-- an expression whose value is such a generator -/
abbrev TGT := L2.St → Hp → (List (V × V) → Hp → Prop) → Prop
structure PGT (X : Cx) (k : Nat) (e : Expr) (tg : TGT) : Prop where
  run : ∀ (pins : List (Addr × Obj)) (s : Shared) (σ : L2.St) (H : Hp) (q : List (V × V) → Hp → Prop), Inv X pins σ H s → tg σ H q → wpAny (model X.prog X.w) X.A (eval e X.env)
    (fun u s' => ∃ H1 sc outs, Inv X pins σ H1 sc ∧ GT X.prog X.w k X.stack outs sc u s' ∧ q outs H1) X.xe s
/-- the def's promise: the arguments, the heap, the pairs -/
abbrev SpT := List V → Hp → List (V × V) → Prop
structure GFt (P : Program) (w : World) (K : PySem.W.Frag) (mg : Str → Option Value) (base : Heap) (k : Nat) (f : Addr) (fd : FuncData) (ps : List Str) (sp : SpT) : Prop where
  len : ∀ vs H outs, sp vs H outs → vs.length = ps.length
  run : ∀ (A : Around) (outer : List Env) (s : Shared) (H : Hp) (args : Args) (us : List Value) (vs : List V) (outs : List (V × V)), Room k A → Env0 P w K mg base A outer s H → BindsTo s fd args (ps.zip us) → Vals vs us → sp vs H outs →
    codeAny (model P w) A (.call (.ref f) args) (fun r s' => match r with | .ok (.ret u) => GT P w k outer outs s u s' | _ => False) s
section
variable {X : Cx} {k : Nat} {f C : Addr} {fd : FuncData} {ps : List Str} {sp : SpT} {o : Expr} {ta : TE} {m : Str} {apos cpos : Pos}
def tMethT (C : Addr) (m : Str) (sp : SpT) (ta : TE) : TGT := fun σ H q => ta σ H fun x H1 => ∃ a dx fs outs, x = .ref a ∧ H1 a = some (.ins C dx fs) ∧ fs.lookup m = none ∧ sp [x] H1 outs ∧ q outs H1
theorem pgt_meth0 {pl : Sem Bool} (he : PE X o ta) (c : Cls X.K C) (hm : Meth X.K C m f) (F : GFt X.prog X.w X.K X.mg X.base k f fd ps sp) (hr : Room k X.A) (hb : Binds X.K fd ps [])
    (ht : eval (.Call (.Attribute o m apos) [] [] cpos) X.env = (do
      let ov ← eval o X.env
      standAt apos.atName
      let (f, first) ← holding [ov] (getMethod ov m pl)
      callWith cpos f first (backTo cpos (starEach [] X.env)) (backToKw cpos (keywordEach [] X.env))) := by rfl) :
    PGT X k (.Call (.Attribute o m apos) [] [] cpos) (tMethT C m sp ta) := by
  refine ⟨fun pins s σ H q I h => PySem.W.methodCall_KW (pl := pl) (thn (he.run pins s σ H _ I h) fun u s1 z => ?_) ht⟩
  obtain ⟨x, H1, I1, rx, a, dx, fs, outs, rfl, ea, l, hs, hq⟩ := z
  obtain rfl : u = Value.ref a := rx
  refine getmeth_ok I1 ea c hm l (PySem.W.callWith_K0 (first := [.ref a]) I1.kIn hm.kp ?_)
  have r2 : Vals [V.ref a] [Value.ref a] := .cons rfl .nil
  have l2 : ([Value.ref a] : List Value).length = ps.length := by rw [← r2.length]; exact F.len _ _ _ hs
  refine wpAny_call (codeAny_mono (F.run X.A X.stack s1 H1 ⟨[.ref a], []⟩ [.ref a] [.ref a] outs hr I1.env0 (by simpa using hb s1 [.ref a] I1.kIn (by simpa using l2)) r2 hs) fun r s2 z => ?_)
  cases r with
  | error e => exact z.elim
  | ok fl =>
    cases fl with
    | ret u => exact ⟨H1, s1, outs, I1, z, hq⟩
    | next => exact z.elim
    | brk => exact z.elim
    | cont => exact z.elim
end
end LkG
set_option Elab.async false
set_option linter.all false
set_option maxRecDepth 100000
set_option maxHeartbeats 4000000
namespace LkG
open PySem PySem.Spec PyProof.Rows L2 TxS LkO Lk GenW
open Sem (wp)
theorem gens_set {s s1 : Shared} {g : Nat} {x y : GenState} (e : s1.gens = (s.setGen g x).gens) (h : g < s.gens.size) : (s1.setGen g y).gens[g]? = some y :=
  setGen_at (by rw [e, show (s.setGen g x).gens.size = s.gens.size from setGen_size s g x]; exact h)
/-- for x, y in a generator of pairs: if test: return e -/
def tForG (tg : TGT) (ix iy : Nat) (tt : TT) (te : TE) : TS := fun D σ H => tg σ H fun outs H1 => ∃ W : Nat → L2.St → Hp → Prop, W 0 σ H1 ∧ (∀ σ2 H2, W outs.length σ2 H2 → D.nx σ2 H2) ∧
  ∀ i x y σ2 H2 p, outs[i]? = some (x, y) → W i σ2 H2 → H2 p = none → tt ((σ2.set ix (some x)).set iy (some y)) (upd H2 p (.tup [x, y])) fun b H3 => if b = true then
    te ((σ2.set ix (some x)).set iy (some y)) H3 D.rt else W (i + 1) ((σ2.set ix (some x)).set iy (some y)) H3
theorem ps_forG {X : Cx} {iter test e : Expr} {x y : Str} {px py tp pos ip rp : Pos} {kk ix iy k : Nat} {tg : TGT} {tt : TT} {te : TE} (hc : X.calm = true) (hN : X.N.Nodup) (hr : Room (k + 1) X.A) (hst : X.env.locals ∈ frs X.stack) (hi : PGT X k iter tg)
    (hx : X.N[ix]? = some x) (hy : X.N[iy]? = some y) (lx : X.env.scope.names.lookup x = some .local) (ly : X.env.scope.names.lookup y = some .local) (ht : QT X test tt) (he : QE X e te) (hs : ∀ x, foldedSetIterable iter X.env x = pure x := by intro _; rfl) :
    PS X (.For (.Tuple [.Name x px, .Name y py] kk tp) iter [.If test [.Return (some e) rp] [] ip] [] pos) (tForG tg ix iy tt te) := by
  refine ⟨fun pins s σ H D I h => ?_⟩
  refine wpAny_For (thn (hi.run pins s σ H _ I h) fun u s1 z => ?_) hs
  obtain ⟨H1, sc, outs, Ic, ⟨a, g, c, rfl, ha, hg, hgs, hos, hba, hkp, wake⟩, W, w0, wEnd, turn⟩ := z
  refine wpAny_pyIter_gen hg ?_
  have I1 : Inv X pins σ H1 s1 := Ic.call' (ch := []) hos (Un.kept hkp) (Ic.hok.kept hkp) hba fun b hb => by simp at hb
  have kdx : X.env.kindOf x = some .local := lx
  have kdy : X.env.kindOf y = some .local := ly
  have frm : X.A.in1.frames = some X.stack := I.ok.frames
  have nsOf : ∀ {σ' : L2.St} {H' : Hp} {s' : Shared}, Inv X pins σ' H' s' → ∃ o, s'.heap.get? X.env.locals = some o ∧ ∀ vs, o.data ≠ .fields vs := fun {σ' H' s'} I' => by
    obtain ⟨m, ⟨o, es, ep, ho, hd, _⟩, _⟩ := I'.loc
    exact ⟨o, ho, fun vs z => by rw [hd] at z; cases z⟩
  have nea : a ≠ X.env.locals := fun z => by
    obtain ⟨o, ho, hd⟩ := nsOf I1
    obtain ⟨og, _, _, hog, _, hod, _⟩ := hg
    rw [z, ho] at hog
    cases hog
    exact hd _ hod
  have genAt : ∀ {s' : Shared}, Woke X.env.locals s1 s' → s'.heap.IsGen a g := fun {s'} wk => by
    obtain ⟨og, n1, q1, hog, r⟩ := hg
    exact ⟨og, n1, q1, wk.keep a og nea hog, r⟩
  refine codeAny_forLoop_any (fun n s' => ∃ i σ' H', n + i = outs.length ∧ Inv X pins σ' H' s' ∧ Woke X.env.locals s1 s' ∧ (∃ gs, s'.gens[g]? = some gs ∧ gs.Goes (model X.prog X.w) X.A.in1 RT (YT X.env.locals s1 outs) n (.send .none) (s'.setGen g .running)) ∧ W i σ' H') ?_ outs.length ?_
  · rintro n s5 ⟨i, σ5, H5, hni, I5, wk5, ⟨gs, hgs5, go5⟩, w5⟩
    have hg5 := genAt wk5
    have hgl : g < s5.gens.size := (Array.getElem?_eq_some_iff.mp hgs5).1
    refine next_genG (F := FT) (Er := fun _ _ => False) (hr.hd) I5.nolimit hr.depth hg5 hgs5 go5 (fun v s6 gs' hbare hv => ?_) (fun s6 hf h' hk => ?_) fun e s6 z => z.elim
    · obtain ⟨⟨os6, gn6, ⟨ob, hp6⟩, rfl⟩, ⟨x0, y0, ua, ub, hlt, hat, ra, rb, htup⟩, kap⟩ := hv
      have hp6 : s6.heap = s5.heap.push ob := hp6
      have htup : IsTup s6.heap s5.heap.objs.size #[ua, ub] := htup
      obtain ⟨n, rfl⟩ : ∃ m, n = m + 1 := by
        cases n with
        | zero => exact absurd (kap { s5 with gens := #[] } ⟨wk5.os, fun _ hh => by simp at hh, wk5.keep, wk5.ns⟩) (fun z => z)
        | succ m => exact ⟨m, rfl⟩
      have ei : outs.length - 1 - (n + 1 - 1) = i := by omega
      rw [ei] at hat
      have k56 : ∀ b o, s5.heap.get? b = some o → s6.heap.get? b = some o := fun b o e => by rw [hp6]; exact Heap.get?_push_of_some _ e
      have np : H5 s5.heap.objs.size = none := I5.hok.fresh (Nat.le_refl _)
      have bare6 : AllBare (s6.setGen g gs').gens := allBare_setGen (by rw [gn6]; exact allBare_setGen wk5.bare rfl) hbare
      have I6 : Inv X pins σ5 (upd H5 s5.heap.objs.size (.tup [x0, y0])) (s6.setGen g gs') := by
        refine I5.call' (s' := s6.setGen g gs') (ch := []) os6 (Un.laid k56 (Nat.le_refl _) np) (I5.hok.laid k56 (Nat.le_refl _) ⟨?_, [ua, ub], .cons ra (.cons rb .nil), htup⟩) bare6 fun b hb => by simp at hb
        show 2 ≤ sizeLine
        rw [sizeLine_eq]
        decide
      have at6 : (s6.setGen g gs').gens[g]? = some gs' := gens_set gn6 hgl
      generalize es7 : s6.setGen g gs' = s7 at I6 at6 bare6
      have h7 : s7.heap = s6.heap := by rw [← es7]; rfl
      have wk7 : Woke X.env.locals s1 s7 := ⟨by rw [← es7]; exact os6.trans wk5.os, bare6, fun b o n e => by rw [h7]; exact k56 b o (wk5.keep b o n e), nsOf I6⟩
      obtain ⟨og, _, _, hog, hoc, hod, _⟩ := genAt wk7
      show wpAny _ _ (letOwnedTupleGo (.Tuple [.Name x px, .Name y py] kk tp) (.ref a) (.ref s5.heap.objs.size)) _ _ s7
      refine go_of hog hoc hod (by decide) ?_
      have ht7 : IsTup s7.heap s5.heap.objs.size #[ua, ub] := by rw [h7]; exact htup
      refine assign_Tuple_tuple (I6.ok.hd hc) ht7 rfl rfl fun h' hx8 => ?_
      have I8 : Inv X pins σ5 (upd H5 s5.heap.objs.size (.tup [x0, y0])) { s7 with heap := h' } := I6.kept (t' := s7.toks) fun b o e => hx8 b o (Nat.ne_of_lt (Heap.lt_size e)) e
      show wpAny _ _ (assignInOrder [assign (.Name x px) X.env, assign (.Name y py) X.env] [ua, ub]) _ _ _
      refine assignInOrder_cons (wpAny_assign_Name (store_q (X := X) I8 hN hx kdx lx ra fun s9 I9 gn9 sb9 => ?_))
      refine assignInOrder_cons (wpAny_assign_Name (store_q (X := X) I9 hN hy kdy ly rb fun s10 I10 gn10 sb10 => ?_))
      refine assignInOrder_nil ?_
      have gn : s10.gens = s7.gens := gn10.trans gn9
      have kp10 : ∀ b o, b ≠ X.env.locals → s1.heap.get? b = some o → s10.heap.get? b = some o := fun b o n e => by
        have e7 := wk7.keep b o n e
        exact (sb10.2 b n).trans ((sb9.2 b n).trans (hx8 b o (Nat.ne_of_lt (Heap.lt_size e7)) e7))
      refine wpAny_execs_cons (wpAny_If (thq (ht.run pins s10 _ _ _ I10 (turn i x0 y0 σ5 H5 s5.heap.objs.size hat w5 np)) fun b s11 ⟨⟨H11, I11, q11⟩, k11⟩ => ?_))
      cases b with
      | true =>
        refine wpAny_execs_cons (wpAny_Return_some (thq (he.run pins s11 _ _ _ I11 q11) fun zv s12 ⟨⟨z, H12, I12, rz, q12⟩, k12⟩ => ?_))
        exact ⟨z, _, H12, I12, rz, q12⟩
      | false =>
        refine wpAny_execs_nil (wpAny_execs_nil ?_)
        have os' : s11.os = s1.os := by
          have e1 : s11.os = X.s_0.os := I11.os
          have e2 : s1.os = X.s_0.os := I1.os
          rw [e1, e2]
        have gn11 : s11.gens = s7.gens := k11.gens.trans gn
        have kp11 : ∀ b o, b ≠ X.env.locals → s1.heap.get? b = some o → s11.heap.get? b = some o := fun b o n e => by rw [k11.heap]; exact kp10 b o n e
        refine ⟨n, Nat.lt_succ_self n, i + 1, _, H11, by omega, I11, ⟨os', I11.bare, kp11, nsOf I11⟩, ⟨gs', by rw [gn11]; exact at6, ?_⟩, q11⟩
        exact kap (s11.setGen g .running) ⟨os', allBare_setGen I11.bare rfl, kp11, by have z := nsOf I11; exact z⟩
    · obtain ⟨rfl, os6, gn6, hp6⟩ := hf
      have hp6 : s6.heap = s5.heap := hp6
      have ei : i = outs.length := by omega
      subst ei
      have k5 : ∀ b o, s5.heap.get? b = some o → h'.get? b = some o := fun b o e => hk b o (by rw [hp6]; exact e)
      have I6 : Inv X pins σ5 H5 { s6.setGen g .finished with heap := h' } := I5.call' (s' := { s6.setGen g .finished with heap := h' }) (ch := []) os6 (Un.kept k5) (I5.hok.kept k5) (allBare_setGen (by rw [gn6]; exact allBare_setGen wk5.bare rfl) rfl) fun b hb => by simp at hb
      exact wpAny_execs_nil ⟨σ5, H5, I6, wEnd σ5 H5 w5⟩
  · have wk1 : Woke X.env.locals s1 s1 := ⟨rfl, hba, fun _ _ _ e => e, nsOf I1⟩
    refine ⟨0, σ, H1, rfl, I1, wk1, ⟨.fresh c, hgs, rfl, ?_⟩, w0⟩
    refine wake X.A.in1 X.env.locals (s1.setGen g .running) hst hr.in1 frm ⟨rfl, allBare_setGen hba rfl, fun _ _ _ e => e, by have z := nsOf I1; exact z⟩
end LkG
set_option Elab.async false
set_option linter.all false
namespace Lk
open PySem PySem.Spec PyProof.Rows L2
def top (i : Nat) : Stmt := PySem.Challenge.pw_lockdoors_k12_whole_walks.main.body.getD i (.Pass ⟨0, 0, 0, 0⟩)
abbrev s__wall : Stmt := top 0
abbrev s_is_name : Stmt := top 4
abbrev s_are_names : Stmt := top 5
abbrev s_all_in : Stmt := top 6
abbrev c_LockError : Stmt := top 8
abbrev c_BadLocks : Stmt := top 9
abbrev c_BadDoor : Stmt := top 10
abbrev c_BadPerson : Stmt := top 11
abbrev c_BadBuilding : Stmt := top 12
abbrev s_BadBuilding___init__ : Stmt := inClass c_BadBuilding 0
abbrev c_BadName : Stmt := top 13
abbrev c_BadTrail : Stmt := top 14
abbrev c_NoWay : Stmt := top 15
abbrev c_NothingPassed : Stmt := top 16
abbrev s_check_other : Stmt := top 18
abbrev c_Locks : Stmt := top 19
abbrev s_Locks___init__ : Stmt := inClass c_Locks 0
abbrev s_Locks___eq__ : Stmt := inClass c_Locks 1
abbrev s_Locks___or__ : Stmt := inClass c_Locks 2
abbrev s_Locks___and__ : Stmt := inClass c_Locks 3
abbrev s_Locks___sub__ : Stmt := inClass c_Locks 4
abbrev s_Locks___contains__ : Stmt := inClass c_Locks 5
abbrev s_Locks___len__ : Stmt := inClass c_Locks 6
abbrev s_Locks_names : Stmt := inClass c_Locks 7
abbrev s_Locks_holds : Stmt := inClass c_Locks 8
abbrev s_is_cost : Stmt := top 27
abbrev c_Door : Stmt := top 28
abbrev s_Door___init__ : Stmt := inClass c_Door 0
abbrev s_Door_start : Stmt := inClass c_Door 1
abbrev s_Door_end : Stmt := inClass c_Door 2
abbrev s_Door_key : Stmt := inClass c_Door 3
abbrev s_Door_both : Stmt := inClass c_Door 4
abbrev s_Door_cost : Stmt := inClass c_Door 5
abbrev s_Door_ways : Stmt := inClass c_Door 6
abbrev s_Door___eq__ : Stmt := inClass c_Door 7
abbrev c_Person : Stmt := top 29
abbrev s_Person___init__ : Stmt := inClass c_Person 0
abbrev s_Person_start : Stmt := inClass c_Person 1
abbrev s_Person_carried : Stmt := inClass c_Person 2
abbrev s_Person_needs : Stmt := inClass c_Person 3
abbrev s_Person_shuns : Stmt := inClass c_Person 4
abbrev s_Person___eq__ : Stmt := inClass c_Person 5
abbrev s_is_table : Stmt := top 30
abbrev s_are_rooms : Stmt := top 31
abbrev s_is_key : Stmt := top 32
abbrev s_are_keys : Stmt := top 33
abbrev s_fits_door : Stmt := top 34
abbrev s_fits_person : Stmt := top 35
abbrev s_are_doors : Stmt := top 36
abbrev s_are_people : Stmt := top 37
abbrev c_Building : Stmt := top 38
abbrev s_Building___init__ : Stmt := inClass c_Building 0
abbrev s_Building_rooms : Stmt := inClass c_Building 1
abbrev s_Building_key_rooms : Stmt := inClass c_Building 2
abbrev s_Building_doors : Stmt := inClass c_Building 3
abbrev s_Building_people : Stmt := inClass c_Building 4
abbrev s_Building_door : Stmt := inClass c_Building 5
abbrev s_Building_person : Stmt := inClass c_Building 6
abbrev s_Building_reach : Stmt := inClass c_Building 7
abbrev s_Building_price : Stmt := inClass c_Building 8
abbrev s_Building_is_right : Stmt := inClass c_Building 9
abbrev s_Building___eq__ : Stmt := inClass c_Building 10
abbrev s_check_building : Stmt := top 39
abbrev s_check_locks : Stmt := top 40
abbrev s_are_doors_of : Stmt := top 41
abbrev s_check_trail : Stmt := top 42
abbrev s_keys_held : Stmt := top 43
abbrev s_lets_through : Stmt := top 44
abbrev s_room_added : Stmt := top 45
abbrev s_rooms_beyond : Stmt := top 46
abbrev s_room_behind : Stmt := top 48
abbrev c_Walk : Stmt := top 49
abbrev s_Walk___init__ : Stmt := inClass c_Walk 0
abbrev s_Walk_room : Stmt := inClass c_Walk 1
abbrev s_Walk_passed : Stmt := inClass c_Walk 2
abbrev s_Walk_visited : Stmt := inClass c_Walk 3
abbrev s_Walk_next_room : Stmt := inClass c_Walk 4
abbrev s_Walk_go : Stmt := inClass c_Walk 5
abbrev s_Walk_back : Stmt := inClass c_Walk 6
abbrev s_Walk_ahead : Stmt := inClass c_Walk 7
abbrev s_Walk___contains__ : Stmt := inClass c_Walk 8
abbrev s_Walk___len__ : Stmt := inClass c_Walk 9
abbrev s_Walk___bool__ : Stmt := inClass c_Walk 10
abbrev s_Walk_along : Stmt := inClass c_Walk 11
abbrev s__law_cell_at : Stmt := top 51
abbrev s__law_draw : Stmt := top 52
abbrev s__law_number : Stmt := top 53
abbrev s__law_next : Stmt := top 54
abbrev s__law_pick : Stmt := top 55
abbrev s__law_some : Stmt := top 56
abbrev s__law_drawn : Stmt := top 57
abbrev s__law_building : Stmt := top 58
abbrev s__law_locks : Stmt := top 59
abbrev s__law_held : Stmt := top 60
abbrev s__law_behind : Stmt := top 61
abbrev s__law_refused : Stmt := top 62
abbrev s__law_stands : Stmt := top 63
abbrev s__law_one_right : Stmt := top 64
abbrev s_law : Stmt := top 65
end Lk
set_option Elab.async false
set_option linter.all false
set_option maxRecDepth 100000
set_option maxHeartbeats 2000000
namespace Lk
open PySem PySem.Spec PyProof.Rows L2 TxS LkO
/-- the names of the module that are built-ins still -/
structure Blt (mg : Str → Option Value) : Prop where
  len : mg "len" = none
  isi : mg "isinstance" = none
  str : mg "str" = none
  all : mg "all" = none
  set : mg "set" = none
  srt : mg "sorted" = none
  tup : mg "tuple" = none
  lst : mg "list" = none
  bl : mg "bool" = none
  rng : mg "range" = none
  max : mg "max" = none
  min : mg "min" = none
  any : mg "any" = none
  sum : mg "sum" = none
  int : mg "int" = none
  dct : mg "dict" = none
structure Cst (mg : Str → Option Value) : Prop where
  abc : ∃ t, mg "LETTERS" = some (.str abc t)
  top : ∃ t, mg "LONGEST" = some (.int 8 t)

section
variable {P : Program} {w : World} {K : PySem.W.Frag} {mg : Str → Option Value} {base : Heap}
/-! ### is_name -/
def spName : Sp := fun vs H Q _ => ∃ z : Str, vs = [.str z] ∧ z.length ≤ sizeLine ∧ ∀ H', Same H H' → Q (.bl (isNm z)) H'
theorem scName : FnScope ["value", "letter"] ["value"] (defScope s_is_name) := ⟨rfl, rfl, rfl, by decide +kernel, rfl, by decide +kernel, by decide +kernel⟩
theorem ok_name {f : Addr} {fd : FuncData} {k : Nat} (F : Fun K "is_name" "is_name" s_is_name f fd) (B : Blt mg) (G : Cst mg) : FnOk P w K mg base CX0 (k + 1) f fd ["value"] spName := by
  obtain ⟨ta, eA⟩ := G.abc
  obtain ⟨tl, eL⟩ := G.top
  refine F.ok scName (fun vs H Q E h => ?_) (fun cdv A outer s H vs Q E hr h => ?_)
  · obtain ⟨z, rfl, _⟩ := h
    rfl
  · obtain ⟨z, rfl, hz, q⟩ := h
    refine ⟨_, pss_one (ps_ret (pe_and (pe_callB call_isi (by rfl) B.isi PyProof.Rows.boot_isinstance (pa_cons (pv 0) (pa_cons (pe_bltn (v := .ty "str") (by rfl) B.str PyProof.Rows.boot_str rfl) pa_nil)))
      (pe_and (pe_chain op_le op_le pe_int (pe_callB call_len_str (by rfl) B.len PySem.boot_len (pa_cons (pv 0) pa_nil)) (pe_glob (v := .int 8) (by rfl) eL ⟨_, rfl⟩))
      (pe_one (pe_callB (cr_all rfl) (by rfl) B.all PyProof.Rows.boot_all (pa_cons (pe_lc (own := [("letter", 1)]) (g := gName 1) (tt := tYes) rfl scName.nd (pi_str (pv 0)) (blkOk_by (N := ["value", "letter"]) (sc := defScope s_is_name) (by decide +kernel))
        (fun _ _ _ _ _ => pg_name (i := 1) scName.nd rfl (Or.inl rfl)) (fun _ _ _ _ _ => pts_nil) (fun _ _ _ _ _ => pe_cmpR op_in_sign (pv 1) (pe_glob (v := .str abc) (by rfl) eA ⟨_, rfl⟩) rfl)) pa_nil)))))), ?_⟩
    refine ⟨.str z, rfl, .str z, .ty "str", _, _, true, rfl, .ty _, .base (.str z), kit_ty (by decide +kernel), true, rfl, iteT ?_⟩
    refine ⟨.str z, rfl, z, rfl, hz, 1, _, rfl, rfl, _, rfl, ite2 (fun e1 => ?_) (fun e1 => ?_)⟩
    · refine ⟨_, _, rfl, rfl, _, rfl, ite2 (fun e2 => ?_) (fun e2 => ?_)⟩
      · have e3 : isNm z = (z.cps.toList.map fun c => decide (c ∈ abc.cps.toList)).all id := by
          unfold isNm lettersOk
          have a1 := of_decide_eq_true e1
          have a2 := of_decide_eq_true e2
          rw [decide_eq_true (show 1 ≤ z.length by omega), decide_eq_true (show z.length ≤ 8 by omega), List.all_map]
          rfl
        have szl : z.cps.size = z.length := rfl
        refine ⟨.str z, rfl, z, rfl, fun D nD => lc_it (walk_str (z := z)) (fun i H' => Grow H D ((z.cps.toList.map fun c => V.bl (decide (c ∈ abc.cps.toList))).take i) H')
          (grow0 nD) (fun _ _ _ _ => trivial) (fun i x H2 H3 hi hP hY => ?_) (fun H2 hP => ?_)⟩
        · obtain ⟨rfl, c, hc, rfl⟩ := hY
          have hc' : z.cps.toList[i]? = some c := by rw [Array.getElem?_toList]; exact hc
          refine ⟨rfl, .str ⟨#[c]⟩, rfl, c, abc, rfl, rfl, grow1 nD hP ?_ (take_next hc')⟩
          rw [List.length_take, List.length_map, Array.length_toList]
          omega
        · obtain ⟨sm, hD⟩ := hP
          rw [List.take_of_length_le (by rw [List.length_map, Array.length_toList]; exact Nat.le_refl _)] at hD
          refine ⟨D, z.cps.toList.map fun c => decide (c ∈ abc.cps.toList), rfl, .inl (.inl (by rw [List.map_map]; exact hD)), ?_⟩
          rw [← e3]
          exact q _ sm
      · have e3 : isNm z = false := by
          unfold isNm
          rw [decide_eq_false (show ¬ z.length ≤ 8 from fun u => e2 (decide_eq_true (by omega)))]
          simp
        rw [e3] at q
        exact q _ (Same.refl H)
    · have e3 : isNm z = false := by
        unfold isNm
        rw [decide_eq_false (show ¬ 1 ≤ z.length from fun u => e1 (decide_eq_true (by omega)))]
        simp
      rw [e3] at q
      exact ⟨false, rfl, iteF (q _ (Same.refl H))⟩
/-! ### all_in -/
def spAllIn (K : PySem.W.Frag) : Sp := fun vs H Q _ => ∃ (a b : Addr) (zs ws : List Str), vs = [.ref a, .ref b] ∧ zs.length ≤ 1000 ∧ SqT K H a (zs.map V.str) ∧ Sq K H b (ws.map V.str) ∧ ∀ H', Same H H' → Q (.bl (zs.all fun z => decide (z ∈ ws))) H'
theorem scAllIn : FnScope ["names", "known", "name"] ["names", "known"] (defScope s_all_in) := ⟨rfl, rfl, rfl, by decide +kernel, rfl, by decide +kernel, by decide +kernel⟩
theorem ok_allIn {f : Addr} {fd : FuncData} {k : Nat} (F : Fun K "all_in" "all_in" s_all_in f fd) (B : Blt mg) : FnOk P w K mg base CX0 (k + 1) f fd ["names", "known"] (spAllIn K) := by
  refine F.ok scAllIn (fun vs H Q E h => ?_) (fun cdv A outer s H vs Q E hr h => ?_)
  · obtain ⟨a, b, zs, ws, rfl, _⟩ := h
    rfl
  · obtain ⟨a, b, zs, ws, rfl, len, ha, hb, q⟩ := h
    refine ⟨_, pss_one (ps_ret (pe_callB (cr_all rfl) (by rfl) B.all PyProof.Rows.boot_all (pa_cons (pe_lc (own := [("name", 2)]) (g := gName 2) (tt := tYes) rfl scAllIn.nd (pi_tup (pv 0))
      (blkOk_by (N := ["names", "known", "name"]) (sc := defScope s_all_in) (by decide +kernel)) (fun _ _ _ _ _ => pg_name (i := 2) scAllIn.nd rfl (Or.inl rfl)) (fun _ _ _ _ _ => pts_nil) (fun _ _ _ _ _ => pe_cmpR (r := rIn K false) op_in_seq (pv 2) (pv 1) rfl)) pa_nil))), ?_⟩
    refine ⟨.ref a, rfl, a, rfl, ⟨_, ha⟩, fun D nD => lc_it (walk_tup (xs := zs.map V.str)) (fun i H' => Grow H D ((zs.map fun z => V.bl (decide (z ∈ ws))).take i) H')
      (grow0 nD) (fun i H' _ hP => Same.tup hP.1 ha) (fun i x H2 H3 hi hP hY => ?_) (fun H2 hP => ?_)⟩
    · obtain ⟨rfl, hx⟩ := hY
      obtain ⟨z, hz, rfl⟩ := at_map hx
      refine ⟨rfl, .str z, rfl, .ref b, rfl, b, _, rfl, Same.sq hP.1 hb, rfl, flat_strs ws, grow1 nD hP ?_ ?_⟩
      · rw [List.length_take, List.length_map]
        exact Nat.lt_of_le_of_lt (Nat.min_le_right _ _) (small1000 len)
      · rw [take_next hz, inV_str]
        rfl
    · obtain ⟨sm, hD⟩ := hP
      rw [List.length_map, List.take_of_length_le (by rw [List.length_map]; exact Nat.le_refl _)] at hD
      refine ⟨D, zs.map fun z => decide (z ∈ ws), rfl, .inl (.inl (by rw [List.map_map]; exact hD)), ?_⟩
      rw [List.all_map]
      exact q _ sm
end
/-- the class Locks as the top has made it -/
structure LkC (K : PySem.W.Frag) (mg : Str → Option Value) (C : Addr) : Prop where
  cl : Cls K C
  mgC : mg "Locks" = some (.ref C)
  nK : NoAttr K C "kept_names"
  tyc : PySem.W.findIn K (.ref C) "__class__" = some (some (.builtin "object.__class__"))
  tyg : PySem.W.specialIn K (.builtin "object.__class__") "__get__" = some (some (.builtin "getset_descriptor.__get__"))
  tyt : PySem.W.takesIn K (.builtin "object.__class__") = some true
  tym : PySem.W.mroIn K C (.type "object") = some true
  kit : PySem.W.kitOne K (.ref C) (.ref C) = some true
  sf : PySem.W.selfFirst K C = true
  nb : PySem.W.findIn K (.ref C) "__bool__" = some none
/-- a Locks at a with these names -/
structure LkAt (C : Addr) (H : Hp) (a : Addr) (zs : List Str) : Prop where
  ob : ∃ dx t, H a = some (.ins C dx [("kept_names", .ref t)]) ∧ H t = some (.tup (zs.map V.str))
  asc : Asc zs
  nm : ∀ z ∈ zs, isNm z = true
theorem LkAt.same {C : Addr} {H H' : Hp} {a : Addr} {zs : List Str} (h : LkAt C H a zs) (s : Same H H') : LkAt C H' a zs := by
  obtain ⟨⟨dx, t, h1, h2⟩, h3, h4⟩ := h
  exact ⟨⟨dx, t, s _ _ h1, s _ _ h2⟩, h3, h4⟩
section
variable {P : Program} {w : World} {K : PySem.W.Frag} {mg : Str → Option Value} {base : Heap} {C : Addr}
/-! ### check_other -/
def spCheck (C : Addr) : Sp := fun vs H Q _ => ∃ (a dx : Addr) (fs : List (Str × V)), vs = [.ref a] ∧ H a = some (.ins C dx fs) ∧ Q .non H
theorem scCheck : FnScope ["other"] ["other"] (defScope s_check_other) := ⟨rfl, rfl, rfl, by decide +kernel, rfl, by decide +kernel, by decide +kernel⟩
theorem ok_check {f : Addr} {fd : FuncData} {k : Nat} (F : Fun K "check_other" "check_other" s_check_other f fd) (B : Blt mg) (T : LkC K mg C) : FnOk P w K mg base CX0 (k + 1) f fd ["other"] (spCheck C) := by
  refine F.ok scCheck (fun vs H Q E h => ?_) (fun cdv A outer s H vs Q E hr h => ?_)
  · obtain ⟨a, dx, fs, rfl, _⟩ := h
    rfl
  · obtain ⟨a, dx, fs, rfl, ha, q⟩ := h
    refine ⟨_, pss_one (ps_if (pt_not (pt_val (pe_callB call_isi (by rfl) B.isi PyProof.Rows.boot_isinstance (pa_cons (pv 0) (pa_cons (pe_glob (v := .ref C) (by rfl) T.mgC rfl) pa_nil))))) (pss_one ps_never) pss_nil), ?_⟩
    exact ⟨.ref a, rfl, .ref a, .ref C, _, _, true, rfl, .own C, .base (.ins ha T.cl T.tyc T.tyg T.tyt T.tym), T.kit, true, rfl, iteF q⟩
/-! ### Locks.__init__ -/
def spIn (K : PySem.W.Frag) (C : Addr) : Sp := fun vs H Q _ => ∃ (x dx p : Addr) (zs : List Str), vs = [.ref x, .ref p] ∧ H x = some (.ins C dx []) ∧ SqT K H p (zs.map V.str) ∧ (∀ z ∈ zs, isNm z = true) ∧ zs.length < 64 ∧
  ∀ H' t, (∀ b o, H b = some o → b ≠ x → H' b = some o) → H' x = some (.ins C dx [("kept_names", .ref t)]) → H' t = some (.tup ((srt zs).map V.str)) → Q .non H'
theorem scInit : FnScope ["self", "names", "name"] ((["self"] : List Str) ++ (["names"] : List Str)) (defScope s_Locks___init__) := ⟨rfl, rfl, rfl, by decide +kernel, rfl, by decide +kernel, by decide +kernel⟩
/-- Locks(..): the new instance, then its names -/
def spNew (C : Addr) : Sp := fun vs H Q _ => ∃ (x dx : Addr) (zs : List Str), vs = .ref x :: zs.map V.str ∧ H x = some (.ins C dx []) ∧ (∀ z ∈ zs, isNm z = true) ∧ zs.length < 64 ∧
  ∀ H' t, (∀ b o, H b = some o → b ≠ x → H' b = some o) → H' x = some (.ins C dx [("kept_names", .ref t)]) → H' t = some (.tup ((srt zs).map V.str)) → Q .non H'
theorem ok_init {f fN : Addr} {fd fdN : FuncData} (F : Fun K "__init__" "Locks.__init__" s_Locks___init__ f fd) (B : Blt mg) (T : LkC K mg C) (GN : FnOk P w K mg base CX0 1 fN fdN ["value"] spName) (bN : Binds K fdN ["value"] []) (mN : mg "is_name" = some (.ref fN)) (kN : PySem.W.keepIn K (.ref fN) = true) :
    FnR P w K mg base CX0 2 f (spNew C) := by
  obtain ⟨oc, od, kV, doc, pm, an, cdv, ct, osl, rfl, lk, hcd⟩ := F.ex
  have R := StX.fn_star (P := P) (w := w) (mg := mg) (base := base) (k := 1) (ps := ["self"]) (pv := "names") (sp := spIn K C) lk hcd scInit StX.cxUp_none (StX.bind_star1 (B := fun us => bindArgs (PySem.W.fnOf "__init__" "Locks.__init__" (defArgs s_Locks___init__) (defBody s_Locks___init__) (defScope s_Locks___init__) .none kV doc pm an cdv ct) ⟨us, []⟩) (fun a => rfl) (fun a r rs => rfl)) (fun A outer s H vs Q E hr h => ?_)
  · intro A outer s H us vs Q E hr e0 r h
    refine R A outer s H us vs Q E hr e0 r ?_
    obtain ⟨x, dx, zs, rfl, hx, nm, few, q⟩ := h
    refine ⟨[.ref x], zs.map V.str, rfl, rfl, by rw [List.length_map, sizeLine_eq]; omega, fun p np => ?_⟩
    have nxp : x ≠ p := ne_of_none hx np
    refine ⟨x, dx, p, zs, rfl, by rw [upd_ne nxp]; exact hx, .inl (.inl upd_same), nm, few, fun H' t kp h1 h2 => q H' t (fun b o e hb => kp b o ?_ hb) h1 h2⟩
    rw [upd_ne (ne_of_none e np)]
    exact e
  · obtain ⟨x, dx, p, zs, rfl, hx, hp, nm, few, q⟩ := h
    refine ⟨_, (pss_cons (ps_if (pt_not (pt_val (pe_callB (cr_all rfl) (by rfl) B.all PyProof.Rows.boot_all (pa_cons (pe_lc (own := [("name", 2)]) (g := gName 2) (tt := tYes) rfl scInit.nd (pi_tup (pv 1))
      (blkOk_by (N := ["self", "names", "name"]) (sc := defScope s_Locks___init__) (by decide +kernel)) (fun _ _ _ _ _ => pg_name (i := 2) scInit.nd rfl (Or.inl rfl)) (fun _ _ _ _ _ => pts_nil)
      (fun _ _ _ _ _ => pe_call GN hr (by rfl) mN kN bN .nil pass0 (pa_cons (pv 2) pa_nil))) pa_nil)))) (pss_one ps_never) pss_nil)
      (pss_one (ps_fld (pv 0) (pe_callTy call_tuple_of (by rfl) B.tup PyProof.Rows.boot_tuple (pa_cons (pe_callB (cr_sortX rfl) (by rfl) B.srt PyProof.Rows.boot_sorted (pa_cons (pe_callTy (cr_setX rfl) (by rfl) B.set PyProof.Rows.boot_set (pa_cons (pv 1) pa_nil)) pa_nil)) pa_nil)) rfl))), ?_⟩
    refine ⟨.ref p, rfl, p, rfl, ⟨_, hp⟩, fun D nD => lc_it (walk_tup (xs := zs.map V.str)) (fun i H' => Grow H D ((zs.map fun z => V.bl true).take i) H')
      (grow0 nD) (fun i H' _ hP => Same.tup hP.1 hp) (fun i y H2 H3 hi hP hY => ?_) (fun H2 hP => ?_)⟩
    · obtain ⟨rfl, hy⟩ := hY
      obtain ⟨z, hz, rfl⟩ := at_map hy
      have hn := nm z (List.mem_of_getElem? hz)
      refine ⟨rfl, .str z, rfl, z, rfl, nm_line hn, fun H4 s4 => grow1 nD (hP.more s4) ?_ ?_⟩
      · rw [List.length_take, List.length_map]
        exact Nat.lt_of_le_of_lt (Nat.min_le_right _ _) (small1000 (by omega))
      · rw [hn, take_next hz]
    · obtain ⟨sm, hD⟩ := hP
      rw [List.length_map, List.take_of_length_le (by rw [List.length_map]; exact Nat.le_refl _)] at hD
      refine ⟨D, zs.map fun z => true, rfl, .inl (.inl (by rw [List.map_map]; exact hD)), true, ?_, iteF ?_⟩
      · congr 1
        rw [List.all_map]
        exact List.all_eq_true.mpr fun _ _ => rfl
      · -- self.kept_names = tuple(sorted(set(names)))
        refine ⟨.ref p, rfl, p, zs, rfl, .inl (Same.tup sm hp), by (have : scanBound = 4096 := rfl); omega, fun l c hc nl => ?_⟩
        refine ⟨l, _, c, rfl, upd_same, by omega, fun ys u hA hm hy nu => ?_⟩
        have ey : ys = srt zs := srt_of hA fun z => by rw [hm z, decide_eq_true_eq]
        subst ey
        refine ⟨u, _, rfl, .inl ⟨.inl (.inl upd_same), fun t nt => ?_⟩⟩
        have st := sm.trans ((same_new nl).trans ((same_new nu).trans (same_new nt (o := .tup ((srt zs).map V.str)))))
        have nxt : x ≠ t := ne_of_none ((sm.trans ((same_new nl).trans (same_new nu))) _ _ hx) nt
        refine ⟨.ref x, rfl, x, C, dx, [], rfl, st _ _ hx, T.cl, T.nK, by show 0 < 1000; decide, q _ t (fun b o e hb => ?_) upd_same ?_⟩
        · rw [upd_ne hb]
          exact st _ _ e
        · rw [upd_ne nxt.symm, upd_same]
end
theorem look_kept (t : Addr) : List.lookup ("kept_names" : Str) ([(("kept_names" : Str), V.ref t)] : List (Str × V)) = some (V.ref t) := by
  rw [List.lookup_cons, beq_self_eq_true]
theorem LkAt.few {C : Addr} {H : Hp} {a : Addr} {zs : List Str} (h : LkAt C H a zs) : True := trivial
section
variable {P : Program} {w : World} {K : PySem.W.Frag} {mg : Str → Option Value} {base : Heap} {C : Addr}
/-- the made Locks, whatever else is new -/
theorem made_at {H H' : Hp} {x dx t : Addr} {zs : List Str} (nx : H x = none) (nd : H dx = none) (ne : dx ≠ x) (nm : ∀ z ∈ zs, isNm z = true)
    (kp : ∀ b o, (upd (upd H dx (.own x)) x (.ins C dx [])) b = some o → b ≠ x → H' b = some o) (h1 : H' x = some (.ins C dx [("kept_names", .ref t)])) (h2 : H' t = some (.tup ((srt zs).map V.str))) : Same H H' ∧ LkAt C H' x (srt zs) :=
  ⟨Same.made nx nd kp, ⟨⟨dx, t, h1, h2⟩, asc_srt zs, fun z hz => nm z ((mem_srt zs z).1 hz)⟩⟩
/-- two Locks in, a Locks out -/
def spBin (C : Addr) (g : List Str → List Str → List Str) : Sp := fun vs H Q _ => ∃ (a b : Addr) (zs ws : List Str), vs = [.ref a, .ref b] ∧ LkAt C H a zs ∧ LkAt C H b ws ∧ zs.length + ws.length < 64 ∧ ∀ H' c, Same H H' → LkAt C H' c (g zs ws) → Q (.ref c) H'
def gOr (zs ws : List Str) : List Str := srt (zs ++ ws)
def gAnd (zs ws : List Str) : List Str := zs.filter fun z => decide (z ∈ ws)
def gSub (zs ws : List Str) : List Str := zs.filter fun z => !decide (z ∈ ws)
theorem asc_filter {zs : List Str} (p : Str → Bool) (h : Asc zs) : Asc (zs.filter p) := h.sublist List.filter_sublist

/-! ### __eq__ -/
def spEqL (C : Addr) : Sp := fun vs H Q _ => ∃ (a b : Addr) (zs ws : List Str), vs = [.ref a, .ref b] ∧ LkAt C H a zs ∧ LkAt C H b ws ∧ Q (.bl (decide (zs = ws))) H
theorem scEq : FnScope ["self", "other"] ["self", "other"] (defScope s_Locks___eq__) := ⟨rfl, rfl, rfl, by decide +kernel, rfl, by decide +kernel, by decide +kernel⟩
theorem ok_eq {f : Addr} {fd : FuncData} {k : Nat} (F : Fun K "__eq__" "Locks.__eq__" s_Locks___eq__ f fd) (B : Blt mg) (T : LkC K mg C) : FnOk P w K mg base CX0 (k + 1) f fd ["self", "other"] (spEqL C) := by
  refine F.ok scEq (fun vs H Q E h => ?_) (fun cdv A outer s H vs Q E hr h => ?_)
  · obtain ⟨a, b, zs, ws, rfl, _⟩ := h
    rfl
  · obtain ⟨a, b, zs, ws, rfl, ha, hb, q⟩ := h
    refine ⟨_, pss_one (ps_ret (pe_and (pe_callB call_isi (by rfl) B.isi PyProof.Rows.boot_isinstance (pa_cons (pv 1) (pa_cons (pe_glob (v := .ref C) (by rfl) T.mgC rfl) pa_nil)))
      (pe_one (pe_cmpR (op_eqD hr.units) (pe_fld (pv 0) rfl) (pe_fld (pv 1) rfl) (nomark _))))), ?_⟩
    obtain ⟨⟨dx, t, h1, h2⟩, a1, n1⟩ := ha
    obtain ⟨⟨dy, u, g1, g2⟩, a2, n2⟩ := hb
    refine ⟨.ref b, rfl, .ref b, .ref C, _, _, true, rfl, .own C, .base (.ins g1 T.cl T.tyc T.tyg T.tyt T.tym), T.kit, true, rfl, iteT ?_⟩
    refine ⟨.ref a, rfl, a, C, dx, _, _, rfl, h1, T.cl, T.nK, look_kept t, .ref b, rfl, b, C, dy, _, _, rfl, g1, T.cl, T.nK, look_kept u, _, _, .tup (.inl (.inl h2)) (dp_strs zs), .tup (.inl (.inl g2)) (dp_strs ws),
      shaped_strsT fun z hz => nm_ok (n1 z hz), shaped_strsT fun z hz => nm_ok (n2 z hz), ?_⟩
    rw [PyData.eqv, eqvAll_strs]
    exact q
/-! ### __contains__, __len__, names -/
def spHas (C : Addr) : Sp := fun vs H Q _ => ∃ (a : Addr) (zs : List Str) (z : Str), vs = [.ref a, .str z] ∧ LkAt C H a zs ∧ Q (.bl (decide (z ∈ zs))) H
theorem scHas : FnScope ["self", "name"] ["self", "name"] (defScope s_Locks___contains__) := ⟨rfl, rfl, rfl, by decide +kernel, rfl, by decide +kernel, by decide +kernel⟩
theorem ok_has {f : Addr} {fd : FuncData} {k : Nat} (F : Fun K "__contains__" "Locks.__contains__" s_Locks___contains__ f fd) (T : LkC K mg C) : FnOk P w K mg base CX0 (k + 1) f fd ["self", "name"] (spHas C) := by
  refine F.ok scHas (fun vs H Q E h => ?_) (fun cdv A outer s H vs Q E hr h => ?_)
  · obtain ⟨a, zs, z, rfl, _⟩ := h
    rfl
  · obtain ⟨a, zs, z, rfl, ⟨⟨dx, t, h1, h2⟩, a1, n1⟩, q⟩ := h
    refine ⟨_, pss_one (ps_ret (pe_cmpR op_in_seq (pv 1) (pe_fld (pv 0) rfl) rfl)), ?_⟩
    refine ⟨.str z, rfl, .ref a, rfl, a, C, dx, _, _, rfl, h1, T.cl, T.nK, look_kept t, t, _, rfl, .inr (.inl (.inl h2)), rfl, flat_strs zs, ?_⟩
    rw [inV_str]
    exact q
def spLen (C : Addr) : Sp := fun vs H Q _ => ∃ (a : Addr) (zs : List Str), vs = [.ref a] ∧ LkAt C H a zs ∧ Q (.int zs.length) H
theorem scLen : FnScope ["self"] ["self"] (defScope s_Locks___len__) := ⟨rfl, rfl, rfl, by decide +kernel, rfl, by decide +kernel, by decide +kernel⟩
theorem ok_len {f : Addr} {fd : FuncData} {k : Nat} (F : Fun K "__len__" "Locks.__len__" s_Locks___len__ f fd) (B : Blt mg) (T : LkC K mg C) : FnOk P w K mg base CX0 (k + 1) f fd ["self"] (spLen C) := by
  refine F.ok scLen (fun vs H Q E h => ?_) (fun cdv A outer s H vs Q E hr h => ?_)
  · obtain ⟨a, zs, rfl, _⟩ := h
    rfl
  · obtain ⟨a, zs, rfl, ⟨⟨dx, t, h1, h2⟩, a1, n1⟩, q⟩ := h
    refine ⟨_, pss_one (ps_ret (pe_callB call_len_seq (by rfl) B.len PySem.boot_len (pa_cons (pe_fld (pv 0) rfl) pa_nil))), ?_⟩
    refine ⟨.ref a, rfl, a, C, dx, _, _, rfl, h1, T.cl, T.nK, look_kept t, t, _, rfl, .inr (.inl (.inl h2)), ?_⟩
    rw [List.length_map]
    exact q
def spNames (C : Addr) : Sp := fun vs H Q _ => ∃ (a : Addr) (zs : List Str), vs = [.ref a] ∧ LkAt C H a zs ∧ ∀ l, H l = none → Q (.ref l) (upd H l (.lst (zs.map V.str)))
theorem scNames : FnScope ["self"] ["self"] (defScope s_Locks_names) := ⟨rfl, rfl, rfl, by decide +kernel, rfl, by decide +kernel, by decide +kernel⟩
theorem ok_names {f : Addr} {fd : FuncData} {k : Nat} (F : Fun K "names" "Locks.names" s_Locks_names f fd) (B : Blt mg) (T : LkC K mg C) : FnOk P w K mg base CX0 (k + 1) f fd ["self"] (spNames C) := by
  refine F.ok scNames (fun vs H Q E h => ?_) (fun cdv A outer s H vs Q E hr h => ?_)
  · obtain ⟨a, zs, rfl, _⟩ := h
    rfl
  · obtain ⟨a, zs, rfl, ⟨⟨dx, t, h1, h2⟩, a1, n1⟩, q⟩ := h
    refine ⟨_, pss_one (ps_ret (pe_callTy call_list_of (by rfl) B.lst PyProof.Rows.boot_list (pa_cons (pe_fld (pv 0) rfl) pa_nil))), ?_⟩
    exact ⟨.ref a, rfl, a, C, dx, _, _, rfl, h1, T.cl, T.nK, look_kept t, t, _, rfl, .inr (.inl (.inl h2)), q⟩
/-! ### __or__, __and__, __sub__ -/
theorem scOr : FnScope ["self", "other", "names"] ["self", "other"] (defScope s_Locks___or__) := ⟨rfl, rfl, rfl, by decide +kernel, rfl, by decide +kernel, by decide +kernel⟩
theorem ok_or {f fC fI : Addr} {fd fdC : FuncData} (F : Fun K "__or__" "Locks.__or__" s_Locks___or__ f fd) (T : LkC K mg C)
    (GC : FnOk P w K mg base CX0 1 fC fdC ["other"] (spCheck C)) (bC : Binds K fdC ["other"] []) (mC : mg "check_other" = some (.ref fC)) (kC : PySem.W.keepIn K (.ref fC) = true)
    (M : Mk K C fI) (GI : FnR P w K mg base CX0 2 fI (spNew C)) : FnOk P w K mg base CX0 4 f fd ["self", "other"] (spBin C gOr) := by
  refine F.ok scOr (fun vs H Q E h => ?_) (fun cdv A outer s H vs Q E hr h => ?_)
  · obtain ⟨a, b, zs, ws, rfl, _⟩ := h
    rfl
  · obtain ⟨a, b, zs, ws, rfl, ⟨⟨dx, t, h1, h2⟩, a1, n1⟩, ⟨⟨dy, u, g1, g2⟩, a2, n2⟩, few, q⟩ := h
    refine ⟨_, pss_cons (ps_expr (pe_call GC (hr.mono (by decide)) (by rfl) mC kC bC .nil pass0 (pa_cons (pv 1) pa_nil)))
      (pss_cons (ps_set (i := 2) scOr.nd rfl (.inl rfl) (pe_op op_catA (pe_fld (pv 0) rfl) (pe_fld (pv 1) rfl)))
      (pss_one (ps_ret (pe_makeS (E := E0) M GI hr (by rfl) T.mgC pass0 (pv 2))))), ?_⟩
    refine ⟨.ref b, rfl, b, dy, _, rfl, g1, ?_⟩
    refine ⟨.ref a, rfl, a, C, dx, _, _, rfl, h1, T.cl, T.nK, look_kept t, .ref b, rfl, b, C, dy, _, _, rfl, g1, T.cl, T.nK, look_kept u, t, u, _, _, rfl, rfl, .inl (.inl h2), .inl (.inl g2), by rw [List.length_map, List.length_map, sizeLine_eq]; omega, ?_⟩
    have fin : ∀ (H1 : Hp) (p : Addr), Same H H1 → H1 p = some (.tup ((zs ++ ws).map V.str)) → ∃ v, ([some (V.ref a), some (V.ref b), some (V.ref p)] : L2.St)[2]? = some (some v) ∧ ∃ a' xs, v = V.ref a' ∧ (SqT K H1 a' xs ∨ SqL K H1 a' xs) ∧ ∀ x dx, H1 x = none → H1 dx = none → dx ≠ x →
        spNew C (V.ref x :: xs) (upd (upd H1 dx (.own x)) x (.ins C dx [])) (fun v H2 => v = .non ∧ Q (.ref x) H2) E0 := fun H1 p s1 hp => by
      refine ⟨_, rfl, p, _, rfl, .inl (.inl (.inl hp)), fun x ex nx ne hne => ⟨x, ex, zs ++ ws, rfl, upd_same, ?_, by rw [List.length_append]; omega, fun H2 t2 kp e1 e2 => ⟨rfl, ?_⟩⟩⟩
      · intro z hz
        rcases List.mem_append.mp hz with k | k
        · exact n1 z k
        · exact n2 z k
      · obtain ⟨s2, m2⟩ := made_at nx ne hne (fun z hz => (List.mem_append.mp hz).elim (n1 z) (n2 z)) kp e1 e2
        exact q H2 x (s1.trans s2) m2
    refine ⟨fun e => ?_, fun e e' => ?_, fun e e' p np => ?_⟩
    · have ez : zs = [] := List.map_eq_nil_iff.mp e
      subst ez
      exact fin H u (Same.refl H) g2
    · have ez : ws = [] := List.map_eq_nil_iff.mp e'
      subst ez
      exact fin H t (Same.refl H) (by rw [List.append_nil]; exact h2)
    · exact fin _ p (same_new np) (by rw [upd_same, List.map_append])
end
end Lk
set_option Elab.async false
set_option linter.all false
set_option maxRecDepth 100000
set_option maxHeartbeats 2000000
/-! Comprehensions that map and keep, dicts that stay, counts of sets. -/
namespace Lk
open PySem PySem.Spec PyProof.Rows L2 TxS LkO
/-- [f(x) for x in .. if p(x)], where a turn only makes objects -/
theorem lc_mf {J : It} {n : Nat} {G : Hp → Prop} {Y : Nat → Hp → V → Hp → Prop} (w : Walk J n G Y) {g : TG} {tt : TT} {te : TE} {vs : List Nat} {σ : L2.St} {H1 : Hp} {D : Addr} {Qd : Hp → Prop} {α : Type} (l : List α) (p : α → Bool) (f : α → V) (hn : n = l.length) (nD : H1 D = none) (few : l.length ≤ 1000)
    (hG : ∀ H', Same H1 H' → G H')
    (hs : ∀ i a x H2 H' (Kt : VK) (Kf : Hp → Prop), l[i]? = some a → Same H1 H2 → Y i H2 x H' → (p a = true → ∀ H5, Same H2 H5 → Kt (f a) H5) → (p a = false → ∀ H5, Same H2 H5 → Kf H5) →
      g x (wipe σ vs) H' fun σ2 H3 => wipe σ2 vs = wipe σ vs ∧ tt σ2 H3 fun b H4 => if b = true then te σ2 H4 Kt else Kf H4)
    (hd : ∀ H2, Same H1 H2 → H2 D = some (.lst ((l.filter p).map f)) → Qd H2) :
    ∃ W : Nat → Nat → Hp → Prop, (∃ m, W 0 m (upd H1 D (.lst []))) ∧ ∀ i m H, W i m H → (J.stop i H ∧ Qd H) ∨ (J.go i H ∧ ∃ Nx : Hp → Prop, (∀ H', Nx H' → ∃ m', m' < m ∧ W (i + 1) m' H') ∧
      ∀ x H', J.yld i H x H' → g x (wipe σ vs) H' fun σ2 H2 => wipe σ2 vs = wipe σ vs ∧ tt σ2 H2 fun b H3 => if b = true then te σ2 H3 fun y H4 => ∃ acc, H4 D = some (.lst acc) ∧ acc.length < sizeLine ∧ Nx (upd H4 D (.lst (acc ++ [y]))) else Nx H3) := by
  refine lc_it w (fun i H' => Grow H1 D (((l.take i).filter p).map f) H') (grow0 nD) (fun i H' _ hP => hG H' hP.1) (fun i x H2 H3 hi hP hY => ?_) (fun H2 hP => ?_)
  · have hl : i < l.length := hn ▸ hi
    have ha : l[i]? = some l[i] := List.getElem?_eq_getElem hl
    refine hs i l[i] x H2 H3 _ _ ha hP.1 hY (fun e H5 s5 => ?_) fun e H5 s5 => ?_
    · refine grow1 nD (hP.more s5) ?_ ?_
      · rw [List.length_map]
        refine Nat.lt_of_le_of_lt (Nat.le_trans (List.length_filter_le _ _) ?_) (small1000 few)
        rw [List.length_take]
        exact Nat.min_le_right _ _
      · rw [take_next1 ha, List.filter_append, List.map_append, List.filter_cons, if_pos e]
        rfl
    · have g5 := hP.more s5
      rw [show (l.take (i + 1)).filter p = (l.take i).filter p from by rw [take_next1 ha, List.filter_append, List.filter_cons, if_neg (by rw [e]; exact Bool.false_ne_true)]; exact List.append_nil _]
      exact g5
  · obtain ⟨sm, e⟩ := hP
    rw [hn, List.take_length] at e
    exact hd H2 sm e
/-- [f(x) for x in ..] -/
theorem lc_m {J : It} {n : Nat} {G : Hp → Prop} {Y : Nat → Hp → V → Hp → Prop} (w : Walk J n G Y) {g : TG} {te : TE} {vs : List Nat} {σ : L2.St} {H1 : Hp} {D : Addr} {Qd : Hp → Prop} {α : Type} (l : List α) (f : α → V) (hn : n = l.length) (nD : H1 D = none) (few : l.length ≤ 1000)
    (hG : ∀ H', Same H1 H' → G H')
    (hs : ∀ i a x H2 H' (Kt : VK), l[i]? = some a → Same H1 H2 → Y i H2 x H' → (∀ H5, Same H2 H5 → Kt (f a) H5) → g x (wipe σ vs) H' fun σ2 H3 => wipe σ2 vs = wipe σ vs ∧ te σ2 H3 Kt)
    (hd : ∀ H2, Same H1 H2 → H2 D = some (.lst (l.map f)) → Qd H2) :
    ∃ W : Nat → Nat → Hp → Prop, (∃ m, W 0 m (upd H1 D (.lst []))) ∧ ∀ i m H, W i m H → (J.stop i H ∧ Qd H) ∨ (J.go i H ∧ ∃ Nx : Hp → Prop, (∀ H', Nx H' → ∃ m', m' < m ∧ W (i + 1) m' H') ∧
      ∀ x H', J.yld i H x H' → g x (wipe σ vs) H' fun σ2 H2 => wipe σ2 vs = wipe σ vs ∧ tYes σ2 H2 fun b H3 => if b = true then te σ2 H3 fun y H4 => ∃ acc, H4 D = some (.lst acc) ∧ acc.length < sizeLine ∧ Nx (upd H4 D (.lst (acc ++ [y]))) else Nx H3) :=
  lc_mf w l (fun _ => true) f hn nD few hG (fun i a x H2 H' Kt Kf ha s1 hY k _ => hs i a x H2 H' Kt ha s1 hY (k rfl)) fun H2 s2 e => hd H2 s2 (by rw [e, List.filter_eq_self.mpr fun _ _ => rfl])
theorem ty_tup {K : PySem.W.Frag} {H : Hp} {a : Addr} {xs : List V} (h : SqT K H a xs) : TyX K H (.ref a) (.type "tuple") := by
  rcases h with (h | ⟨o, h⟩) | ⟨o, _, _, h, c, _⟩
  · exact .base (.tup h)
  · exact .fTuple h
  · exact .kTuple h c
theorem nodup_asc : ∀ {l : List Str}, Asc l → l.Nodup := fun {l} h => by
  unfold Asc at h
  refine List.Pairwise.imp (fun {a b} hab e => ?_) h
  rw [e] at hab
  exact sl_irr b hab
theorem len_same : ∀ {l m : List Str}, l.Nodup → m.Nodup → (∀ z, z ∈ l ↔ z ∈ m) → l.length = m.length := fun {l m} hl hm e => (List.perm_ext_iff_of_nodup hl hm |>.mpr e).length_eq
/-- len(set(..)) -/
theorem cr_lenZ {X : Cx} : CallR X (.builtin "len") (fun xs H Q => ∃ (a : Addr) (zs : List Str) (n : Nat), xs = [V.ref a] ∧ H a = some (SetXO X.w a (fun z => decide (z ∈ zs)) n) ∧ Q (.int (srt zs).length) H) := by
  intro pins s σ H vs us Q I r h
  obtain ⟨a, zs, n, rfl, ha, q⟩ := h
  refine cr_lenX pins s σ H _ us Q I r ⟨a, _, n, rfl, ha, ?_⟩
  obtain ⟨ob, es, ep, t, hob, ex, hd, T, hn⟩ := setXO_get I ha
  have e : n = (srt zs).length := by
    rw [← hn, ← Array.length_toList, ← List.length_map (f := txt)]
    exact len_same T.nd (nodup_asc (asc_srt zs)) fun z => by rw [← T.mem z, decide_eq_true_eq, mem_srt]
  rw [e]
  exact q
theorem srt_full (zs : List Str) : ((srt zs).length = zs.length) ↔ zs.Nodup := by
  constructor
  · intro e
    have k := full_len zs
    exact k e
  · intro h
    exact len_same (nodup_asc (asc_srt zs)) h fun z => mem_srt zs z
where
  full_len : ∀ zs : List Str, (srt zs).length = zs.length → zs.Nodup
    | [], _ => List.nodup_nil
    | z :: r, e => by
      have h1 : (ins z (srt r)).length ≤ (srt r).length + 1 := len_ins z _
      have h2 := len_srt r
      have h3 : (ins z (srt r)).length = r.length + 1 := e
      have h4 : (srt r).length = r.length := by omega
      refine List.nodup_cons.mpr ⟨fun hm => ?_, full_len r h4⟩
      have h5 : srt (z :: r) = srt r := srt_eq fun y => ⟨fun h => (List.mem_cons.mp h).elim (fun e => e ▸ hm) id, List.mem_cons_of_mem _⟩
      rw [h5] at e
      simp only [List.length_cons] at e
      omega
/-! ### dicts that are never changed again -/
def tFrz (t : TE) : TE := fun σ H Q => t σ H fun v H' => ∃ d u, v = .ref d ∧ H' d = some u ∧ Mut (some u) ∧ ∀ od, Q v (upd H' d (.frz od u))
theorem pe_frz {X : Cx} {e : Expr} {t : TE} (h : PE X e t) : PE X e (tFrz t) := by
  refine ⟨fun pins s σ H Q I hw => thn (h.run pins s σ H _ I hw) fun u s1 z => ?_⟩
  obtain ⟨v, H1, I1, rv, d, o, ev, hd, mu, q⟩ := z
  obtain ⟨od, I2⟩ := I1.lock hd mu
  exact ⟨v, _, I2, rv, q od⟩
/-- what stands at d is frozen ahead of the statement -/
def sFrz (t : TS) : TS := fun D σ H => ∃ d u, H d = some u ∧ Mut (some u) ∧ ∀ od, t D σ (upd H d (.frz od u))
theorem ps_frz {X : Cx} {st : Stmt} {t : TS} (h : PS X st t) : PS X st (sFrz t) := by
  refine ⟨fun pins s σ H D I hw => ?_⟩
  obtain ⟨d, u, hd, mu, q⟩ := hw
  obtain ⟨od, I2⟩ := I.lock hd mu
  exact h.run pins s σ _ D I2 (q od)
end Lk
set_option Elab.async false
set_option linter.all false
set_option maxRecDepth 100000
set_option maxHeartbeats 2000000
namespace Lk
open PySem PySem.Spec PyProof.Rows L2 TxS LkO
def areNm (zs : List Str) : Bool := zs.all isNm && decide zs.Nodup
section
variable {P : Program} {w : World} {K : PySem.W.Frag} {mg : Str → Option Value} {base : Heap} {C : Addr}
/-! ### are_names -/
def spAre (K : PySem.W.Frag) : Sp := fun vs H Q _ => ∃ (a : Addr) (zs : List Str), vs = [.ref a] ∧ zs.length ≤ 1000 ∧ (∀ z ∈ zs, z.length ≤ sizeLine) ∧ SqT K H a (zs.map V.str) ∧ ∀ H', Same H H' → Q (.bl (areNm zs)) H'
theorem scAre : FnScope ["values", "value"] ["values"] (defScope s_are_names) := ⟨rfl, rfl, rfl, by decide +kernel, rfl, by decide +kernel, by decide +kernel⟩
theorem ok_are {f fN : Addr} {fd fdN : FuncData} (F : Fun K "are_names" "are_names" s_are_names f fd) (B : Blt mg) (GN : FnOk P w K mg base CX0 1 fN fdN ["value"] spName) (bN : Binds K fdN ["value"] []) (mN : mg "is_name" = some (.ref fN)) (kN : PySem.W.keepIn K (.ref fN) = true) :
    FnOk P w K mg base CX0 2 f fd ["values"] (spAre K) := by
  refine F.ok scAre (fun vs H Q E h => ?_) (fun cdv A outer s H vs Q E hr h => ?_)
  · obtain ⟨a, zs, rfl, _⟩ := h
    rfl
  · obtain ⟨a, zs, rfl, few, lens, ha, q⟩ := h
    refine ⟨_, pss_one (ps_ret (pe_and (pe_callB call_isi (by rfl) B.isi PyProof.Rows.boot_isinstance (pa_cons (pv 0) (pa_cons (pe_bltn (v := .ty "tuple") (by rfl) B.tup PyProof.Rows.boot_tuple rfl) pa_nil)))
      (pe_and (pe_callB (cr_all rfl) (by rfl) B.all PyProof.Rows.boot_all (pa_cons (pe_lc (own := [("value", 1)]) (g := gName 1) (tt := tYes) rfl scAre.nd (pi_tup (pv 0)) (blkOk_by (N := ["values", "value"]) (sc := defScope s_are_names) (by decide +kernel))
        (fun _ _ _ _ _ => pg_name (i := 1) scAre.nd rfl (Or.inl rfl)) (fun _ _ _ _ _ => pts_nil) (fun _ _ _ _ _ => pe_call GN hr (by rfl) mN kN bN .nil pass0 (pa_cons (pv 1) pa_nil))) pa_nil))
      (pe_one (pe_cmpR op_eq (pe_callB cr_lenZ (by rfl) B.len PySem.boot_len (pa_cons (pe_callTy (cr_setX rfl) (by rfl) B.set PyProof.Rows.boot_set (pa_cons (pv 0) pa_nil)) pa_nil)) (pe_callB call_len_seq (by rfl) B.len PySem.boot_len (pa_cons (pv 0) pa_nil)) (nomark _)))))), ?_⟩
    refine ⟨.ref a, rfl, .ref a, .ty "tuple", _, _, true, rfl, .ty _, ty_tup ha, kit_ty (by decide +kernel), true, rfl, iteT ?_⟩
    refine ⟨.ref a, rfl, a, rfl, ⟨_, ha⟩, fun D nD => lc_m (walk_tup (xs := zs.map V.str)) zs (fun z => .bl (isNm z)) (by rw [List.length_map]) nD few (fun H' s => Same.tup s ha) (fun i z x H2 H3 Kt hz s2 hY k => ?_) (fun H2 s2 e => ?_)⟩
    · obtain ⟨rfl, hx⟩ := hY
      rw [List.getElem?_map, hz] at hx
      cases hx
      exact ⟨rfl, .str z, rfl, z, rfl, lens z (List.mem_of_getElem? hz), fun H4 s4 => k H4 s4⟩
    · refine ⟨D, zs.map isNm, rfl, .inl (.inl (by rw [List.map_map]; exact e)), _, rfl, ite2 (fun t => ?_) (fun t => ?_)⟩
      · have t1 : zs.all isNm = true := by
          rw [List.all_map] at t
          exact t
        refine ⟨.ref a, rfl, a, zs, rfl, .inl (Same.tup s2 ha), by (have : scanBound = 4096 := rfl); omega, fun l c hc nl => ?_⟩
        refine ⟨l, zs, c, rfl, upd_same, .ref a, rfl, a, _, rfl, .inr (Same.tup (s2.trans (same_new nl)) ha), ?_⟩
        have e2 : areNm zs = decide (V.int (srt zs).length = V.int (zs.map V.str).length) := by
          unfold areNm
          rw [t1, Bool.true_and, List.length_map]
          refine decide_eq_decide.mpr ⟨fun h => ?_, fun h => ?_⟩
          · rw [(srt_full zs).2 h]
          · exact (srt_full zs).1 (by have := V.int.inj h; omega)
        have q2 := q _ (s2.trans (same_new nl (o := SetXO w l (fun y => decide (y ∈ zs)) c)))
        rw [e2] at q2
        exact ⟨rfl, q2⟩
      · have e2 : areNm zs = false := by
          unfold areNm
          rw [List.all_map] at t
          rw [Bool.eq_false_iff.mpr (show ¬ (zs.all isNm = true) from t), Bool.false_and]
        rw [e2] at q
        exact q _ s2
/-! ### is_cost -/
def spCost : Sp := fun vs H Q _ => ∃ i : Int, vs = [.int i] ∧ Q (.bl (decide (1 ≤ i) && decide (i ≤ 9))) H
theorem scCost : FnScope ["value"] ["value"] (defScope s_is_cost) := ⟨rfl, rfl, rfl, by decide +kernel, rfl, by decide +kernel, by decide +kernel⟩
theorem ok_cost {f : Addr} {fd : FuncData} {k : Nat} (F : Fun K "is_cost" "is_cost" s_is_cost f fd) (B : Blt mg) (mH : ∃ t, mg "HIGHEST_COST" = some (.int 9 t)) : FnOk P w K mg base CX0 (k + 1) f fd ["value"] spCost := by
  obtain ⟨t9, e9⟩ := mH
  refine F.ok scCost (fun vs H Q E h => ?_) (fun cdv A outer s H vs Q E hr h => ?_)
  · obtain ⟨i, rfl, _⟩ := h
    rfl
  · obtain ⟨i, rfl, q⟩ := h
    refine ⟨_, pss_one (ps_ret (pe_and (pe_callB call_isi (by rfl) B.isi PyProof.Rows.boot_isinstance (pa_cons (pv 0) (pa_cons (pe_bltn (v := .ty "int") (by rfl) B.int PyProof.Rows.boot_int rfl) pa_nil)))
      (pe_and (pe_not (pe_callB call_isi (by rfl) B.isi PyProof.Rows.boot_isinstance (pa_cons (pv 0) (pa_cons (pe_bltn (v := .ty "bool") (by rfl) B.bl PyProof.Rows.boot_bool rfl) pa_nil))))
      (pe_one (pe_chain op_le op_le pe_int (pv 0) (pe_glob (v := .int 9) (by rfl) e9 ⟨_, rfl⟩)))))), ?_⟩
    refine ⟨.int i, rfl, .int i, .ty "int", _, _, true, rfl, .ty _, .base (.int i), kit_ty (by decide +kernel), true, rfl, iteT ?_⟩
    refine ⟨.int i, rfl, .int i, .ty "bool", _, _, false, rfl, .ty _, .base (.int i), kit_ty (by decide +kernel), false, rfl, true, rfl, iteT ?_⟩
    refine ⟨.int i, rfl, 1, i, rfl, rfl, _, rfl, ite2 (fun e => ?_) (fun e => ?_)⟩
    · refine ⟨i, 9, rfl, rfl, ?_⟩
      rw [show decide (1 ≤ i) = true from e, Bool.true_and] at q
      exact q
    · rw [show decide (1 ≤ i) = false from Bool.eq_false_iff.mpr e, Bool.false_and] at q
      exact q
/-! ### all_in: lists in lists, tuples in dicts -/
def spAllInL (K : PySem.W.Frag) : Sp := fun vs H Q _ => ∃ (a b : Addr) (zs ws : List Str), vs = [.ref a, .ref b] ∧ zs.length ≤ 1000 ∧ SqL K H a (zs.map V.str) ∧ Sq K H b (ws.map V.str) ∧ ∀ H', Same H H' → Q (.bl (zs.all fun z => decide (z ∈ ws))) H'
theorem ok_allInL {f : Addr} {fd : FuncData} {k : Nat} (F : Fun K "all_in" "all_in" s_all_in f fd) (B : Blt mg) : FnOk P w K mg base CX0 (k + 1) f fd ["names", "known"] (spAllInL K) := by
  refine F.ok scAllIn (fun vs H Q E h => ?_) (fun cdv A outer s H vs Q E hr h => ?_)
  · obtain ⟨a, b, zs, ws, rfl, _⟩ := h
    rfl
  · obtain ⟨a, b, zs, ws, rfl, len, ha, hb, q⟩ := h
    refine ⟨_, pss_one (ps_ret (pe_callB (cr_all rfl) (by rfl) B.all PyProof.Rows.boot_all (pa_cons (pe_lc (own := [("name", 2)]) (g := gName 2) (tt := tYes) rfl scAllIn.nd (pi_list (pv 0))
      (blkOk_by (N := ["names", "known", "name"]) (sc := defScope s_all_in) (by decide +kernel)) (fun _ _ _ _ _ => pg_name (i := 2) scAllIn.nd rfl (Or.inl rfl)) (fun _ _ _ _ _ => pts_nil) (fun _ _ _ _ _ => pe_cmpR (r := rIn K false) op_in_seq (pv 2) (pv 1) rfl)) pa_nil))), ?_⟩
    refine ⟨.ref a, rfl, a, rfl, ⟨_, ha⟩, fun D nD => lc_m (walk_list (xs := zs.map V.str)) zs (fun z => .bl (decide (z ∈ ws))) (by rw [List.length_map]) nD len (fun H' s => s.seq ha) (fun i z x H2 H3 Kt hz s2 hY k => ?_) (fun H2 s2 e => ?_)⟩
    · obtain ⟨rfl, hx⟩ := hY
      rw [List.getElem?_map, hz] at hx
      cases hx
      refine ⟨rfl, .str z, rfl, .ref b, rfl, b, _, rfl, Same.sq s2 hb, rfl, flat_strs ws, ?_⟩
      rw [inV_str]
      exact k _ (Same.refl _)
    · refine ⟨D, zs.map fun z => decide (z ∈ ws), rfl, .inl (.inl (by rw [List.map_map]; exact e)), ?_⟩
      rw [List.all_map]
      exact q _ s2
def spAllInD (K : PySem.W.Frag) : Sp := fun vs H Q _ => ∃ (a b : Addr) (zs : List Str) (kvs : List (Key × V)), vs = [.ref a, .ref b] ∧ zs.length ≤ 1000 ∧ SqT K H a (zs.map V.str) ∧ (∃ o, H b = some (.frz o (.dK kvs))) ∧ ∀ H', Same H H' → Q (.bl (zs.all fun z => (valV kvs (.inr z)).isSome)) H'
theorem ok_allInD {f : Addr} {fd : FuncData} {k : Nat} (F : Fun K "all_in" "all_in" s_all_in f fd) (B : Blt mg) : FnOk P w K mg base CX0 (k + 1) f fd ["names", "known"] (spAllInD K) := by
  refine F.ok scAllIn (fun vs H Q E h => ?_) (fun cdv A outer s H vs Q E hr h => ?_)
  · obtain ⟨a, b, zs, kvs, rfl, _⟩ := h
    rfl
  · obtain ⟨a, b, zs, kvs, rfl, len, ha, ⟨o, hb⟩, q⟩ := h
    refine ⟨_, pss_one (ps_ret (pe_callB (cr_all rfl) (by rfl) B.all PyProof.Rows.boot_all (pa_cons (pe_lc (own := [("name", 2)]) (g := gName 2) (tt := tYes) (te := tDIn (tVar 2) (tVar 1)) rfl scAllIn.nd (pi_tup (pv 0))
      (blkOk_by (N := ["names", "known", "name"]) (sc := defScope s_all_in) (by decide +kernel)) (fun _ _ _ _ _ => pg_name (i := 2) scAllIn.nd rfl (Or.inl rfl)) (fun _ _ _ _ _ => pts_nil) (fun _ _ _ _ _ => pe_cmp (pc_din (hu_of hr) (pv 2) (pv 1)) rfl)) pa_nil))), ?_⟩
    refine ⟨.ref a, rfl, a, rfl, ⟨_, ha⟩, fun D nD => lc_m (walk_tup (xs := zs.map V.str)) zs (fun z => .bl (valV kvs (.inr z)).isSome) (by rw [List.length_map]) nD len (fun H' s => Same.tup s ha) (fun i z x H2 H3 Kt hz s2 hY k => ?_) (fun H2 s2 e => ?_)⟩
    · obtain ⟨rfl, hx⟩ := hY
      rw [List.getElem?_map, hz] at hx
      cases hx
      exact ⟨rfl, .str z, rfl, .ref b, rfl, b, _, rfl, .inl ⟨kvs, .inr z, .inr ⟨o, s2 _ _ hb⟩, rfl, rfl⟩, k _ (Same.refl _)⟩
    · refine ⟨D, zs.map fun z => (valV kvs (.inr z)).isSome, rfl, .inl (.inl (by rw [List.map_map]; exact e)), ?_⟩
      rw [List.all_map]
      exact q _ s2
end
end Lk
set_option Elab.async false
set_option linter.all false
set_option maxRecDepth 100000
set_option maxHeartbeats 2000000
namespace Lk
open PySem PySem.Spec PyProof.Rows L2 TxS LkO LkG
/-! ### defs, methods, properties, classes, each in one piece -/
structure Fn (P : Program) (w : World) (K : PySem.W.Frag) (mg : Str → Option Value) (base : Heap) (k : Nat) (x : Str) (ps : List Str) (sp : Sp) : Prop where
  ex : ∃ f fd, mg x = some (.ref f) ∧ PySem.W.keepIn K (.ref f) = true ∧ Binds K fd ps [] ∧ FnOk P w K mg base CX0 k f fd ps sp
structure Mt (P : Program) (w : World) (K : PySem.W.Frag) (mg : Str → Option Value) (base : Heap) (k : Nat) (C : Addr) (x : Str) (ps : List Str) (sp : Sp) : Prop where
  ex : ∃ f fd, Meth K C x f ∧ Binds K fd ps [] ∧ FnOk P w K mg base CX0 k f fd ps sp
structure Pr (P : Program) (w : World) (K : PySem.W.Frag) (mg : Str → Option Value) (base : Heap) (k : Nat) (C : Addr) (x : Str) (sp : Sp) : Prop where
  ex : ∃ p f fd, PropOf K C x p f ∧ Binds K fd ["self"] [] ∧ FnOk P w K mg base CX0 k f fd ["self"] sp
structure OwnC (K : PySem.W.Frag) (mg : Str → Option Value) (C : Addr) (x : Str) (fs : List Str) : Prop where
  cl : Cls K C
  mgC : mg x = some (.ref C)
  nK : ∀ f ∈ fs, NoAttr K C f
  tyc : PySem.W.findIn K (.ref C) "__class__" = some (some (.builtin "object.__class__"))
  tyg : PySem.W.specialIn K (.builtin "object.__class__") "__get__" = some (some (.builtin "getset_descriptor.__get__"))
  tyt : PySem.W.takesIn K (.builtin "object.__class__") = some true
  tym : PySem.W.mroIn K C (.type "object") = some true
theorem OwnC.kit {K : PySem.W.Frag} {mg : Str → Option Value} {C : Addr} {x : Str} {fs : List Str} (_ : OwnC K mg C x fs) : PySem.W.kitOne K (.ref C) (.ref C) = some true := if_pos (beq_self_eq_true _)
section
variable {X : Cx} {k : Nat} {C : Addr} {x : Str} {ps : List Str} {sp : Sp} {e o : Expr} {es : List Expr} {t : TA} {ta : TE} {p pos apos : Pos}
theorem pe_fn (F : Fn X.prog X.w X.K X.mg X.base k x ps sp) (hr : Room k X.A) (hg : Gl X x) (ha : PA X (e :: es) t) (hdb : (x == ("__debug__" : Str)) = false := by decide) (he : starEach (e :: es) X.env = (false, eval e X.env) :: starEach es X.env := by rfl) (hpl : (backTo pos (starEach es X.env)).any (·.1) = false := by rfl) :
    PE X (.Call (.Name x p) (e :: es) [] pos) (tCall sp [] E0 t) := by
  obtain ⟨f, fd, m, kp, b, G⟩ := F.ex
  exact pe_call G hr hg m kp b .nil pass0 ha hdb he hpl
theorem pe_mt {pl : Sem Bool} (M : Mt X.prog X.w X.K X.mg X.base k C x ps sp) (hr : Room k X.A) (c : Cls X.K C) (ho : PE X o ta) (ha : PA X (e :: es) t)
    (hst : starEach (e :: es) X.env = (false, eval e X.env) :: starEach es X.env := by rfl) (hpl : (backTo pos (starEach es X.env)).any (·.1) = false := by rfl)
    (ht : eval (.Call (.Attribute o x apos) (e :: es) [] pos) X.env = (do
      let ov ← eval o X.env
      standAt apos.atName
      let (f, first) ← holding [ov] (getMethod ov x pl)
      callWith pos f first (backTo pos (starEach (e :: es) X.env)) (backToKw pos (keywordEach [] X.env))) := by rfl) : PE X (.Call (.Attribute o x apos) (e :: es) [] pos) (tMeth C x sp [] E0 ta t) := by
  obtain ⟨f, fd, m, b, G⟩ := M.ex
  exact pe_meth ho c m G hr b .nil pass0 ha (hst := hst) (hpl := hpl) (ht := ht)
theorem pe_pr (G : Pr X.prog X.w X.K X.mg X.base k C x sp) (hr : Room (k + 1) X.A) (c : Cls X.K C) (ho : PE X o ta) (hab : attributeBase o x X.env (eval o X.env) = eval o X.env) : PE X (.Attribute o x pos) (tProp C sp [] E0 ta) := by
  obtain ⟨q, f, fd, m, b, F⟩ := G.ex
  exact pe_prop ho c m F hr b .nil pass0 hab
end

/-! ### Door -/
structure DoorD where
  a : Str
  b : Str
  key : Option Str
  both : Bool
  cost : Int
  deriving DecidableEq
def oV : Option Str → V
  | none => .non
  | some z => .str z
structure DoorD.ok (d : DoorD) : Prop where
  a : isNm d.a = true
  b : isNm d.b = true
  ne : d.a ≠ d.b
  key : ∀ z, d.key = some z → isNm z = true
  c1 : 1 ≤ d.cost
  c9 : d.cost ≤ 9
def DoorD.fs (d : DoorD) : List (Str × V) := [("kept_start", .str d.a), ("kept_end", .str d.b), ("kept_key", oV d.key), ("kept_both", .bl d.both), ("kept_cost", .int d.cost)]
structure DoorAt (C : Addr) (H : Hp) (x : Addr) (d : DoorD) : Prop where
  ob : ∃ dx, H x = some (.ins C dx d.fs)
  ok : d.ok
theorem DoorAt.same {C x : Addr} {H H' : Hp} {d : DoorD} (h : DoorAt C H x d) (s : Same H H') : DoorAt C H' x d := ⟨h.ob.imp fun _ e => s _ _ e, h.ok⟩
abbrev doorF : List Str := ["kept_start", "kept_end", "kept_key", "kept_both", "kept_cost"]
theorem are_two {a b : Str} (ha : isNm a = true) (hb : isNm b = true) (ne : a ≠ b) : areNm [a, b] = true := by
  unfold areNm
  rw [List.all_cons, List.all_cons, List.all_nil, ha, hb]
  simp [ne]
section
variable {P : Program} {w : World} {K : PySem.W.Frag} {mg : Str → Option Value} {base : Heap} {C : Addr}
def spDoor (C : Addr) : Sp := fun vs H Q _ => ∃ (x dx : Addr) (d : DoorD), vs = [.ref x, .str d.a, .str d.b, oV d.key, .bl d.both, .int d.cost] ∧ H x = some (.ins C dx []) ∧ d.ok ∧
  ∀ H', (∀ b o, H b = some o → b ≠ x → H' b = some o) → H' x = some (.ins C dx d.fs) → Q .non H'
theorem scDoor : FnScope ["self", "start", "end", "key", "both", "cost"] ["self", "start", "end", "key", "both", "cost"] (defScope s_Door___init__) := ⟨rfl, rfl, rfl, by decide +kernel, rfl, by decide +kernel, by decide +kernel⟩
theorem ok_door {f : Addr} {fd : FuncData} (F : Fun K "__init__" "Door.__init__" s_Door___init__ f fd) (B : Blt mg) (T : OwnC K mg C "Door" doorF) (GA : Fn P w K mg base 2 "are_names" ["values"] (spAre K)) (GN : Fn P w K mg base 1 "is_name" ["value"] spName) (GC : Fn P w K mg base 1 "is_cost" ["value"] spCost) :
    FnOk P w K mg base CX0 3 f fd ["self", "start", "end", "key", "both", "cost"] (spDoor C) := by
  refine F.ok scDoor (fun vs H Q E h => ?_) (fun cdv A outer s H vs Q E hr h => ?_)
  · obtain ⟨x, dx, d, rfl, _⟩ := h
    rfl
  · obtain ⟨x, dx, d, rfl, hx, ok, q⟩ := h
    refine ⟨_, pss_cons (ps_if (pt_not (pt_val (pe_fn GA hr (by rfl) (pa_cons (pe_tup (pa_cons (pv 1) (pa_cons (pv 2) pa_nil))) pa_nil)))) (pss_one ps_never) pss_nil)
      (pss_cons (ps_if (pw_and (pt_cmp (pc_notN (pv 3))) (pw_and1 (pt_not (pt_val (pe_fn GN (hr.mono (by decide)) (by rfl) (pa_cons (pv 3) pa_nil)))))).pt (pss_one ps_never) pss_nil)
      (pss_cons (ps_if (pt_not (pt_val (pe_callB call_isi (by rfl) B.isi PyProof.Rows.boot_isinstance (pa_cons (pv 4) (pa_cons (pe_bltn (v := .ty "bool") (by rfl) B.bl PyProof.Rows.boot_bool rfl) pa_nil))))) (pss_one ps_never) pss_nil)
      (pss_cons (ps_if (pt_not (pt_val (pe_fn GC (hr.mono (by decide)) (by rfl) (pa_cons (pv 5) pa_nil)))) (pss_one ps_never) pss_nil)
      (pss_cons (ps_fld (pv 0) (pv 1) rfl) (pss_cons (ps_fld (pv 0) (pv 2) rfl) (pss_cons (ps_fld (pv 0) (pv 3) rfl) (pss_cons (ps_fld (pv 0) (pv 4) rfl) (pss_one (ps_fld (pv 0) (pv 5) rfl))))))))), ?_⟩
    refine ⟨.str d.a, rfl, .str d.b, rfl, by show 2 ≤ sizeLine; rw [sizeLine_eq]; decide, fun p np => ?_⟩
    refine ⟨p, [d.a, d.b], rfl, by show 2 ≤ 1000; decide, fun z hz => ?_, .inl (.inl upd_same), fun H1 s1 => ?_⟩
    · rcases List.mem_cons.mp hz with e | e
      · rw [e]
        exact nm_line ok.a
      · rw [List.mem_singleton.mp e]
        exact nm_line ok.b
    rw [are_two ok.a ok.b ok.ne]
    refine ⟨true, rfl, iteF ?_⟩
    have sm : Same H H1 := (same_new np).trans s1
    have cb : (decide (1 ≤ d.cost) && decide (d.cost ≤ 9)) = true := by rw [decide_eq_true ok.c1, decide_eq_true ok.c9]; rfl
    have nK : ∀ g, g ∈ doorF → NoAttr K C g := T.nK
    have fin : ∀ H2, Same H H2 → Q .non (upd (upd (upd (upd (upd H2 x (.ins C dx [("kept_start", .str d.a)])) x (.ins C dx [("kept_start", .str d.a), ("kept_end", .str d.b)])) x (.ins C dx [("kept_start", .str d.a), ("kept_end", .str d.b), ("kept_key", oV d.key)])) x
        (.ins C dx [("kept_start", .str d.a), ("kept_end", .str d.b), ("kept_key", oV d.key), ("kept_both", .bl d.both)])) x (.ins C dx d.fs)) := fun H2 s2 => q _ (fun b o e hb => by
      rw [upd_ne hb, upd_ne hb, upd_ne hb, upd_ne hb, upd_ne hb]
      exact s2 b o e) upd_same
    cases hk : d.key with
    | none =>
      rw [hk] at fin
      refine ⟨.non, rfl, false, rfl, iteF ?_⟩
      refine ⟨.bl d.both, rfl, .bl d.both, .ty "bool", _, _, true, rfl, .ty _, .base (.bl _), kit_ty (by decide +kernel), true, rfl, iteF ?_⟩
      refine ⟨.int d.cost, rfl, d.cost, rfl, true, by rw [cb], iteF ?_⟩
      refine ⟨.str d.a, rfl, .ref x, rfl, x, C, dx, [], rfl, sm _ _ hx, T.cl, nK _ (by simp), by show 0 < 1000; decide, ?_⟩
      refine ⟨.str d.b, rfl, .ref x, rfl, x, C, dx, _, rfl, upd_same, T.cl, nK _ (by simp), by show 1 < 1000; decide, ?_⟩
      refine ⟨.non, rfl, .ref x, rfl, x, C, dx, _, rfl, upd_same, T.cl, nK _ (by simp), by show 2 < 1000; decide, ?_⟩
      refine ⟨.bl d.both, rfl, .ref x, rfl, x, C, dx, _, rfl, upd_same, T.cl, nK _ (by simp), by show 3 < 1000; decide, ?_⟩
      refine ⟨.int d.cost, rfl, .ref x, rfl, x, C, dx, _, rfl, upd_same, T.cl, nK _ (by simp), by show 4 < 1000; decide, ?_⟩
      have f := fin H1 sm
      unfold DoorD.fs at f
      rw [hk] at f
      exact f
    | some z =>
      rw [hk] at fin
      have hz := ok.key z hk
      refine ⟨.str z, rfl, true, rfl, iteT ?_⟩
      refine ⟨.str z, rfl, z, rfl, nm_line hz, fun H2 s2 => ⟨true, by rw [hz], iteF ?_⟩⟩
      refine ⟨.bl d.both, rfl, .bl d.both, .ty "bool", _, _, true, rfl, .ty _, .base (.bl _), kit_ty (by decide +kernel), true, rfl, iteF ?_⟩
      refine ⟨.int d.cost, rfl, d.cost, rfl, true, by rw [cb], iteF ?_⟩
      refine ⟨.str d.a, rfl, .ref x, rfl, x, C, dx, [], rfl, (sm.trans s2) _ _ hx, T.cl, nK _ (by simp), by show 0 < 1000; decide, ?_⟩
      refine ⟨.str d.b, rfl, .ref x, rfl, x, C, dx, _, rfl, upd_same, T.cl, nK _ (by simp), by show 1 < 1000; decide, ?_⟩
      refine ⟨.str z, rfl, .ref x, rfl, x, C, dx, _, rfl, upd_same, T.cl, nK _ (by simp), by show 2 < 1000; decide, ?_⟩
      refine ⟨.bl d.both, rfl, .ref x, rfl, x, C, dx, _, rfl, upd_same, T.cl, nK _ (by simp), by show 3 < 1000; decide, ?_⟩
      refine ⟨.int d.cost, rfl, .ref x, rfl, x, C, dx, _, rfl, upd_same, T.cl, nK _ (by simp), by show 4 < 1000; decide, ?_⟩
      have f := fin H2 (sm.trans s2)
      unfold DoorD.fs at f
      rw [hk] at f
      exact f
end
end Lk
set_option Elab.async false
set_option linter.all false
set_option maxRecDepth 100000
set_option maxHeartbeats 2000000
namespace LkG
open PySem PySem.Spec PyProof.Rows L2 TxS LkO Lk GenW
def tGIf (tc : TT) (tb to : TGn) : TGn := fun D ys σ H => tc σ H fun b H1 => if b = true then tb D ys σ H1 else to D ys σ H1
theorem gs_if {X : Cx} {test : Expr} {body orelse : List Stmt} {pos : Pos} {tc : TT} {tb to : TGn} (hc : PT X test tc) (hb : GSs X body tb) (ho : GSs X orelse to) : GS X (.If test body orelse pos) (tGIf tc tb to) := by
  refine ⟨fun A S ip R n ys s₀ c fs K J gd lv s σ H D g hn k hI ht => ?_⟩
  obtain ⟨acc, cc, r, I⟩ := hI
  rw [exec_If]
  refine seg_bind_wrap (wpAny_standAt ?_)
  refine seg_bind_wrap ?_
  rw [g.over]
  refine wpAny_mono (hc.run _ s σ H _ I ht) (fun b s' hb' => ?_) fun x s' hx => k.exc n s₀ x s' hx
  obtain ⟨H1, I1, q⟩ := hb'
  cases b with
  | true => exact hb.run A S ip R n ys s₀ c fs K J gd lv s' σ H1 D g hn k ⟨acc, cc, r, I1⟩ q
  | false => exact ho.run A S ip R n ys s₀ c fs K J gd lv s' σ H1 D g hn k ⟨acc, cc, r, I1⟩ q
end LkG
namespace Lk
open PySem PySem.Spec PyProof.Rows L2 TxS LkO LkG GenW
section
variable {P : Program} {w : World} {K : PySem.W.Frag} {mg : Str → Option Value} {base : Heap} {C : Addr}
theorem kb_door {f : Addr} {fd : FuncData} (F : Fun K "__init__" "Door.__init__" s_Door___init__ f fd) : KBn K fd ["self", "start", "end", "key", "both", "cost"] 3 ["key", "both", "cost"] (fun us ws => us ++ ws) (fun vs zs => vs ++ zs) := by
  obtain ⟨oc, od, kV, doc, pm, an, cdv, ct, osl, rfl, lk, hcd⟩ := F.ex
  exact ⟨fun s us ws _ l1 l2 => match us, l1, ws, l2 with | [_, _, _], _, [_, _, _], _ => BindsTo.of_eq rfl, fun r1 r2 => r1.append r2⟩
theorem ok_getter {st : Stmt} {name qual g : Str} {f : Addr} {fd : FuncData} {k : Nat} (F : Fun K name qual st f fd) (S : FnScope ["self"] ["self"] (defScope st)) (hb : ∃ p1 p2 p3, defBody st = [.Return (some (.Attribute (.Name "self" p1) g p2)) p3]) (c : Cls K C) (n : NoAttr K C g) :
    FnOk P w K mg base CX0 (k + 1) f fd ["self"] (getSp C g) := by
  obtain ⟨oc, od, kV, doc, pm, an, cdv, ct, osl, rfl, lk, hcd⟩ := F.ex
  obtain ⟨p1, p2, p3, e⟩ := hb
  exact fn_getter lk hcd S rfl e c n
/-! ### Door.ways -/
def waysOf (d : DoorD) : List (Str × Str) := (d.a, d.b) :: if d.both = true then [(d.b, d.a)] else []
def strPairs (l : List (Str × Str)) : List (V × V) := l.map fun p => (.str p.1, .str p.2)
def spWays (C : Addr) : SpT := fun vs H outs => ∃ (x : Addr) (d : DoorD), vs = [.ref x] ∧ DoorAt C H x d ∧ outs = strPairs (waysOf d)
theorem scWays : GScope ["self"] ["self"] (defScope s_Door_ways) := ⟨rfl, rfl, rfl, by decide +kernel, rfl, by decide +kernel, by decide +kernel⟩
theorem look_door (d : DoorD) : List.lookup ("kept_start" : Str) d.fs = some (V.str d.a) ∧ List.lookup ("kept_end" : Str) d.fs = some (V.str d.b) ∧ List.lookup ("kept_key" : Str) d.fs = some (oV d.key) ∧ List.lookup ("kept_both" : Str) d.fs = some (V.bl d.both) ∧ List.lookup ("kept_cost" : Str) d.fs = some (V.int d.cost) := ⟨rfl, rfl, rfl, rfl, rfl⟩
theorem ok_ways {f : Addr} {fd : FuncData} {k : Nat} (F : Fun K "ways" "Door.ways" s_Door_ways f fd) (T : OwnC K mg C "Door" doorF) : GFt P w K mg base (k + 1) f fd ["self"] (spWays C) := by
  obtain ⟨oc, od, kV, doc, pm, an, cdv, ct, osl, rfl, lk, hcd⟩ := F.ex
  refine ⟨fun vs H outs h => ?_, fun A outer s H args us vs outs hr e0 hb r h => ?_⟩
  · obtain ⟨x, d, rfl, _⟩ := h
    rfl
  · obtain ⟨x, d, rfl, ⟨⟨dx, hx⟩, ok⟩, rfl⟩ := h
    refine call_gt lk hcd scWays hr e0 hb rfl r fun A2 L s1 hr2 hI => ?_
    have q : ∀ g v, g ∈ doorF → d.fs.lookup g = some v → ∀ (Q : VK), Q v H → tFld K (tVar 0) g (start ["self"] [.ref x]) H Q := fun g v hg l Q hq => ⟨.ref x, rfl, x, C, dx, _, v, rfl, hx, T.cl, T.nK g hg, l, hq⟩
    obtain ⟨l1, l2, _, l4, _⟩ := look_door d
    refine gq_cons (gq_yield (x := .str d.a) (y := .str d.b) (ta := tFld K (tVar 0) "kept_start") (tb := tFld K (tVar 0) "kept_end") over_func hI (fun _ => qe_fld (qe_var (i := 0) rfl (.inl rfl)) rfl) (fun _ => qe_fld (qe_var (i := 0) rfl (.inl rfl)) rfl) (q _ _ (by simp) l1 _ ⟨rfl, q _ _ (by simp) l2 _ rfl⟩) ⟨[], rfl⟩)
      (gq_cons (gq_if (d := d.both) (tc := tTest (tFld K (tVar 0) "kept_both")) over_func hI (fun _ => qt_val (qe_fld (qe_var (i := 0) rfl (.inl rfl)) rfl)) (q _ _ (by simp) l4 _ ⟨d.both, rfl, rfl⟩) ?_) gq_nil)
    cases hb : d.both with
    | true =>
      exact gq_cons (gq_yield (x := .str d.b) (y := .str d.a) (ta := tFld K (tVar 0) "kept_end") (tb := tFld K (tVar 0) "kept_start") over_func hI (fun _ => qe_fld (qe_var (i := 0) rfl (.inl rfl)) rfl) (fun _ => qe_fld (qe_var (i := 0) rfl (.inl rfl)) rfl) (q _ _ (by simp) l2 _ ⟨rfl, q _ _ (by simp) l1 _ rfl⟩) ⟨[(.str d.a, .str d.b)], by unfold strPairs waysOf; rw [hb]; rfl⟩) gq_nil
    | false => exact gq_nil
/-- all ways, for list(door.ways()) -/
def spWaysL (C : Addr) : SpG := fun vs H Q _ => ∃ (x : Addr) (d : DoorD), vs = [.ref x] ∧ DoorAt C H x d ∧ (d.both = false → ∀ p, H p = none → Q [.ref p] (upd H p (.tup [.str d.a, .str d.b]))) ∧
  (d.both = true → ∀ p p', H p = none → (upd H p (.tup [.str d.a, .str d.b])) p' = none → Q [.ref p, .ref p'] (upd (upd H p (.tup [.str d.a, .str d.b])) p' (.tup [.str d.b, .str d.a])))
theorem ok_waysL {f : Addr} {fd : FuncData} {k : Nat} (F : Fun K "ways" "Door.ways" s_Door_ways f fd) (T : OwnC K mg C "Door" doorF) : GFn P w K mg base (k + 1) f fd ["self"] (spWaysL C) := by
  obtain ⟨oc, od, kV, doc, pm, an, cdv, ct, osl, rfl, lk, hcd⟩ := F.ex
  refine gfn_of lk hcd scWays (fun vs H Q E h => ?_) fun A outer s H vs Q E pn hr h => ?_
  · obtain ⟨x, d, rfl, _⟩ := h
    rfl
  · obtain ⟨x, d, rfl, ⟨⟨dx, hx⟩, ok⟩, q0, q1⟩ := h
    refine ⟨_, gss_cons (gs_yield (pe_tup (pa_cons (pe_fld (pe_var (i := 0) rfl (.inl rfl)) rfl) (pa_cons (pe_fld (pe_var (i := 0) rfl (.inl rfl)) rfl) pa_nil))))
      (gss_cons (gs_if (pt_val (pe_fld (pe_var (i := 0) rfl (.inl rfl)) rfl)) (gss_cons (gs_yield (pe_tup (pa_cons (pe_fld (pe_var (i := 0) rfl (.inl rfl)) rfl) (pa_cons (pe_fld (pe_var (i := 0) rfl (.inl rfl)) rfl) pa_nil)))) gss_nil) gss_nil) gss_nil), ?_⟩
    obtain ⟨l1, l2, _, l4, _⟩ := look_door d
    have nK := T.nK
    have big : (2 : Nat) ≤ sizeLine := by rw [sizeLine_eq]; decide
    refine ⟨by show 0 < sizeLine; rw [sizeLine_eq]; decide, .ref x, rfl, x, C, dx, _, _, rfl, hx, T.cl, nK _ (by simp), l1, .ref x, rfl, x, C, dx, _, _, rfl, hx, T.cl, nK _ (by simp), l2, big, fun p np => ?_⟩
    have hx1 : (upd H p (.tup [.str d.a, .str d.b])) x = some (.ins C dx d.fs) := by rw [upd_ne (ne_of_none hx np)]; exact hx
    refine ⟨.ref x, rfl, x, C, dx, _, _, rfl, hx1, T.cl, nK _ (by simp), l4, _, rfl, ?_⟩
    cases hb : d.both with
    | false => exact q0 hb p np
    | true => exact ⟨by show 1 < sizeLine; rw [sizeLine_eq]; decide, .ref x, rfl, x, C, dx, _, _, rfl, hx1, T.cl, nK _ (by simp), l2, .ref x, rfl, x, C, dx, _, _, rfl, hx1, T.cl, nK _ (by simp), l1, big, fun p' np' => q1 hb p p' np np'⟩
/-! ### Door.__eq__ -/
def spEqDoor (C : Addr) : Sp := fun vs H Q _ => ∃ (x y : Addr) (d e : DoorD), vs = [.ref x, .ref y] ∧ DoorAt C H x d ∧ DoorAt C H y e ∧ Q (.bl (decide (d = e))) H
theorem scEqD : FnScope ["self", "other"] ["self", "other"] (defScope s_Door___eq__) := ⟨rfl, rfl, rfl, by decide +kernel, rfl, by decide +kernel, by decide +kernel⟩
theorem ov_scal (a b : Option Str) : scal (oV a) (oV b) = true := by cases a <;> cases b <;> rfl
theorem ov_inj (a b : Option Str) : decide (oV a = oV b) = decide (a = b) := by
  cases a <;> cases b <;> simp [oV]
theorem ok_eqDoor {f : Addr} {fd : FuncData} {k : Nat} (F : Fun K "__eq__" "Door.__eq__" s_Door___eq__ f fd) (B : Blt mg) (T : OwnC K mg C "Door" doorF) : FnOk P w K mg base CX0 (k + 1) f fd ["self", "other"] (spEqDoor C) := by
  refine F.ok scEqD (fun vs H Q E h => ?_) (fun cdv A outer s H vs Q E hr h => ?_)
  · obtain ⟨x, y, d, e, rfl, _⟩ := h
    rfl
  · obtain ⟨x, y, d, e, rfl, ⟨⟨dx, hx⟩, _⟩, ⟨⟨dy, hy⟩, _⟩, q⟩ := h
    refine ⟨_, pss_one (ps_ret (pe_and (pe_callB call_isi (by rfl) B.isi PyProof.Rows.boot_isinstance (pa_cons (pv 1) (pa_cons (pe_glob (v := .ref C) (by rfl) T.mgC rfl) pa_nil)))
      (pe_and (pe_cmpR op_eq (pe_fld (pv 0) rfl) (pe_fld (pv 1) rfl) (nomark _)) (pe_and (pe_cmpR op_eq (pe_fld (pv 0) rfl) (pe_fld (pv 1) rfl) (nomark _)) (pe_and (pe_cmpR op_eq (pe_fld (pv 0) rfl) (pe_fld (pv 1) rfl) (nomark _))
      (pe_and (pe_cmpR op_eq (pe_fld (pv 0) rfl) (pe_fld (pv 1) rfl) (nomark _)) (pe_one (pe_cmpR op_eq (pe_fld (pv 0) rfl) (pe_fld (pv 1) rfl) (nomark _))))))))), ?_⟩
    refine ⟨.ref y, rfl, .ref y, .ref C, _, _, true, rfl, .own C, .base (.ins hy T.cl T.tyc T.tyg T.tyt T.tym), T.kit, true, rfl, iteT ?_⟩
    obtain ⟨l1, l2, l3, l4, l5⟩ := look_door d
    obtain ⟨m1, m2, m3, m4, m5⟩ := look_door e
    have nK := T.nK
    obtain ⟨a, b, key, both, cost⟩ := d
    obtain ⟨a', b', key', both', cost'⟩ := e
    have no : ∀ z : DoorD, ∀ z', z ≠ z' → Q (.bl (decide (z = z'))) H → Q (.bl false) H := fun z z' n k => by rw [decide_eq_false n] at k; exact k
    refine ⟨.ref x, rfl, x, C, dx, _, _, rfl, hx, T.cl, nK _ (by simp), l1, .ref y, rfl, y, C, dy, _, _, rfl, hy, T.cl, nK _ (by simp), m1, rfl, _, rfl, ite2 (fun t1 => ?_) (fun t1 => ?_)⟩
    · refine ⟨.ref x, rfl, x, C, dx, _, _, rfl, hx, T.cl, nK _ (by simp), l2, .ref y, rfl, y, C, dy, _, _, rfl, hy, T.cl, nK _ (by simp), m2, rfl, _, rfl, ite2 (fun t2 => ?_) (fun t2 => ?_)⟩
      · refine ⟨.ref x, rfl, x, C, dx, _, _, rfl, hx, T.cl, nK _ (by simp), l3, .ref y, rfl, y, C, dy, _, _, rfl, hy, T.cl, nK _ (by simp), m3, ov_scal _ _, _, rfl, ite2 (fun t3 => ?_) (fun t3 => ?_)⟩
        · refine ⟨.ref x, rfl, x, C, dx, _, _, rfl, hx, T.cl, nK _ (by simp), l4, .ref y, rfl, y, C, dy, _, _, rfl, hy, T.cl, nK _ (by simp), m4, rfl, _, rfl, ite2 (fun t4 => ?_) (fun t4 => ?_)⟩
          · refine ⟨.ref x, rfl, x, C, dx, _, _, rfl, hx, T.cl, nK _ (by simp), l5, .ref y, rfl, y, C, dy, _, _, rfl, hy, T.cl, nK _ (by simp), m5, rfl, ?_⟩
            have e1 := V.str.inj (of_decide_eq_true t1)
            have e2 := V.str.inj (of_decide_eq_true t2)
            have e3 : key = key' := of_decide_eq_true ((ov_inj key key').symm.trans t3)
            have e4 := V.bl.inj (of_decide_eq_true t4)
            simp only at e1 e2 e4
            subst e1 e2 e3 e4
            have e5 : decide (DoorD.mk a b key both cost = DoorD.mk a b key both cost') = decide (V.int cost = V.int cost') := by
              refine decide_eq_decide.mpr ⟨fun h => ?_, fun h => ?_⟩
              · rw [(DoorD.mk.inj h).2.2.2.2]
              · rw [V.int.inj h]
            rw [e5] at q
            exact q
          · exact no _ _ (fun h => t4 (decide_eq_true (by rw [(DoorD.mk.inj h).2.2.2.1]))) q
        · exact no _ _ (fun h => t3 (decide_eq_true (by rw [(DoorD.mk.inj h).2.2.1]))) q
      · exact no _ _ (fun h => t2 (decide_eq_true (by rw [(DoorD.mk.inj h).2.1]))) q
    · exact no _ _ (fun h => t1 (decide_eq_true (by rw [(DoorD.mk.inj h).1]))) q
end
end Lk
set_option Elab.async false
set_option linter.all false
set_option maxRecDepth 100000
set_option maxHeartbeats 2000000
namespace Lk
open PySem PySem.Spec PyProof.Rows L2 TxS LkO LkG
/-! ### Person -/
structure PersonD where
  a : Str
  carried : List Str
  needs : List Str
  shuns : List Str
  deriving DecidableEq
structure PersonD.ok (p : PersonD) : Prop where
  a : isNm p.a = true
  carried : areNm p.carried = true
  needs : areNm p.needs = true
  shuns : areNm p.shuns = true
  apart : ∀ z ∈ p.needs, z ∉ p.shuns
  few1 : p.carried.length ≤ 100
  few2 : p.needs.length ≤ 100
  few3 : p.shuns.length ≤ 100
def personFs (a : Str) (t1 t2 t3 : Addr) : List (Str × V) := [("kept_start", .str a), ("kept_carried", .ref t1), ("kept_needs", .ref t2), ("kept_shuns", .ref t3)]
abbrev personF : List Str := ["kept_start", "kept_carried", "kept_needs", "kept_shuns"]
structure PersonAt (K : PySem.W.Frag) (C : Addr) (H : Hp) (x : Addr) (p : PersonD) : Prop where
  ob : ∃ dx t1 t2 t3, H x = some (.ins C dx (personFs p.a t1 t2 t3)) ∧ SqT K H t1 (p.carried.map V.str) ∧ SqT K H t2 (p.needs.map V.str) ∧ SqT K H t3 (p.shuns.map V.str)
  ok : p.ok
theorem PersonAt.same {K : PySem.W.Frag} {C x : Addr} {H H' : Hp} {p : PersonD} (h : PersonAt K C H x p) (s : Same H H') : PersonAt K C H' x p := by
  obtain ⟨⟨dx, t1, t2, t3, e, h1, h2, h3⟩, ok⟩ := h
  exact ⟨⟨dx, t1, t2, t3, s _ _ e, Same.tup s h1, Same.tup s h2, Same.tup s h3⟩, ok⟩
theorem are_nm {zs : List Str} (h : areNm zs = true) : ∀ z ∈ zs, isNm z = true := by
  unfold areNm at h
  rw [Bool.and_eq_true] at h
  exact List.all_eq_true.mp h.1
theorem are_nd {zs : List Str} (h : areNm zs = true) : zs.Nodup := by
  unfold areNm at h
  rw [Bool.and_eq_true] at h
  exact of_decide_eq_true h.2
theorem look_person (a : Str) (t1 t2 t3 : Addr) : List.lookup ("kept_start" : Str) (personFs a t1 t2 t3) = some (V.str a) ∧ List.lookup ("kept_carried" : Str) (personFs a t1 t2 t3) = some (V.ref t1) ∧ List.lookup ("kept_needs" : Str) (personFs a t1 t2 t3) = some (V.ref t2) ∧
  List.lookup ("kept_shuns" : Str) (personFs a t1 t2 t3) = some (V.ref t3) := ⟨rfl, rfl, rfl, rfl⟩
section
variable {P : Program} {w : World} {K : PySem.W.Frag} {mg : Str → Option Value} {base : Heap} {C : Addr}
def spPerson (K : PySem.W.Frag) (C : Addr) : Sp := fun vs H Q _ => ∃ (x dx t1 t2 t3 : Addr) (p : PersonD), vs = [.ref x, .str p.a, .ref t1, .ref t2, .ref t3] ∧ H x = some (.ins C dx []) ∧ p.ok ∧ SqT K H t1 (p.carried.map V.str) ∧ SqT K H t2 (p.needs.map V.str) ∧ SqT K H t3 (p.shuns.map V.str) ∧
  ∀ H', (∀ b o, H b = some o → b ≠ x → H' b = some o) → H' x = some (.ins C dx (personFs p.a t1 t2 t3)) → Q .non H'
theorem scPerson : FnScope ["self", "start", "carried", "needs", "shuns", "room"] ["self", "start", "carried", "needs", "shuns"] (defScope s_Person___init__) := ⟨rfl, rfl, rfl, by decide +kernel, rfl, by decide +kernel, by decide +kernel⟩
theorem ok_person {f : Addr} {fd : FuncData} (F : Fun K "__init__" "Person.__init__" s_Person___init__ f fd) (B : Blt mg) (T : OwnC K mg C "Person" personF) (GA : Fn P w K mg base 2 "are_names" ["values"] (spAre K)) (GN : Fn P w K mg base 1 "is_name" ["value"] spName) :
    FnOk P w K mg base CX0 3 f fd ["self", "start", "carried", "needs", "shuns"] (spPerson K C) := by
  refine F.ok scPerson (fun vs H Q E h => ?_) (fun cdv A outer s H vs Q E hr h => ?_)
  · obtain ⟨x, dx, t1, t2, t3, p, rfl, _⟩ := h
    rfl
  · obtain ⟨x, dx, t1, t2, t3, p, rfl, hx, ok, h1, h2, h3, q⟩ := h
    refine ⟨_, pss_cons (ps_if (pt_not (pt_val (pe_fn GN (hr.mono (by decide)) (by rfl) (pa_cons (pv 1) pa_nil)))) (pss_one ps_never) pss_nil)
      (pss_cons (ps_if (pt_not (pw_and (pt_val (pe_fn GA hr (by rfl) (pa_cons (pv 2) pa_nil))) (pw_and (pt_val (pe_fn GA hr (by rfl) (pa_cons (pv 3) pa_nil))) (pw_and1 (pt_val (pe_fn GA hr (by rfl) (pa_cons (pv 4) pa_nil)))))).pt) (pss_one ps_never) pss_nil)
      (pss_cons (ps_if (pt_val (pe_callB (cr_any rfl) (by rfl) B.any PyProof.Rows.boot_any (pa_cons (pe_lc (own := [("room", 5)]) (g := gName 5) (tt := tYes) rfl scPerson.nd (pi_tup (pv 3)) (blkOk_by (N := ["self", "start", "carried", "needs", "shuns", "room"]) (sc := defScope s_Person___init__) (by decide +kernel))
        (fun _ _ _ _ _ => pg_name (i := 5) scPerson.nd rfl (Or.inl rfl)) (fun _ _ _ _ _ => pts_nil) (fun _ _ _ _ _ => pe_cmpR (r := rIn K false) op_in_seq (pv 5) (pv 4) rfl)) pa_nil))) (pss_one ps_never) pss_nil)
      (pss_cons (ps_fld (pv 0) (pv 1) rfl) (pss_cons (ps_fld (pv 0) (pv 2) rfl) (pss_cons (ps_fld (pv 0) (pv 3) rfl) (pss_one (ps_fld (pv 0) (pv 4) rfl))))))), ?_⟩
    have nmA := nm_line ok.a
    refine ⟨.str p.a, rfl, p.a, rfl, nmA, fun H1 s1 => ⟨true, by rw [ok.a], iteF ?_⟩⟩
    refine ⟨.ref t1, rfl, t1, p.carried, rfl, by have := ok.few1; omega, fun z hz => nm_line (are_nm ok.carried z hz), Same.tup s1 h1, fun H2 s2 => ⟨true, by rw [ok.carried], iteT ?_⟩⟩
    have s12 := s1.trans s2
    refine ⟨.ref t2, rfl, t2, p.needs, rfl, by have := ok.few2; omega, fun z hz => nm_line (are_nm ok.needs z hz), Same.tup s12 h2, fun H3 s3 => ⟨true, by rw [ok.needs], iteT ?_⟩⟩
    have s13 := s12.trans s3
    refine ⟨.ref t3, rfl, t3, p.shuns, rfl, by have := ok.few3; omega, fun z hz => nm_line (are_nm ok.shuns z hz), Same.tup s13 h3, fun H4 s4 => ⟨true, by rw [ok.shuns], iteF ?_⟩⟩
    have s14 := s13.trans s4
    refine ⟨.ref t2, rfl, t2, rfl, ⟨_, Same.tup s14 h2⟩, fun D nD => lc_m (walk_tup (xs := p.needs.map V.str)) p.needs (fun z => .bl (decide (z ∈ p.shuns))) (by rw [List.length_map]) nD (by have := ok.few2; omega) (fun H' s => Same.tup (s14.trans s) h2) (fun i z x H2 H3 Kt hz s2 hY k => ?_) (fun H5 s5 e => ?_)⟩
    · obtain ⟨rfl, hx⟩ := hY
      rw [List.getElem?_map, hz] at hx
      cases hx
      refine ⟨rfl, .str z, rfl, .ref t3, rfl, t3, _, rfl, .inr (Same.tup (s14.trans s2) h3), rfl, flat_strs p.shuns, ?_⟩
      rw [inV_str]
      exact k _ (Same.refl _)
    · have no : (p.needs.map fun z => decide (z ∈ p.shuns)).any id = false := by
        rw [List.any_map]
        refine List.any_eq_false.mpr fun z hz => ?_
        simp [ok.apart z hz]
      have s15 := s14.trans s5
      refine ⟨D, p.needs.map fun z => decide (z ∈ p.shuns), rfl, .inl (.inl (by rw [List.map_map]; exact e)), false, by rw [no], iteF ?_⟩
      have nK := T.nK
      refine ⟨.str p.a, rfl, .ref x, rfl, x, C, dx, [], rfl, s15 _ _ hx, T.cl, nK _ (by simp), by show 0 < 1000; decide, ?_⟩
      refine ⟨.ref t1, rfl, .ref x, rfl, x, C, dx, _, rfl, upd_same, T.cl, nK _ (by simp), by show 1 < 1000; decide, ?_⟩
      refine ⟨.ref t2, rfl, .ref x, rfl, x, C, dx, _, rfl, upd_same, T.cl, nK _ (by simp), by show 2 < 1000; decide, ?_⟩
      refine ⟨.ref t3, rfl, .ref x, rfl, x, C, dx, _, rfl, upd_same, T.cl, nK _ (by simp), by show 3 < 1000; decide, ?_⟩
      refine q _ (fun b o e hb => ?_) upd_same
      rw [upd_ne hb, upd_ne hb, upd_ne hb, upd_ne hb]
      exact s15 b o e
theorem kb_person {f : Addr} {fd : FuncData} (F : Fun K "__init__" "Person.__init__" s_Person___init__ f fd) : KBn K fd ["self", "start", "carried", "needs", "shuns"] 2 ["carried", "needs", "shuns"] (fun us ws => us ++ ws) (fun vs zs => vs ++ zs) := by
  obtain ⟨oc, od, kV, doc, pm, an, cdv, ct, osl, rfl, lk, hcd⟩ := F.ex
  exact ⟨fun s us ws _ l1 l2 => match us, l1, ws, l2 with | [_, _], _, [_, _, _], _ => BindsTo.of_eq rfl, fun r1 r2 => r1.append r2⟩
/-! ### Person.__eq__ -/
def spEqPerson (K : PySem.W.Frag) (C : Addr) : Sp := fun vs H Q _ => ∃ (x y : Addr) (d e : PersonD), vs = [.ref x, .ref y] ∧ PersonAt K C H x d ∧ PersonAt K C H y e ∧ Q (.bl (decide (d = e))) H
theorem scEqP : FnScope ["self", "other"] ["self", "other"] (defScope s_Person___eq__) := ⟨rfl, rfl, rfl, by decide +kernel, rfl, by decide +kernel, by decide +kernel⟩
theorem eqv_tups (zs ws : List Str) : PyData.eqv (.tuple (zs.map PyData.str)) (.tuple (ws.map PyData.str)) = decide (zs = ws) := by
  rw [PyData.eqv, eqvAll_strs]
theorem ok_eqPerson {f : Addr} {fd : FuncData} {k : Nat} (F : Fun K "__eq__" "Person.__eq__" s_Person___eq__ f fd) (B : Blt mg) (T : OwnC K mg C "Person" personF) : FnOk P w K mg base CX0 (k + 1) f fd ["self", "other"] (spEqPerson K C) := by
  refine F.ok scEqP (fun vs H Q E h => ?_) (fun cdv A outer s H vs Q E hr h => ?_)
  · obtain ⟨x, y, d, e, rfl, _⟩ := h
    rfl
  · obtain ⟨x, y, d, e, rfl, ⟨⟨dx, t1, t2, t3, hx, h1, h2, h3⟩, okd⟩, ⟨⟨dy, u1, u2, u3, hy, g1, g2, g3⟩, oke⟩, q⟩ := h
    refine ⟨_, pss_one (ps_ret (pe_and (pe_callB call_isi (by rfl) B.isi PyProof.Rows.boot_isinstance (pa_cons (pv 1) (pa_cons (pe_glob (v := .ref C) (by rfl) T.mgC rfl) pa_nil)))
      (pe_and (pe_cmpR op_eq (pe_fld (pv 0) rfl) (pe_fld (pv 1) rfl) (nomark _)) (pe_and (pe_cmpR (op_eqD hr.units) (pe_fld (pv 0) rfl) (pe_fld (pv 1) rfl) (nomark _)) (pe_and (pe_cmpR (op_eqD hr.units) (pe_fld (pv 0) rfl) (pe_fld (pv 1) rfl) (nomark _))
      (pe_one (pe_cmpR (op_eqD hr.units) (pe_fld (pv 0) rfl) (pe_fld (pv 1) rfl) (nomark _)))))))), ?_⟩
    refine ⟨.ref y, rfl, .ref y, .ref C, _, _, true, rfl, .own C, .base (.ins hy T.cl T.tyc T.tyg T.tyt T.tym), T.kit, true, rfl, iteT ?_⟩
    have nK := T.nK
    obtain ⟨l1, l2, l3, l4⟩ := look_person d.a t1 t2 t3
    obtain ⟨m1, m2, m3, m4⟩ := look_person e.a u1 u2 u3
    have sh : ∀ {zs : List Str}, areNm zs = true → SeqAt.shaped (.tuple (zs.map PyData.str)) = true := fun {zs} h => shaped_strsT fun z hz => nm_ok (are_nm h z hz)
    have o1 := okd.carried
    have o2 := okd.needs
    have o3 := okd.shuns
    have p1 := oke.carried
    have p2 := oke.needs
    have p3 := oke.shuns
    obtain ⟨a, ca, ne, su⟩ := d
    obtain ⟨a', ca', ne', su'⟩ := e
    have no : ∀ z : PersonD, ∀ z', z ≠ z' → Q (.bl (decide (z = z'))) H → Q (.bl false) H := fun z z' n k => by rw [decide_eq_false n] at k; exact k
    refine ⟨.ref x, rfl, x, C, dx, _, _, rfl, hx, T.cl, nK _ (by simp), l1, .ref y, rfl, y, C, dy, _, _, rfl, hy, T.cl, nK _ (by simp), m1, rfl, _, rfl, ite2 (fun c1 => ?_) (fun c1 => ?_)⟩
    · refine ⟨.ref x, rfl, x, C, dx, _, _, rfl, hx, T.cl, nK _ (by simp), l2, .ref y, rfl, y, C, dy, _, _, rfl, hy, T.cl, nK _ (by simp), m2, _, _, .tup h1 (dp_strs ca), .tup g1 (dp_strs ca'), sh o1, sh p1, _, rfl, ?_⟩
      rw [eqv_tups]
      refine ite2 (fun c2 => ?_) (fun c2 => ?_)
      · refine ⟨.ref x, rfl, x, C, dx, _, _, rfl, hx, T.cl, nK _ (by simp), l3, .ref y, rfl, y, C, dy, _, _, rfl, hy, T.cl, nK _ (by simp), m3, _, _, .tup h2 (dp_strs ne), .tup g2 (dp_strs ne'), sh o2, sh p2, _, rfl, ?_⟩
        rw [eqv_tups]
        refine ite2 (fun c3 => ?_) (fun c3 => ?_)
        · refine ⟨.ref x, rfl, x, C, dx, _, _, rfl, hx, T.cl, nK _ (by simp), l4, .ref y, rfl, y, C, dy, _, _, rfl, hy, T.cl, nK _ (by simp), m4, _, _, .tup h3 (dp_strs su), .tup g3 (dp_strs su'), sh o3, sh p3, ?_⟩
          rw [eqv_tups]
          have e1 := V.str.inj (of_decide_eq_true c1)
          have e2 := of_decide_eq_true c2
          have e3 := of_decide_eq_true c3
          simp only at e1
          subst e1 e2 e3
          have e5 : decide (PersonD.mk a ca ne su = PersonD.mk a ca ne su') = decide (su = su') := decide_eq_decide.mpr ⟨fun h => (PersonD.mk.inj h).2.2.2, fun h => by rw [h]⟩
          rw [e5] at q
          exact q
        · exact no _ _ (fun h => c3 (decide_eq_true (PersonD.mk.inj h).2.2.1)) q
      · exact no _ _ (fun h => c2 (decide_eq_true (PersonD.mk.inj h).2.1)) q
    · exact no _ _ (fun h => c1 (decide_eq_true (by rw [(PersonD.mk.inj h).1]))) q
end
end Lk
set_option Elab.async false
set_option linter.all false
set_option maxRecDepth 100000
set_option maxHeartbeats 2000000
/-! Dicts: tuple(d), len(d) of a frozen one, d == d by the items' own ==, tables of names. -/
namespace Lk
open PySem PySem.Spec PyProof.Rows L2 TxS LkO
section
variable {prog : Program} {w : World} {A : Around} {E : Value → Shared → Prop} {s : Shared} {T : String} {r d : Addr} {n : Nat} {P : Nat → Value → Prop} {OK : Heap → Prop}
theorem new_tup {Q : Value → Shared → Prop} (K : PySem.W.KdlSrc prog w T r d n P OK) (hh : A.handled = none) (hok : OK s.heap) (hn : n ≤ sizeLine) (hT : T = "dict")
    (q : ∀ (h' : Heap) (tk : Nat) (acc : Array Value), (∀ b o, s.heap.get? b = some o → h'.get? b = some o) → ItemsOf P acc n → Q (.ref h'.objs.size) { s with heap := h'.push { cls := .type "tuple", data := .seq acc }, toks := tk }) :
    codeAny (model prog w) A (.call (.builtin "tuple.__new__") ⟨[.type "tuple", .ref r], []⟩) (wants Q E) s := by
  refine codeAny_of_tree ?_
  show wpAny _ A.in1 (do
    checkBuiltinCall "tuple.__new__" ⟨[.type "tuple", .ref r], []⟩
    again (.builtin "tuple.__new__" ⟨[.type "tuple", .ref r], []⟩)) _ _ s
  refine wpAny_bind (wpAny_of_eq (F.newCall_tuple_1 _) (wpAny_pure ⟨plainId_quiet F.plain_tuple_new _, codeAny_builtin F.entry_tuple_new ?_⟩))
  rw [Around.under_plainId F.plain_tuple_new _]
  have z1 := sub_tuple_self
  have z2 := init_tuple_lookup
  have z3 := madeHere_tuple
  have ty : s.TypeIs (.ref r) "dict" := by rw [← hT]; exact K.type s hok
  have hh1 : A.in1.handled = none := hh
  wp_walk using wpAny_typeOf ty, PySem.W.kdu_collect (A := A.in1) K hh1 hok hn
  intro h' tk acc kp hacc
  show wpAny _ _ (Builtin.Tuple.tupleExact acc.toList.toArray >>= fun v => ret v) _ _ _
  unfold Builtin.Tuple.tupleExact
  refine wpAny_bind (wpAny_newObj_type (wpAny_pure ?_) ?_)
  · rw [show acc.toList.toArray = acc from by simp]
    exact q h' tk acc kp hacc
  · show acc.toList.toArray.size ≤ sizeLine
    rw [show acc.toList.toArray = acc from by simp, hacc.1]
    exact hn
theorem call_tupK {Q : Value → Shared → Prop} (K : PySem.W.KdlSrc prog w T r d n P OK) (hh : A.handled = none) (hok : OK s.heap) (hn : n ≤ sizeLine) (hT : T = "dict")
    (q : ∀ (h' : Heap) (tk : Nat) (acc : Array Value), (∀ b o, s.heap.get? b = some o → h'.get? b = some o) → ItemsOf P acc n → Q (.ref h'.objs.size) { s with heap := h'.push { cls := .type "tuple", data := .seq acc }, toks := tk }) :
    wpAny (model prog w) A (call (.type "tuple") [.ref r]) Q E s := by
  refine callType_codes (Q₁ := fun obj s1 => s1.TypeIs obj "tuple" ∧ Q obj s1) F.called_tuple (F.typeCall_tuple_1 _) F.entry_object_init
    (new_tup (A := A.in1) K hh hok hn hT fun h' tk acc kp hacc => ⟨⟨_, Heap.get?_push_size _ rfl, rfl⟩, q h' tk acc kp hacc⟩) fun obj s1 z => ?_
  exact ⟨z.1, F.args_object_init_2 obj _, object_init_meets F.called_tuple.init.lookup F.called_tuple.made (by decide) prog w A.in1 _ s1 ⟨z.1, rfl, z.2⟩⟩
end
section
variable {X : Cx}
/-- tuple(d): its keys -/
theorem cr_tupleD (calm : X.calm = true) : CallR X (.type "tuple") (fun xs H Q => ∃ (a : Addr) (kvs : List (Key × V)), xs = [.ref a] ∧ Rd H a (.dK kvs) ∧ ∀ p, H p = none → Q (.ref p) (upd H p (.tup (kvs.map fun kv => kV kv.1)))) := by
  intro pins s σ H xs us Q I r q
  obtain ⟨a, kvs, rfl, hd, q⟩ := q
  rw [Vals.ref1 r]
  obtain ⟨z, lo, vs, rel, dd⟩ := dk_rd I.hok hd
  obtain ⟨ep, at_⟩ := dd.dictAt
  have ek : (kvs.map fun kv => kV kv.1) = vs.map fun p => kV p.1 := by
    have e := congrArg (List.map kV) rel.keys
    rw [List.map_map, List.map_map] at e
    exact e
  refine call_tupK (PySem.W.kdl_dict (knd := mixKind X.prog X.w) (kvs := vs) (ep := ep) lo) (I.ok.hd calm) at_ (by rw [← rel.length]; exact z) rfl fun h' tk acc kp hacc => ?_
  have hv : Vals (vs.map fun p => kV p.1) acc.toList := keys_at (by rw [Array.length_toList]; exact hacc.1) fun j v e => hacc.2 j v (by rw [← Array.getElem?_toList]; exact e)
  have I1 : Inv X pins σ H { s with heap := h', toks := tk } := I.kept kp
  have I2 : Inv X pins σ (upd H h'.objs.size (.tup (kvs.map fun kv => kV kv.1))) { s with heap := h'.push { cls := .type "tuple", data := .seq acc }, toks := tk } :=
    I1.laid (t' := tk) (fun b o e => Heap.get?_push_of_some _ e) (Nat.le_refl _) ⟨by rw [List.length_map]; exact z, acc.toList, by rw [ek]; exact hv, ⟨_, Heap.get?_push_size _ rfl, rfl, 0, by simp⟩⟩
  exact ⟨.ref h'.objs.size, _, I2, rfl, q _ (I1.hok.fresh (Nat.le_refl _))⟩
theorem cr_lenR : CallR X (.builtin "len") (fun xs H Q => ∃ a kvs, xs = [V.ref a] ∧ Rd H a (.dK kvs) ∧ Q (.int kvs.length) H) := by
  intro pins s σ H xs us Q I r h
  obtain ⟨a, kvs, rfl, ha, q⟩ := h
  rw [Vals.ref1 r]
  exact d_len I ha fun t s' J => ⟨.int kvs.length, H, J, ⟨t, rfl⟩, q⟩
end
/-! ### d == d, item by item -/
section
variable {prog : Program} {w : World} {κ : Type} [DecidableEq κ] {knd : KeyKind prog w κ} {A : Around} {E : Value → Shared → Prop} {s : Shared}
theorem same_pairs {nm : String} {a b : Addr} {oa ob : Obj} {es es' : Array DictEntry} {ep ep' : Nat} {Q : Bool → Shared → Prop} (na : (a == sysModules) = false) (nb : (b == sysModules) = false) (L : Shared → Prop) (la : ∀ s', L s' → s'.heap.get? a = some oa) (lb : ∀ s', L s' → s'.heap.get? b = some ob)
    (da : oa.data = .dict es ep) (db : ob.data = .dict es' ep') (kb : KeysOf knd es') (sz : es.size = es'.size)
    (turn : ∀ (i : Nat) (hi : i < es.size), ∃ k j, ∃ hj : j < es'.size, knd.is k es[i].key = true ∧ es[i].hash = knd.hash k ∧ es'.findIdx? (fun e => knd.is k e.key) = some j ∧ ∀ s', L s' → wpAny (model prog w) A (eqBool es[i].val es'[j].val) (fun r s2 => r = true ∧ L s2) E s')
    (l0 : L s) (q : ∀ s', L s' → Q true s') : wpAny (model prog w) A (Builtin.Dict.samePairs nm a b) Q E s := by
  unfold Builtin.Dict.samePairs Builtin.Dict.showsAll
  rw [na, nb]
  simp only [Bool.false_eq_true, if_false]
  refine wpAny_bind (wpAny_pure (wpAny_bind (wpAny_pure ?_)))
  refine wpAny_bind (wpAny_dictEntries (la s l0) da ?_)
  refine wpAny_bind (wpAny_dictEntries (lb s l0) db ?_)
  rw [if_neg (show ¬ ((es.size != es'.size) = true) from by rw [sz]; simp)]
  refine wpAny_bind (wpAny_dictEpoch (la s l0) da ?_)
  refine wpAny_bind ?_
  rw [Std.Legacy.Range.forIn_eq_forIn_range']
  simp only [Std.Legacy.Range.size, Nat.sub_zero, Nat.add_sub_cancel, Nat.div_one]
  refine wpAny_forIn_list _ (fun rest p s' => L s' ∧ p = (none, ()) ∧ ∃ i, rest = List.range' i (es.size - i) ∧ i ≤ es.size) _ ?_ ?_ _ _ ⟨l0, rfl, 0, by simp, Nat.zero_le _⟩
  · rintro x rest p s' ⟨ls, rfl, i, hr, hi⟩
    have lt : i < es.size := by
      rcases Nat.lt_or_ge i es.size with z | z
      · exact z
      · rw [Nat.sub_eq_zero_of_le z] at hr
        cases hr
    rw [show es.size - i = (es.size - (i + 1)) + 1 from by omega, List.range'_succ] at hr
    injection hr with e1 e2
    subst e1
    obtain ⟨k, j, hj, hk, hh, hf, tn⟩ := turn x lt
    refine wpAny_bind (wpAny_dictEntries (la s' ls) da ?_)
    rw [Array.getElem?_eq_getElem lt]
    show wpAny _ _ (holding [es[x].key, es[x].val] _ >>= _) _ _ _
    rw [hh]
    refine wpAny_bind (wpAny_holding (wpAny_bind (wpAny_dictFind_of hk (lb s' ls) db kb ?_)))
    rw [hf]
    refine wpAny_bind (wpAny_dictEntries (lb s' ls) db ?_)
    rw [Array.getElem?_eq_getElem hj]
    refine wpAny_holding (wpAny_mono (tn s' ls) (fun r s2 z => ?_) fun _ _ z => z)
    obtain ⟨rfl, l2⟩ := z
    show wpAny _ _ (if (!true) = true then _ else _) _ _ _
    rw [if_neg (by decide)]
    refine wpAny_bind (wpAny_dictEpoch (la s2 l2) da ?_)
    rw [if_neg (by simp)]
    exact wpAny_pure ⟨l2, rfl, x + 1, e2, lt⟩
  · rintro p s' ⟨ls, rfl, _⟩
    exact wpAny_pure (q s' ls)
theorem rc_same {a b : Addr} {oa ob : Obj} {es es' : Array DictEntry} {ep ep' : Nat} {Q : Value → Shared → Prop} (na : (a == sysModules) = false) (nb : (b == sysModules) = false) (L : Shared → Prop) (la : ∀ s', L s' → s'.heap.get? a = some oa) (lb : ∀ s', L s' → s'.heap.get? b = some ob)
    (xa : oa.ExactDict) (xb : ob.ExactDict) (da : oa.data = .dict es ep) (db : ob.data = .dict es' ep') (kb : KeysOf knd es') (sz : es.size = es'.size) (hu : A.units < cLine)
    (turn : ∀ (i : Nat) (hi : i < es.size), ∃ k j, ∃ hj : j < es'.size, knd.is k es[i].key = true ∧ es[i].hash = knd.hash k ∧ es'.findIdx? (fun e => knd.is k e.key) = some j ∧ ∀ s', L s' → wpAny (model prog w) A.in1 (eqBool es[i].val es'[j].val) (fun r s2 => r = true ∧ L s2) E s')
    (l0 : L s) (q : ∀ s', L s' → Q (.bool true) s') : wpAny (model prog w) A (richCompare .Eq (.ref a) (.ref b)) Q E s := by
  have ta : s.TypeIs (.ref a) "dict" := ⟨oa, la s l0, xa.1⟩
  have tb : s.TypeIs (.ref b) "dict" := ⟨ob, lb s l0, xb.1⟩
  refine wpAny_richCompare_same_room (op := .Eq) ta tb PySem.F.slot_dict_eq (wpAny_call_entry PySem.F.slot_dict_eq ta PySem.F.entry_dict_eq ?_ (PySem.F.args_dict_eq_2 _ _)) hu
  show wpAny _ _ (Builtin.Dict.dictSlotArgs "__eq__" ⟨[.ref a, .ref b], []⟩ >>= _) _ _ s
  refine wpAny_bind ?_
  unfold Builtin.Dict.dictSlotArgs
  refine wpAny_bind (wpAny_notOrdered_dict ta (wpAny_pure ?_))
  refine wpAny_bind (wpAny_isInstance (T := "dict") tb PySem.F.sub_dict_dict ?_)
  simp only [Bool.not_true, Bool.false_eq_true, if_false]
  refine wpAny_bind (wpAny_pure (wpAny_bind (wpAny_pure ?_)))
  refine wpAny_bind (same_pairs (knd := knd) na nb L la lb da db kb sz turn l0 fun s' ls => ?_)
  exact wpAny_pure ⟨_, rfl, (fun x => nomatch x), q s' ls⟩
end
/-- two frozen dicts whose items D sees to be equal -/
def DDict (D : Eqv) : Eqv := fun x y H => ∃ a b oa ob ks ls, x = .ref a ∧ y = .ref b ∧ H a = some (.frz oa (.dK ks)) ∧ H b = some (.frz ob (.dK ls)) ∧ ks.length = ls.length ∧ ∀ p ∈ ks, ∃ v, valV ls p.1 = some v ∧ D p.2 v H
theorem rcG_dict {X : Cx} {n : Nat} {D : Eqv} (mon : Mon D) (h : EqG X n D) : RcG X (n + 1) (DDict D) := by
  intro A pins s σ H x y u v sb I rx ry d
  obtain ⟨a, b, oa, ob, ks, ls, rfl, rfl, ha, hb, len, each⟩ := d
  cases rx
  cases ry
  obtain ⟨ga, _, na, va, ra, oa', es, ep, ga', xa, da, ka, pa, _⟩ := (show ObjOk X.prog X.w H s.heap a (.frz oa (.dK ks)) from I.hok a _ ha)
  obtain ⟨gb, _, nb, vb, rb, ob', es', ep', gb', xb, db, kb, pb, _⟩ := (show ObjOk X.prog X.w H s.heap b (.frz ob (.dK ls)) from I.hok b _ hb)
  rw [ga] at ga'
  rw [gb] at gb'
  cases ga'
  cases gb'
  have la : es.size = ks.length := by rw [ra.length, ← pa.length, Array.length_toList]
  have lb : es'.size = ls.length := by rw [rb.length, ← pb.length, Array.length_toList]
  refine rc_same (knd := mixKind X.prog X.w) na nb (fun s' => LoopI X pins σ H s') (fun s' q => ?_) (fun s' q => ?_) xa xb da db kb (by rw [la, lb, len]) sb.room.units0 (fun i hi => ?_) ⟨H, I, Ext.rfl'⟩ (fun s' q => ⟨rfl, q⟩)
  · obtain ⟨H1, I1, e1⟩ := q
    exact (show ObjOk X.prog X.w H1 s'.heap a (.frz oa (.dK ks)) from I1.hok a _ (e1 _ _ ha)).1
  · obtain ⟨H1, I1, e1⟩ := q
    exact (show ObjOk X.prog X.w H1 s'.heap b (.frz ob (.dK ls)) from I1.hok b _ (e1 _ _ hb)).1
  · have hik : i < ks.length := la ▸ hi
    have hiv : i < va.length := ra.length ▸ hik
    obtain ⟨hkey, hval⟩ := pa.get? (i := i) (e := es[i]) (k := va[i].1) (v := va[i].2) (by rw [Array.getElem?_toList]; exact Array.getElem?_eq_getElem hi) (by rw [List.getElem?_eq_getElem hiv])
    have rk : ks[i].1 = va[i].1 ∧ RelV ks[i].2 va[i].2 := by
      have g : ∀ {l : List (Key × V)} {m : List (Key × Value)}, KV l m → ∀ (i : Nat) (h1 : i < l.length) (h2 : i < m.length), l[i].1 = m[i].1 ∧ RelV l[i].2 m[i].2 := fun {l m} r => by
        unfold KV at r
        induction r with
        | nil => intro i h1; cases h1
        | cons z _ ih =>
          intro i h1 h2
          cases i with
          | zero => exact z
          | succ i => exact ih i (Nat.lt_of_succ_lt_succ h1) (Nat.lt_of_succ_lt_succ h2)
      exact g ra i hik hiv
    obtain ⟨k', hk', hh⟩ := ka es[i] (Array.getElem_mem hi)
    have ek : k' = va[i].1 := (mixKind X.prog X.w).inj _ _ _ hk' hkey
    rw [ek] at hh
    obtain ⟨v, hv, dv⟩ := each ks[i] (List.getElem_mem hik)
    rw [rk.1] at hv
    have rel := rb.val va[i].1
    rw [hv] at rel
    obtain ⟨y, hy, ry⟩ := RelO.some_of rel
    have fb : findBy (mixKind X.prog X.w).is es' va[i].1 = some y := by
      rw [← hy, ← pb.find va[i].1]
      unfold findBy
      rw [← Array.find?_toList]
    rw [findBy_of_findIdx?] at fb
    cases hj : es'.findIdx? fun e => (mixKind X.prog X.w).is va[i].1 e.key with
    | none =>
      rw [hj] at fb
      cases fb
    | some j =>
      rw [hj] at fb
      obtain ⟨hjl, _, _⟩ := Array.findIdx?_eq_some_iff_getElem.mp hj
      have ey : es'[j].val = y := by
        have fb : (es'[j]?).map (·.val) = some y := fb
        rw [Array.getElem?_eq_getElem hjl] at fb
        exact Option.some.inj fb
      refine ⟨va[i].1, j, hjl, hkey, hh, hj, fun s' q => ?_⟩
      obtain ⟨H1, I1, e1⟩ := q
      rw [hval, ey]
      refine wpAny_mono (h A.in1 pins s' σ H1 ks[i].2 v va[i].2 y sb.in1 I1 rk.2 ry (mon _ _ _ _ e1 dv)) (fun r s2 z => ?_) fun _ _ z => z
      obtain ⟨er, H2, I2, e2⟩ := z
      exact ⟨er, H2, I2, e1.trans e2⟩
/-! ### tables by names -/
def Tab {α : Type} (R : V → α → Prop) (kvs : List (Key × V)) (l : List (Str × α)) : Prop := Paired (fun (kv : Key × V) (p : Str × α) => kv.1 = .inr p.1 ∧ R kv.2 p.2) kvs l
theorem Tab.mono {α : Type} {R R' : V → α → Prop} {kvs : List (Key × V)} {l : List (Str × α)} (t : Tab R kvs l) (h : ∀ v a, R v a → R' v a) : Tab R' kvs l := Paired.mono (fun _ _ z => ⟨z.1, h _ _ z.2⟩) t
theorem Tab.len {α : Type} {R : V → α → Prop} {kvs : List (Key × V)} {l : List (Str × α)} (t : Tab R kvs l) : kvs.length = l.length := Paired.length t
theorem Tab.keys {α : Type} {R : V → α → Prop} : ∀ {kvs : List (Key × V)} {l : List (Str × α)}, Tab R kvs l → kvs.map (·.1) = (l.map (·.1)).map Sum.inr
  | _, _, .nil => rfl
  | _, _, .cons z t => by rw [List.map_cons, List.map_cons, List.map_cons, z.1, Tab.keys t]
theorem Tab.kV {α : Type} {R : V → α → Prop} {kvs : List (Key × V)} {l : List (Str × α)} (t : Tab R kvs l) : (kvs.map fun kv => L2.kV kv.1) = (l.map (·.1)).map V.str := by
  have e := congrArg (List.map L2.kV) t.keys
  rw [List.map_map, List.map_map] at e
  exact e
theorem Tab.val {α : Type} {R : V → α → Prop} {z : Str} : ∀ {kvs : List (Key × V)} {l : List (Str × α)}, Tab R kvs l → ∀ {a : α}, l.lookup z = some a → ∃ v, valV kvs (.inr z) = some v ∧ R v a
  | _, _, .nil, a, h => by cases h
  | (k, v) :: _, (y, b) :: _, .cons e t, a, h => by
    obtain ⟨rfl, hr⟩ := (show k = Sum.inr y ∧ R v b from e)
    by_cases hy : z = y
    · subst hy
      rw [List.lookup_cons, beq_self_eq_true] at h
      cases h
      exact ⟨v, valV_pos rfl, hr⟩
    · rw [List.lookup_cons, beq_eq_false_iff_ne.mpr hy] at h
      obtain ⟨u, e1, e2⟩ := Tab.val t h
      refine ⟨u, ?_, e2⟩
      rw [← e1]
      unfold valV
      rw [List.find?_cons, decide_eq_false (fun q => hy (Sum.inr.inj q).symm)]
theorem Tab.none {α : Type} {R : V → α → Prop} {z : Str} : ∀ {kvs : List (Key × V)} {l : List (Str × α)}, Tab R kvs l → l.lookup z = Option.none → valV kvs (.inr z) = Option.none
  | _, _, .nil, _ => rfl
  | (k, v) :: _, (y, b) :: _, .cons e t, h => by
    obtain ⟨rfl, hr⟩ := (show k = Sum.inr y ∧ R v b from e)
    by_cases hy : z = y
    · subst hy
      rw [List.lookup_cons, beq_self_eq_true] at h
      cases h
    · rw [List.lookup_cons, beq_eq_false_iff_ne.mpr hy] at h
      have e1 := Tab.none t h
      rw [← e1]
      unfold valV
      rw [List.find?_cons, decide_eq_false (fun q => hy (Sum.inr.inj q).symm)]
theorem Tab.get {α : Type} {R : V → α → Prop} : ∀ {kvs : List (Key × V)} {l : List (Str × α)} {i : Nat} {p : Str × α}, Tab R kvs l → l[i]? = some p → ∃ v, kvs[i]? = some (.inr p.1, v) ∧ R v p.2
  | _, _, _, _, .nil, h => by simp at h
  | (k, v) :: _, (y, b) :: _, 0, p, .cons e _, h => by
    obtain ⟨rfl, hr⟩ := (show k = Sum.inr y ∧ R v b from e)
    cases h
    exact ⟨v, rfl, hr⟩
  | _ :: _, _ :: _, i + 1, p, .cons _ t, h => by
    obtain ⟨u, e1, e2⟩ := Tab.get (i := i) t h
    exact ⟨u, e1, e2⟩
/-- names that differ: what stands at a place is what is found -/
theorem look_at {α : Type} : ∀ {l : List (Str × α)} {p : Str × α}, (l.map (·.1)).Nodup → p ∈ l → l.lookup p.1 = some p.2
  | [], _, _, h => by cases h
  | (y, b) :: r, p, nd, h => by
    rw [List.map_cons, List.nodup_cons] at nd
    rcases List.mem_cons.mp h with e | e
    · subst e
      rw [List.lookup_cons, beq_self_eq_true]
    · have ny : p.1 ≠ y := fun z => nd.1 (by rw [← z]; exact List.mem_map_of_mem (f := (·.1)) e)
      rw [List.lookup_cons, beq_eq_false_iff_ne.mpr ny]
      exact look_at nd.2 e
theorem look_mem {α : Type} {z : Str} {a : α} : ∀ {l : List (Str × α)}, l.lookup z = some a → (z, a) ∈ l
  | [], h => by cases h
  | (y, b) :: r, h => by
    by_cases hy : z = y
    · subst hy
      rw [List.lookup_cons, beq_self_eq_true] at h
      cases h
      exact List.mem_cons_self
    · rw [List.lookup_cons, beq_eq_false_iff_ne.mpr hy] at h
      exact List.mem_cons_of_mem _ (look_mem h)
theorem look_name {α : Type} {z : Str} : ∀ {l : List (Str × α)}, z ∈ l.map (·.1) → ∃ a, l.lookup z = some a
  | [], h => by cases h
  | (y, b) :: r, h => by
    by_cases hy : z = y
    · subst hy
      exact ⟨b, by rw [List.lookup_cons, beq_self_eq_true]⟩
    · rw [List.lookup_cons, beq_eq_false_iff_ne.mpr hy]
      exact look_name ((List.mem_cons.mp h).resolve_left hy)
theorem look_no {α : Type} {z : Str} {l : List (Str × α)} (h : z ∉ l.map (·.1)) : l.lookup z = Option.none := by
  cases e : l.lookup z with
  | none => rfl
  | some a => exact absurd (List.mem_map_of_mem (f := (·.1)) (look_mem e)) h
end Lk
set_option Elab.async false
set_option linter.all false
set_option maxRecDepth 100000
set_option maxHeartbeats 2000000
namespace Lk
open PySem PySem.Spec PyProof.Rows L2 TxS LkO
theorem putK_new {kvs : List (Key × V)} {k : Key} {v : V} (h : k ∉ kvs.map (·.1)) : putK kvs k v = kvs ++ [(k, v)] := by
  unfold putK
  rw [if_neg]
  intro e
  obtain ⟨p, hp, q⟩ := List.any_eq_true.mp e
  exact h (List.mem_map.mpr ⟨p, hp, of_decide_eq_true q⟩)
/-- {k(x): f(x) for x in ..}, the keys differ, a turn only makes objects -/
theorem dc_m {J : It} {n : Nat} {G : Hp → Prop} {Y : Nat → Hp → V → Hp → Prop} (w : Walk J n G Y) {g : TG} {tk tv : TE} {vs : List Nat} {σ : L2.St} {H1 : Hp} {D : Addr} {Qd : Hp → Prop} {α : Type} (l : List α) (kf : α → Key) (f : α → V) (hn : n = l.length) (nd : (l.map kf).Nodup) (nD : H1 D = none) (few : l.length ≤ 1000)
    (hG : ∀ H', Same H1 H' → G H')
    (hs : ∀ i a x H2 H' (Kt : V → V → Hp → Prop), l[i]? = some a → Same H1 H2 → Y i H2 x H' → (∀ H5, Same H2 H5 → Kt (kV (kf a)) (f a) H5) → g x (wipe σ vs) H' fun σ2 H3 => wipe σ2 vs = wipe σ vs ∧ tk σ2 H3 fun y H4 => tv σ2 H4 fun z H5 => Kt y z H5)
    (hd : ∀ H2, Same H1 H2 → H2 D = some (.dK (l.map fun a => (kf a, f a))) → Qd H2) :
    ∃ W : Nat → Nat → Hp → Prop, (∃ m, W 0 m (upd H1 D (.dK []))) ∧ ∀ i m H, W i m H → (J.stop i H ∧ Qd H) ∨ (J.go i H ∧ ∃ Nx : Hp → Prop, (∀ H', Nx H' → ∃ m', m' < m ∧ W (i + 1) m' H') ∧
      ∀ x H', J.yld i H x H' → g x (wipe σ vs) H' fun σ2 H2 => wipe σ2 vs = wipe σ vs ∧ tYes σ2 H2 fun b H3 => if b = true then tk σ2 H3 fun y H4 => tv σ2 H4 fun z H5 => ∃ kvs k, y = kV k ∧ H5 D = some (.dK kvs) ∧ kvs.length < sizeLine ∧ Nx (upd H5 D (.dK (putK kvs k z))) else Nx H3) := by
  refine ⟨fun i m H => m = n - i ∧ i ≤ n ∧ Same H1 H ∧ H D = some (.dK ((l.take i).map fun a => (kf a, f a))), ⟨n, by simp, Nat.zero_le _, same_new nD, upd_same⟩, ?_⟩
  rintro i m H ⟨rfl, hi, sm, eD⟩
  by_cases lt : i < n
  · have hl : i < l.length := hn ▸ lt
    have ha : l[i]? = some l[i] := List.getElem?_eq_getElem hl
    refine .inr ⟨w.goes i H lt (hG H sm), fun H' => Same H1 H' ∧ H' D = some (.dK ((l.take (i + 1)).map fun a => (kf a, f a))), fun H' z => ⟨n - (i + 1), by omega, rfl, lt, z⟩, fun x H' y => ?_⟩
    refine hs i l[i] x H H' _ ha sm (w.yields i H x H' lt (hG H sm) y) fun H5 s5 => ?_
    refine ⟨_, kf l[i], rfl, s5 _ _ eD, ?_, Same.up (sm.trans s5) nD, ?_⟩
    · rw [List.length_map, List.length_take]
      exact Nat.lt_of_le_of_lt (Nat.min_le_right _ _) (small1000 few)
    · rw [upd_same, putK_new, take_next1 ha, List.map_append]
      · rfl
      · rw [List.map_map]
        intro hm
        have nd2 : ((l.take (i + 1)).map kf).Nodup := by
          rw [List.map_take]
          exact nd.sublist (List.take_sublist _ _)
        rw [take_next1 ha, List.map_append, List.nodup_append] at nd2
        exact nd2.2.2 _ hm _ (by simp) rfl
  · have e : i = n := Nat.le_antisymm hi (Nat.le_of_not_lt lt)
    subst e
    refine .inl ⟨w.stops H (hG H sm), hd H sm ?_⟩
    rw [eD, hn, List.take_length]
end Lk
set_option Elab.async false
set_option linter.all false
set_option maxRecDepth 100000
set_option maxHeartbeats 2000000
namespace Lk
open PySem PySem.Spec PyProof.Rows L2 TxS LkO LkG
structure BldD where
  rooms : List Str
  keys : List (Str × Str)
  doors : List (Str × DoorD)
  people : List (Str × PersonD)
structure BldD.ok (b : BldD) : Prop where
  rooms : areNm b.rooms = true
  r2 : 2 ≤ b.rooms.length
  r6 : b.rooms.length ≤ 6
  k3 : b.keys.length ≤ 3
  knd : (b.keys.map (·.1)).Nodup
  keys : ∀ p ∈ b.keys, isNm p.1 = true ∧ p.1 ∉ b.rooms ∧ p.2 ∈ b.rooms
  d1 : 1 ≤ b.doors.length
  d8 : b.doors.length ≤ 8
  dnd : (b.doors.map (·.1)).Nodup
  doors : ∀ p ∈ b.doors, isNm p.1 = true ∧ p.2.ok ∧ p.2.a ∈ b.rooms ∧ p.2.b ∈ b.rooms ∧ ∀ z, p.2.key = some z → z ∈ b.keys.map (·.1)
  p1 : 1 ≤ b.people.length
  p4 : b.people.length ≤ 4
  pnd : (b.people.map (·.1)).Nodup
  people : ∀ p ∈ b.people, isNm p.1 = true ∧ p.2.ok ∧ p.2.a ∈ b.rooms ∧ (∀ z ∈ p.2.carried, z ∈ b.keys.map (·.1)) ∧ (∀ z ∈ p.2.needs, z ∈ b.rooms) ∧ ∀ z ∈ p.2.shuns, z ∈ b.rooms
def keyR : V → Str → Prop := fun v z => v = .str z
def doorR (C : Addr) (H : Hp) : V → DoorD → Prop := fun v d => ∃ x, v = .ref x ∧ DoorAt C H x d
def persR (K : PySem.W.Frag) (C : Addr) (H : Hp) : V → PersonD → Prop := fun v d => ∃ x, v = .ref x ∧ PersonAt K C H x d
theorem doorR.same {C : Addr} {H H' : Hp} (s : Same H H') (v : V) (d : DoorD) (h : doorR C H v d) : doorR C H' v d := let ⟨x, e, a⟩ := h; ⟨x, e, a.same s⟩
theorem persR.same {K : PySem.W.Frag} {C : Addr} {H H' : Hp} (s : Same H H') (v : V) (d : PersonD) (h : persR K C H v d) : persR K C H' v d := let ⟨x, e, a⟩ := h; ⟨x, e, a.same s⟩
/-- the program's limits -/
structure Lim (mg : Str → Option Value) : Prop where
  fr : ∃ t, mg "FEWEST_ROOMS" = some (.int 2 t)
  mr : ∃ t, mg "MOST_ROOMS" = some (.int 6 t)
  mks : ∃ t, mg "MOST_KEYS" = some (.int 3 t)
  md : ∃ t, mg "MOST_DOORS" = some (.int 8 t)
  mp : ∃ t, mg "MOST_PEOPLE" = some (.int 4 t)
theorem bl_yes {p : Prop} [Decidable p] (h : p) : V.bl (decide p) = V.bl true := by rw [decide_eq_true h]
theorem all_yes {α : Type} {l : List α} {f : α → Bool} (h : ∀ z ∈ l, f z = true) : (l.map f).all id = true := by
  rw [List.all_map]
  exact List.all_eq_true.mpr fun z hz => h z hz
section
variable {P : Program} {w : World} {K : PySem.W.Frag} {mg : Str → Option Value} {base : Heap} {C : Addr}
/-- Door, with what is read of it -/
structure DoorT (P : Program) (w : World) (K : PySem.W.Frag) (mg : Str → Option Value) (base : Heap) (C : Addr) : Prop where
  c : OwnC K mg C "Door" doorF
  start : Pr P w K mg base 1 C "start" (getSp C "kept_start")
  end_ : Pr P w K mg base 1 C "end" (getSp C "kept_end")
  key : Pr P w K mg base 1 C "key" (getSp C "kept_key")
structure PersT (P : Program) (w : World) (K : PySem.W.Frag) (mg : Str → Option Value) (base : Heap) (C : Addr) : Prop where
  c : OwnC K mg C "Person" personF
  start : Pr P w K mg base 1 C "start" (getSp C "kept_start")
  carried : Pr P w K mg base 1 C "carried" (getSp C "kept_carried")
  needs : Pr P w K mg base 1 C "needs" (getSp C "kept_needs")
  shuns : Pr P w K mg base 1 C "shuns" (getSp C "kept_shuns")
/-! ### is_table -/
def spTable : Sp := fun vs H Q _ => ∃ (d : Addr) (o : Obj) (kvs : List (Key × V)) (names : List Str) (lo hi : Int), vs = [.ref d, .int lo, .int hi] ∧ H d = some (.frz o (.dK kvs)) ∧ kvs.map (·.1) = names.map Sum.inr ∧ names.length ≤ 1000 ∧ (∀ z ∈ names, isNm z = true) ∧ lo ≤ names.length ∧ names.length ≤ hi ∧
  ∀ H', Same H H' → Q (.bl true) H'
theorem scTable : FnScope ["value", "fewest", "most", "name"] ["value", "fewest", "most"] (defScope s_is_table) := ⟨rfl, rfl, rfl, by decide +kernel, rfl, by decide +kernel, by decide +kernel⟩
theorem key_at {kvs : List (Key × V)} {names : List Str} (e : kvs.map (·.1) = names.map Sum.inr) {i : Nat} {z : Str} {k : Key} {v : V} (hz : names[i]? = some z) (hk : kvs[i]? = some (k, v)) : kV k = .str z := by
  have h1 : (kvs.map (·.1))[i]? = some k := by rw [List.getElem?_map, hk]; rfl
  rw [e, List.getElem?_map, hz] at h1
  cases h1
  rfl
theorem ok_table {f : Addr} {fd : FuncData} (F : Fun K "is_table" "is_table" s_is_table f fd) (B : Blt mg) (GN : Fn P w K mg base 1 "is_name" ["value"] spName) : FnOk P w K mg base CX0 2 f fd ["value", "fewest", "most"] spTable := by
  refine F.ok scTable (fun vs H Q E h => ?_) (fun cdv A outer s H vs Q E hr h => ?_)
  · obtain ⟨d, o, kvs, names, lo, hi, rfl, _⟩ := h
    rfl
  · obtain ⟨d, o, kvs, names, lo, hi, rfl, hd, hk, few, nm, l1, l2, q⟩ := h
    have len : kvs.length = names.length := by
      have := congrArg List.length hk
      rw [List.length_map, List.length_map] at this
      exact this
    refine ⟨_, pss_one (ps_ret (pe_and (pe_callB call_isi (by rfl) B.isi PyProof.Rows.boot_isinstance (pa_cons (pv 0) (pa_cons (pe_bltn (v := .ty "dict") (by rfl) B.dct PyProof.Rows.boot_dict rfl) pa_nil)))
      (pe_and (pe_chain op_le op_le (pv 1) (pe_callB cr_lenR (by rfl) B.len PySem.boot_len (pa_cons (pv 0) pa_nil)) (pv 2))
      (pe_one (pe_callB (cr_all rfl) (by rfl) B.all PyProof.Rows.boot_all (pa_cons (pe_lc (own := [("name", 3)]) (g := gName 3) (tt := tYes) rfl scTable.nd (pi_keys (pv 0)) (blkOk_by (N := ["value", "fewest", "most", "name"]) (sc := defScope s_is_table) (by decide +kernel))
        (fun _ _ _ _ _ => pg_name (i := 3) scTable.nd rfl (Or.inl rfl)) (fun _ _ _ _ _ => pts_nil) (fun _ _ _ _ _ => pe_fn GN hr (by rfl) (pa_cons (pv 3) pa_nil))) pa_nil)))))), ?_⟩
    refine ⟨.ref d, rfl, .ref d, .ty "dict", _, _, true, rfl, .ty _, .fDict hd, kit_ty (by decide +kernel), true, rfl, iteT ?_⟩
    refine ⟨.int lo, rfl, .ref d, rfl, d, kvs, rfl, .inr ⟨o, hd⟩, lo, _, rfl, rfl, true, bl_yes (by omega), iteT ⟨.int hi, rfl, _, hi, rfl, rfl, ?_⟩⟩
    refine ⟨true, bl_yes (by omega), iteT ?_⟩
    refine ⟨.ref d, rfl, d, o, rfl, .inl ⟨kvs, hd, fun D nD => lc_m (walk_keys (kvs := kvs)) names (fun z => .bl (isNm z)) len nD few (fun H' s => s _ _ hd) (fun i z x H2 H3 Kt hz s2 hY k => ?_) (fun H2 s2 e => ?_)⟩⟩
    · obtain ⟨rfl, k0, v0, hx, rfl⟩ := hY
      rw [key_at hk hz hx]
      exact ⟨rfl, .str z, rfl, z, rfl, nm_line (nm z (List.mem_of_getElem? hz)), fun H4 s4 => k H4 s4⟩
    · refine ⟨D, names.map isNm, rfl, .inl (.inl (by rw [List.map_map]; exact e)), ?_⟩
      rw [all_yes nm]
      exact q _ s2
/-! ### are_rooms -/
def spRooms (K : PySem.W.Frag) : Sp := fun vs H Q _ => ∃ (r : Addr) (zs : List Str), vs = [.ref r] ∧ SqT K H r (zs.map V.str) ∧ areNm zs = true ∧ 2 ≤ zs.length ∧ zs.length ≤ 6 ∧ ∀ H', Same H H' → Q (.bl true) H'
theorem scRooms : FnScope ["rooms"] ["rooms"] (defScope s_are_rooms) := ⟨rfl, rfl, rfl, by decide +kernel, rfl, by decide +kernel, by decide +kernel⟩
theorem ok_rooms {f : Addr} {fd : FuncData} (F : Fun K "are_rooms" "are_rooms" s_are_rooms f fd) (B : Blt mg) (L : Lim mg) (GA : Fn P w K mg base 2 "are_names" ["values"] (spAre K)) : FnOk P w K mg base CX0 3 f fd ["rooms"] (spRooms K) := by
  obtain ⟨t2, e2⟩ := L.fr
  obtain ⟨t6, e6⟩ := L.mr
  refine F.ok scRooms (fun vs H Q E h => ?_) (fun cdv A outer s H vs Q E hr h => ?_)
  · obtain ⟨r, zs, rfl, _⟩ := h
    rfl
  · obtain ⟨r, zs, rfl, hz, nm, l2, l6, q⟩ := h
    refine ⟨_, pss_one (ps_ret (pe_and (pe_fn GA hr (by rfl) (pa_cons (pv 0) pa_nil)) (pe_one (pe_chain op_le op_le (pe_glob (v := .int 2) (by rfl) e2 ⟨_, rfl⟩) (pe_callB call_len_seq (by rfl) B.len PySem.boot_len (pa_cons (pv 0) pa_nil)) (pe_glob (v := .int 6) (by rfl) e6 ⟨_, rfl⟩))))), ?_⟩
    refine ⟨.ref r, rfl, r, zs, rfl, by omega, fun z h => nm_line (are_nm nm z h), hz, fun H1 s1 => ⟨true, by rw [nm], iteT ?_⟩⟩
    refine ⟨.ref r, rfl, r, _, rfl, .inr (Same.tup s1 hz), 2, _, rfl, rfl, true, bl_yes (by rw [List.length_map]; omega), iteT ⟨_, 6, rfl, rfl, ?_⟩⟩
    show Q (V.bl (decide _)) _
    rw [List.length_map, bl_yes (by omega)]
    exact q _ s1
/-! ### is_key, are_keys -/
def spIsKey (K : PySem.W.Frag) : Sp := fun vs H Q _ => ∃ (n z : Str) (r : Addr) (zs : List Str), vs = [.str n, .str z, .ref r] ∧ SqT K H r (zs.map V.str) ∧ n ∉ zs ∧ z ∈ zs ∧ isNm z = true ∧ ∀ H', Same H H' → Q (.bl true) H'
theorem scIsKey : FnScope ["name", "room", "rooms"] ["name", "room", "rooms"] (defScope s_is_key) := ⟨rfl, rfl, rfl, by decide +kernel, rfl, by decide +kernel, by decide +kernel⟩
theorem ok_isKey {f : Addr} {fd : FuncData} (F : Fun K "is_key" "is_key" s_is_key f fd) (GN : Fn P w K mg base 1 "is_name" ["value"] spName) : FnOk P w K mg base CX0 2 f fd ["name", "room", "rooms"] (spIsKey K) := by
  refine F.ok scIsKey (fun vs H Q E h => ?_) (fun cdv A outer s H vs Q E hr h => ?_)
  · obtain ⟨n, z, r, zs, rfl, _⟩ := h
    rfl
  · obtain ⟨n, z, r, zs, rfl, hr', hn, hz, nm, q⟩ := h
    refine ⟨_, pss_one (ps_ret (pe_and (pe_cmpR (r := rIn K true) op_notIn_seq (pv 0) (pv 2) rfl) (pe_and (pe_fn GN hr (by rfl) (pa_cons (pv 1) pa_nil)) (pe_one (pe_cmpR (r := rIn K false) op_in_seq (pv 1) (pv 2) rfl))))), ?_⟩
    refine ⟨.str n, rfl, .ref r, rfl, r, _, rfl, .inr hr', rfl, flat_strs zs, true, by rw [inV_str]; simp [hn], iteT ?_⟩
    refine ⟨.str z, rfl, z, rfl, nm_line nm, fun H1 s1 => ⟨true, by rw [nm], iteT ?_⟩⟩
    refine ⟨.str z, rfl, .ref r, rfl, r, _, rfl, .inr (Same.tup s1 hr'), rfl, flat_strs zs, ?_⟩
    rw [inV_str, if_neg Bool.false_ne_true, decide_eq_true hz]
    exact q _ s1
def spKeys (K : PySem.W.Frag) : Sp := fun vs H Q _ => ∃ (d r : Addr) (o : Obj) (kvs : List (Key × V)) (keys : List (Str × Str)) (zs : List Str), vs = [.ref d, .ref r] ∧ H d = some (.frz o (.dK kvs)) ∧ Tab keyR kvs keys ∧ SqT K H r (zs.map V.str) ∧ (keys.map (·.1)).Nodup ∧ keys.length ≤ 3 ∧ (∀ z ∈ zs, isNm z = true) ∧
  (∀ p ∈ keys, isNm p.1 = true ∧ p.1 ∉ zs ∧ p.2 ∈ zs) ∧ ∀ H', Same H H' → Q (.bl true) H'
theorem scKeys : FnScope ["keys", "rooms", "name"] ["keys", "rooms"] (defScope s_are_keys) := ⟨rfl, rfl, rfl, by decide +kernel, rfl, by decide +kernel, by decide +kernel⟩
theorem ok_keys {f : Addr} {fd : FuncData} (F : Fun K "are_keys" "are_keys" s_are_keys f fd) (B : Blt mg) (L : Lim mg) (GT : Fn P w K mg base 2 "is_table" ["value", "fewest", "most"] spTable) (GK : Fn P w K mg base 2 "is_key" ["name", "room", "rooms"] (spIsKey K)) : FnOk P w K mg base CX0 3 f fd ["keys", "rooms"] (spKeys K) := by
  obtain ⟨t3, e3⟩ := L.mks
  refine F.ok scKeys (fun vs H Q E h => ?_) (fun cdv A outer s H vs Q E hr h => ?_)
  · obtain ⟨d, r, o, kvs, keys, zs, rfl, _⟩ := h
    rfl
  · obtain ⟨d, r, o, kvs, keys, zs, rfl, hd, tab, hr', nd, k3, nmz, each, q⟩ := h
    refine ⟨_, pss_one (ps_ret (pe_and (pe_fn GT hr (by rfl) (pa_cons (pv 0) (pa_cons pe_int (pa_cons (pe_glob (v := .int 3) (by rfl) e3 ⟨_, rfl⟩) pa_nil))))
      (pe_one (pe_callB (cr_all rfl) (by rfl) B.all PyProof.Rows.boot_all (pa_cons (pe_lc (own := [("name", 2)]) (g := gName 2) (tt := tYes) (te := tCall (spIsKey K) [] E0 (tCons (tVar 2) (tCons (tDGet (tVar 0) (tVar 2)) (tCons (tVar 1) tNil)))) rfl scKeys.nd (pi_keys (pv 0)) (blkOk_by (N := ["keys", "rooms", "name"]) (sc := defScope s_are_keys) (by decide +kernel))
        (fun _ _ _ _ _ => pg_name (i := 2) scKeys.nd rfl (Or.inl rfl)) (fun _ _ _ _ _ => pts_nil) (fun _ _ _ _ _ => pe_fn GK hr (by rfl) (pa_cons (pv 2) (pa_cons (pe_dget (hu_of hr) (pv 0) (pv 2) (fun _ _ => rfl)) (pa_cons (pv 1) pa_nil))))) pa_nil))))), ?_⟩
    refine ⟨.ref d, rfl, d, o, kvs, keys.map (·.1), 0, 3, rfl, hd, tab.keys, by rw [List.length_map]; omega, fun z hz => ?_, by omega, by rw [List.length_map]; omega, fun H1 s1 => ⟨true, rfl, iteT ?_⟩⟩
    · obtain ⟨p, hp, rfl⟩ := List.mem_map.mp hz
      exact (each p hp).1
    refine ⟨.ref d, rfl, d, o, rfl, .inl ⟨kvs, s1 _ _ hd, fun D nD => lc_m (walk_keys (kvs := kvs)) keys (fun _ => .bl true) tab.len nD (by omega) (fun H' s => s _ _ (s1 _ _ hd)) (fun i p x H2 H3 Kt hz s2 hY k => ?_) (fun H2 s2 e => ?_)⟩⟩
    · obtain ⟨rfl, k0, v0, hx, rfl⟩ := hY
      obtain ⟨v, hv, hr2⟩ := tab.get hz
      rw [hv] at hx
      cases hx
      have hp := List.mem_of_getElem? hz
      obtain ⟨u, hu, hr3⟩ := tab.val (look_at nd hp)
      have eu : u = .str p.2 := hr3
      subst eu
      obtain ⟨a1, a2, a3⟩ := each p hp
      have sH := s1.trans s2
      exact ⟨rfl, .str p.1, rfl, .ref d, rfl, .str p.1, rfl, d, .str p.2, rfl, .inl ⟨kvs, .inr p.1, .inr ⟨o, sH _ _ hd⟩, rfl, hu.symm⟩, .ref r, rfl, p.1, p.2, r, zs, rfl, Same.tup sH hr', a2, a3, nmz _ a3, fun H4 s4 => k H4 s4⟩
    · refine ⟨D, keys.map fun _ => true, rfl, .inl (.inl (by rw [List.map_map]; exact e)), ?_⟩
      rw [all_yes fun _ _ => rfl]
      exact q _ (s1.trans s2)
end
end Lk
set_option Elab.async false
set_option linter.all false
set_option maxRecDepth 100000
set_option maxHeartbeats 2000000
namespace Lk
open PySem PySem.Spec PyProof.Rows L2 TxS LkO LkG
theorem all_in_yes {zs ws : List Str} (h : ∀ z ∈ zs, z ∈ ws) : (zs.all fun z => decide (z ∈ ws)) = true := List.all_eq_true.mpr fun z hz => decide_eq_true (h z hz)
theorem all_key_yes {α : Type} {R : V → α → Prop} {kvs : List (Key × V)} {l : List (Str × α)} (t : Tab R kvs l) {zs : List Str} (h : ∀ z ∈ zs, z ∈ l.map (·.1)) : (zs.all fun z => (valV kvs (.inr z)).isSome) = true := List.all_eq_true.mpr fun z hz => by
  obtain ⟨a, e⟩ := look_name (h z hz)
  obtain ⟨v, e2, _⟩ := t.val e
  rw [e2]
  rfl
section
variable {P : Program} {w : World} {K : PySem.W.Frag} {mg : Str → Option Value} {base : Heap} {C : Addr}
/-! ### fits_door, are_doors -/
def spFitsD (K : PySem.W.Frag) (C : Addr) : Sp := fun vs H Q _ => ∃ (x r k : Addr) (d : DoorD) (o : Obj) (kvs : List (Key × V)) (keys : List (Str × Str)) (zs : List Str), vs = [.ref x, .ref r, .ref k] ∧ DoorAt C H x d ∧ SqT K H r (zs.map V.str) ∧ H k = some (.frz o (.dK kvs)) ∧ Tab keyR kvs keys ∧
  d.a ∈ zs ∧ d.b ∈ zs ∧ (∀ z, d.key = some z → z ∈ keys.map (·.1)) ∧ ∀ H', Same H H' → Q (.bl true) H'
theorem scFitsD : FnScope ["door", "rooms", "keys"] ["door", "rooms", "keys"] (defScope s_fits_door) := ⟨rfl, rfl, rfl, by decide +kernel, rfl, by decide +kernel, by decide +kernel⟩
theorem ok_fitsD {f : Addr} {fd : FuncData} (F : Fun K "fits_door" "fits_door" s_fits_door f fd) (B : Blt mg) (T : DoorT P w K mg base C) (GI : Fn P w K mg base 1 "all_in" ["names", "known"] (spAllIn K)) : FnOk P w K mg base CX0 3 f fd ["door", "rooms", "keys"] (spFitsD K C) := by
  refine F.ok scFitsD (fun vs H Q E h => ?_) (fun cdv A outer s H vs Q E hr h => ?_)
  · obtain ⟨x, r, k, d, o, kvs, keys, zs, rfl, _⟩ := h
    rfl
  · obtain ⟨x, r, k, d, o, kvs, keys, zs, rfl, ⟨⟨dx, hx⟩, ok⟩, hr', hk, tab, m1, m2, m3, q⟩ := h
    refine ⟨_, pss_one (ps_ret (pe_and (pe_callB call_isi (by rfl) B.isi PyProof.Rows.boot_isinstance (pa_cons (pv 0) (pa_cons (pe_glob (v := .ref C) (by rfl) T.c.mgC rfl) pa_nil)))
      (pe_and (pe_fn GI (hr.mono (by decide)) (by rfl) (pa_cons (pe_tup (pa_cons (pe_pr T.start hr T.c.cl (pv 0) rfl) (pa_cons (pe_pr T.end_ hr T.c.cl (pv 0) rfl) pa_nil))) (pa_cons (pv 1) pa_nil)))
      (pe_one (pe_or (pe_cmp (pc_isN (pe_pr T.key hr T.c.cl (pv 0) rfl))) (pe_one (pe_cmp (pc_din (hu_of hr) (pe_pr T.key hr T.c.cl (pv 0) rfl) (pv 2)) rfl))))))), ?_⟩
    obtain ⟨l1, l2, l3, _, _⟩ := look_door d
    refine ⟨.ref x, rfl, .ref x, .ref C, _, _, true, rfl, .own C, .base (.ins hx T.c.cl T.c.tyc T.c.tyg T.c.tyt T.c.tym), T.c.kit, true, rfl, iteT ?_⟩
    refine ⟨.ref x, rfl, x, dx, _, rfl, hx, x, dx, _, _, rfl, hx, l1, .ref x, rfl, x, dx, _, rfl, hx, x, dx, _, _, rfl, hx, l2, by show 2 ≤ sizeLine; rw [sizeLine_eq]; decide, fun p np => ?_⟩
    refine ⟨.ref r, rfl, p, r, [d.a, d.b], zs, rfl, by show 2 ≤ 1000; decide, .inl (.inl upd_same), .inr (Same.tup (same_new np) hr'), fun H1 s1 => ⟨true, ?_, iteT ?_⟩⟩
    · rw [all_in_yes fun z hz => ?_]
      rcases List.mem_cons.mp hz with e | e
      · rw [e]
        exact m1
      · rw [List.mem_singleton.mp e]
        exact m2
    have sm := (same_new np).trans s1
    have hx1 := sm _ _ hx
    refine ⟨.ref x, rfl, x, dx, _, rfl, hx1, x, dx, _, _, rfl, hx1, l3, ?_⟩
    cases hkey : d.key with
    | none => exact ⟨true, rfl, iteT (q _ sm)⟩
    | some z =>
      refine ⟨false, rfl, iteF ?_⟩
      obtain ⟨a, ha⟩ := look_name (m3 z hkey)
      obtain ⟨v, hv, _⟩ := tab.val ha
      have l3' : List.lookup ("kept_key" : Str) d.fs = some (V.str z) := by rw [l3, hkey]; rfl
      exact ⟨.ref x, rfl, x, dx, _, rfl, hx1, x, dx, _, _, rfl, hx1, l3', .ref k, rfl, k, _, rfl, .inl ⟨kvs, .inr z, .inr ⟨o, sm _ _ hk⟩, rfl, hv.symm⟩, q _ sm⟩
def spDoors (K : PySem.W.Frag) (C : Addr) : Sp := fun vs H Q _ => ∃ (a r k : Addr) (oa o : Obj) (ds kvs : List (Key × V)) (doors : List (Str × DoorD)) (keys : List (Str × Str)) (zs : List Str), vs = [.ref a, .ref r, .ref k] ∧ H a = some (.frz oa (.dK ds)) ∧ Tab (doorR C H) ds doors ∧ SqT K H r (zs.map V.str) ∧
  H k = some (.frz o (.dK kvs)) ∧ Tab keyR kvs keys ∧ (doors.map (·.1)).Nodup ∧ 1 ≤ doors.length ∧ doors.length ≤ 8 ∧ (∀ p ∈ doors, isNm p.1 = true ∧ p.2.a ∈ zs ∧ p.2.b ∈ zs ∧ ∀ z, p.2.key = some z → z ∈ keys.map (·.1)) ∧ ∀ H', Same H H' → Q (.bl true) H'
theorem scDoors : FnScope ["doors", "rooms", "keys", "name"] ["doors", "rooms", "keys"] (defScope s_are_doors) := ⟨rfl, rfl, rfl, by decide +kernel, rfl, by decide +kernel, by decide +kernel⟩
theorem ok_doors {f : Addr} {fd : FuncData} (F : Fun K "are_doors" "are_doors" s_are_doors f fd) (B : Blt mg) (L : Lim mg) (GT : Fn P w K mg base 2 "is_table" ["value", "fewest", "most"] spTable) (GF : Fn P w K mg base 3 "fits_door" ["door", "rooms", "keys"] (spFitsD K C)) :
    FnOk P w K mg base CX0 4 f fd ["doors", "rooms", "keys"] (spDoors K C) := by
  obtain ⟨t8, e8⟩ := L.md
  refine F.ok scDoors (fun vs H Q E h => ?_) (fun cdv A outer s H vs Q E hr h => ?_)
  · obtain ⟨a, r, k, oa, o, ds, kvs, doors, keys, zs, rfl, _⟩ := h
    rfl
  · obtain ⟨a, r, k, oa, o, ds, kvs, doors, keys, zs, rfl, ha, td, hr', hk, tk, nd, d1, d8, each, q⟩ := h
    refine ⟨_, pss_one (ps_ret (pe_and (pe_fn GT (hr.mono (by decide)) (by rfl) (pa_cons (pv 0) (pa_cons pe_int (pa_cons (pe_glob (v := .int 8) (by rfl) e8 ⟨_, rfl⟩) pa_nil))))
      (pe_one (pe_callB (cr_all rfl) (by rfl) B.all PyProof.Rows.boot_all (pa_cons (pe_lc (own := [("name", 3)]) (g := gName 3) (tt := tYes) (te := tCall (spFitsD K C) [] E0 (tCons (tDGet (tVar 0) (tVar 3)) (tCons (tVar 1) (tCons (tVar 2) tNil)))) rfl scDoors.nd (pi_keys (pv 0)) (blkOk_by (N := ["doors", "rooms", "keys", "name"]) (sc := defScope s_are_doors) (by decide +kernel))
        (fun _ _ _ _ _ => pg_name (i := 3) scDoors.nd rfl (Or.inl rfl)) (fun _ _ _ _ _ => pts_nil) (fun _ _ _ _ _ => pe_fn GF hr (by rfl) (pa_cons (pe_dget (hu_of hr) (pv 0) (pv 3) (fun _ _ => rfl)) (pa_cons (pv 1) (pa_cons (pv 2) pa_nil))))) pa_nil))))), ?_⟩
    refine ⟨.ref a, rfl, a, oa, ds, doors.map (·.1), 1, 8, rfl, ha, td.keys, by rw [List.length_map]; omega, fun z hz => ?_, by rw [List.length_map]; omega, by rw [List.length_map]; omega, fun H1 s1 => ⟨true, rfl, iteT ?_⟩⟩
    · obtain ⟨p, hp, rfl⟩ := List.mem_map.mp hz
      exact (each p hp).1
    refine ⟨.ref a, rfl, a, oa, rfl, .inl ⟨ds, s1 _ _ ha, fun D nD => lc_m (walk_keys (kvs := ds)) doors (fun _ => .bl true) td.len nD (by omega) (fun H' s => s _ _ (s1 _ _ ha)) (fun i p x H2 H3 Kt hz s2 hY kk => ?_) (fun H2 s2 e => ?_)⟩⟩
    · obtain ⟨rfl, k0, v0, hx, rfl⟩ := hY
      obtain ⟨v, hv, _⟩ := td.get hz
      rw [hv] at hx
      cases hx
      have hp := List.mem_of_getElem? hz
      obtain ⟨u, hu, ⟨y, rfl, hy⟩⟩ := td.val (look_at nd hp)
      obtain ⟨a1, a2, a3, a4⟩ := each p hp
      have sH := s1.trans s2
      exact ⟨rfl, .ref a, rfl, .str p.1, rfl, a, .ref y, rfl, .inl ⟨ds, .inr p.1, .inr ⟨oa, sH _ _ ha⟩, rfl, hu.symm⟩, .ref r, rfl, .ref k, rfl, y, r, k, p.2, o, kvs, keys, zs, rfl, hy.same sH, Same.tup sH hr', sH _ _ hk, tk, a2, a3, a4, fun H4 s4 => kk H4 s4⟩
    · refine ⟨D, doors.map fun _ => true, rfl, .inl (.inl (by rw [List.map_map]; exact e)), ?_⟩
      rw [all_yes fun _ _ => rfl]
      exact q _ (s1.trans s2)
/-! ### fits_person, are_people -/
def spFitsP (K : PySem.W.Frag) (C : Addr) : Sp := fun vs H Q _ => ∃ (x r k : Addr) (d : PersonD) (o : Obj) (kvs : List (Key × V)) (keys : List (Str × Str)) (zs : List Str), vs = [.ref x, .ref r, .ref k] ∧ PersonAt K C H x d ∧ SqT K H r (zs.map V.str) ∧ H k = some (.frz o (.dK kvs)) ∧ Tab keyR kvs keys ∧
  d.a ∈ zs ∧ (∀ z ∈ d.carried, z ∈ keys.map (·.1)) ∧ (∀ z ∈ d.needs, z ∈ zs) ∧ (∀ z ∈ d.shuns, z ∈ zs) ∧ ∀ H', Same H H' → Q (.bl true) H'
theorem scFitsP : FnScope ["person", "rooms", "keys"] ["person", "rooms", "keys"] (defScope s_fits_person) := ⟨rfl, rfl, rfl, by decide +kernel, rfl, by decide +kernel, by decide +kernel⟩
theorem ok_fitsP {f : Addr} {fd : FuncData} (F : Fun K "fits_person" "fits_person" s_fits_person f fd) (B : Blt mg) (T : PersT P w K mg base C) (GI : Fn P w K mg base 1 "all_in" ["names", "known"] (spAllIn K)) (GD : Fn P w K mg base 1 "all_in" ["names", "known"] (spAllInD K)) :
    FnOk P w K mg base CX0 3 f fd ["person", "rooms", "keys"] (spFitsP K C) := by
  refine F.ok scFitsP (fun vs H Q E h => ?_) (fun cdv A outer s H vs Q E hr h => ?_)
  · obtain ⟨x, r, k, d, o, kvs, keys, zs, rfl, _⟩ := h
    rfl
  · obtain ⟨x, r, k, d, o, kvs, keys, zs, rfl, ⟨⟨dx, t1, t2, t3, hx, h1, h2, h3⟩, ok⟩, hr', hk, tab, m1, m2, m3, m4, q⟩ := h
    have hr1 := hr.mono (show 1 ≤ 2 by decide)
    refine ⟨_, pss_one (ps_ret (pe_and (pe_callB call_isi (by rfl) B.isi PyProof.Rows.boot_isinstance (pa_cons (pv 0) (pa_cons (pe_glob (v := .ref C) (by rfl) T.c.mgC rfl) pa_nil)))
      (pe_and (pe_cmpR (r := rIn K false) op_in_seq (pe_pr T.start hr T.c.cl (pv 0) rfl) (pv 1) rfl) (pe_and (pe_fn GD hr1 (by rfl) (pa_cons (pe_pr T.carried hr T.c.cl (pv 0) rfl) (pa_cons (pv 2) pa_nil)))
      (pe_and (pe_fn GI hr1 (by rfl) (pa_cons (pe_pr T.needs hr T.c.cl (pv 0) rfl) (pa_cons (pv 1) pa_nil))) (pe_one (pe_fn GI hr1 (by rfl) (pa_cons (pe_pr T.shuns hr T.c.cl (pv 0) rfl) (pa_cons (pv 1) pa_nil))))))))), ?_⟩
    obtain ⟨l1, l2, l3, l4⟩ := look_person d.a t1 t2 t3
    refine ⟨.ref x, rfl, .ref x, .ref C, _, _, true, rfl, .own C, .base (.ins hx T.c.cl T.c.tyc T.c.tyg T.c.tyt T.c.tym), T.c.kit, true, rfl, iteT ?_⟩
    refine ⟨.ref x, rfl, x, dx, _, rfl, hx, x, dx, _, _, rfl, hx, l1, .ref r, rfl, r, _, rfl, .inr hr', rfl, flat_strs zs, true, by rw [inV_str, decide_eq_true m1]; rfl, iteT ?_⟩
    refine ⟨.ref x, rfl, x, dx, _, rfl, hx, x, dx, _, _, rfl, hx, l2, .ref k, rfl, t1, k, d.carried, kvs, rfl, by have := ok.few1; omega, h1, ⟨o, hk⟩, fun H1 s1 => ⟨true, by rw [all_key_yes tab m2], iteT ?_⟩⟩
    have hx1 := s1 _ _ hx
    refine ⟨.ref x, rfl, x, dx, _, rfl, hx1, x, dx, _, _, rfl, hx1, l3, .ref r, rfl, t2, r, d.needs, zs, rfl, by have := ok.few2; omega, Same.tup s1 h2, .inr (Same.tup s1 hr'), fun H2 s2 => ⟨true, by rw [all_in_yes m3], iteT ?_⟩⟩
    have s12 := s1.trans s2
    have hx2 := s12 _ _ hx
    refine ⟨.ref x, rfl, x, dx, _, rfl, hx2, x, dx, _, _, rfl, hx2, l4, .ref r, rfl, t3, r, d.shuns, zs, rfl, by have := ok.few3; omega, Same.tup s12 h3, .inr (Same.tup s12 hr'), fun H3 s3 => ?_⟩
    rw [all_in_yes m4]
    exact q _ (s12.trans s3)
def spPeople (K : PySem.W.Frag) (C : Addr) : Sp := fun vs H Q _ => ∃ (a r k : Addr) (oa o : Obj) (ds kvs : List (Key × V)) (people : List (Str × PersonD)) (keys : List (Str × Str)) (zs : List Str), vs = [.ref a, .ref r, .ref k] ∧ H a = some (.frz oa (.dK ds)) ∧ Tab (persR K C H) ds people ∧ SqT K H r (zs.map V.str) ∧
  H k = some (.frz o (.dK kvs)) ∧ Tab keyR kvs keys ∧ (people.map (·.1)).Nodup ∧ 1 ≤ people.length ∧ people.length ≤ 4 ∧ (∀ p ∈ people, isNm p.1 = true ∧ p.2.a ∈ zs ∧ (∀ z ∈ p.2.carried, z ∈ keys.map (·.1)) ∧ (∀ z ∈ p.2.needs, z ∈ zs) ∧ ∀ z ∈ p.2.shuns, z ∈ zs) ∧ ∀ H', Same H H' → Q (.bl true) H'
theorem scPeople : FnScope ["people", "rooms", "keys", "name"] ["people", "rooms", "keys"] (defScope s_are_people) := ⟨rfl, rfl, rfl, by decide +kernel, rfl, by decide +kernel, by decide +kernel⟩
theorem ok_people {f : Addr} {fd : FuncData} (F : Fun K "are_people" "are_people" s_are_people f fd) (B : Blt mg) (L : Lim mg) (GT : Fn P w K mg base 2 "is_table" ["value", "fewest", "most"] spTable) (GF : Fn P w K mg base 3 "fits_person" ["person", "rooms", "keys"] (spFitsP K C)) :
    FnOk P w K mg base CX0 4 f fd ["people", "rooms", "keys"] (spPeople K C) := by
  obtain ⟨t4, e4⟩ := L.mp
  refine F.ok scPeople (fun vs H Q E h => ?_) (fun cdv A outer s H vs Q E hr h => ?_)
  · obtain ⟨a, r, k, oa, o, ds, kvs, people, keys, zs, rfl, _⟩ := h
    rfl
  · obtain ⟨a, r, k, oa, o, ds, kvs, people, keys, zs, rfl, ha, td, hr', hk, tk, nd, d1, d8, each, q⟩ := h
    refine ⟨_, pss_one (ps_ret (pe_and (pe_fn GT (hr.mono (by decide)) (by rfl) (pa_cons (pv 0) (pa_cons pe_int (pa_cons (pe_glob (v := .int 4) (by rfl) e4 ⟨_, rfl⟩) pa_nil))))
      (pe_one (pe_callB (cr_all rfl) (by rfl) B.all PyProof.Rows.boot_all (pa_cons (pe_lc (own := [("name", 3)]) (g := gName 3) (tt := tYes) (te := tCall (spFitsP K C) [] E0 (tCons (tDGet (tVar 0) (tVar 3)) (tCons (tVar 1) (tCons (tVar 2) tNil)))) rfl scPeople.nd (pi_keys (pv 0)) (blkOk_by (N := ["people", "rooms", "keys", "name"]) (sc := defScope s_are_people) (by decide +kernel))
        (fun _ _ _ _ _ => pg_name (i := 3) scPeople.nd rfl (Or.inl rfl)) (fun _ _ _ _ _ => pts_nil) (fun _ _ _ _ _ => pe_fn GF hr (by rfl) (pa_cons (pe_dget (hu_of hr) (pv 0) (pv 3) (fun _ _ => rfl)) (pa_cons (pv 1) (pa_cons (pv 2) pa_nil))))) pa_nil))))), ?_⟩
    refine ⟨.ref a, rfl, a, oa, ds, people.map (·.1), 1, 4, rfl, ha, td.keys, by rw [List.length_map]; omega, fun z hz => ?_, by rw [List.length_map]; omega, by rw [List.length_map]; omega, fun H1 s1 => ⟨true, rfl, iteT ?_⟩⟩
    · obtain ⟨p, hp, rfl⟩ := List.mem_map.mp hz
      exact (each p hp).1
    refine ⟨.ref a, rfl, a, oa, rfl, .inl ⟨ds, s1 _ _ ha, fun D nD => lc_m (walk_keys (kvs := ds)) people (fun _ => .bl true) td.len nD (by omega) (fun H' s => s _ _ (s1 _ _ ha)) (fun i p x H2 H3 Kt hz s2 hY kk => ?_) (fun H2 s2 e => ?_)⟩⟩
    · obtain ⟨rfl, k0, v0, hx, rfl⟩ := hY
      obtain ⟨v, hv, _⟩ := td.get hz
      rw [hv] at hx
      cases hx
      have hp := List.mem_of_getElem? hz
      obtain ⟨u, hu, ⟨y, rfl, hy⟩⟩ := td.val (look_at nd hp)
      obtain ⟨a1, a2, a3, a4, a5⟩ := each p hp
      have sH := s1.trans s2
      exact ⟨rfl, .ref a, rfl, .str p.1, rfl, a, .ref y, rfl, .inl ⟨ds, .inr p.1, .inr ⟨oa, sH _ _ ha⟩, rfl, hu.symm⟩, .ref r, rfl, .ref k, rfl, y, r, k, p.2, o, kvs, keys, zs, rfl, hy.same sH, Same.tup sH hr', sH _ _ hk, tk, a2, a3, a4, a5, fun H4 s4 => kk H4 s4⟩
    · refine ⟨D, people.map fun _ => true, rfl, .inl (.inl (by rw [List.map_map]; exact e)), ?_⟩
      rw [all_yes fun _ _ => rfl]
      exact q _ (s1.trans s2)
end
end Lk
set_option Elab.async false
set_option linter.all false
set_option maxRecDepth 100000
set_option maxHeartbeats 2000000
namespace Lk
open PySem PySem.Spec PyProof.Rows L2 TxS LkO LkG
/-- the keys by name -/
def sortKeys (keys : List (Str × Str)) : List (Str × Str) := (srt (keys.map (·.1))).map fun n => (n, (keys.lookup n).getD ⟨#[]⟩)
theorem sortKeys_names (keys : List (Str × Str)) : (sortKeys keys).map (·.1) = srt (keys.map (·.1)) := by
  unfold sortKeys
  rw [List.map_map]
  exact List.map_id _
theorem sortKeys_look (keys : List (Str × Str)) (z : Str) : (sortKeys keys).lookup z = keys.lookup z := by
  have go : ∀ l : List Str, (∀ y ∈ l, ∃ a, keys.lookup y = some a) → (l.map fun n => (n, (keys.lookup n).getD ⟨#[]⟩)).lookup z = if z ∈ l then keys.lookup z else none := by
    intro l
    induction l with
    | nil => intro _; rfl
    | cons y r ih =>
      intro h
      rw [List.map_cons, List.lookup_cons]
      by_cases e : z = y
      · subst e
        obtain ⟨a, ha⟩ := h z List.mem_cons_self
        rw [beq_self_eq_true, ha]
        simp
      · rw [beq_eq_false_iff_ne.mpr e]
        show List.lookup z (r.map fun n => (n, (keys.lookup n).getD ⟨#[]⟩)) = _
        rw [ih fun u hu => h u (List.mem_cons_of_mem _ hu)]
        simp [e]
  unfold sortKeys
  rw [go _ fun y hy => look_name ((mem_srt _ _).1 hy)]
  by_cases e : z ∈ srt (keys.map (·.1))
  · rw [if_pos e]
  · rw [if_neg e, look_no fun h => e ((mem_srt _ _).2 h)]
theorem sortKeys_len {keys : List (Str × Str)} (nd : (keys.map (·.1)).Nodup) : (sortKeys keys).length = keys.length := by
  have := congrArg List.length (sortKeys_names keys)
  rw [List.length_map, (srt_full _).2 nd, List.length_map] at this
  exact this
def bldFs (r k dn dd pn pd : Addr) : List (Str × V) := [("kept_rooms", .ref r), ("kept_keys", .ref k), ("door_names", .ref dn), ("kept_doors", .ref dd), ("person_names", .ref pn), ("kept_people", .ref pd)]
abbrev bldF : List Str := ["kept_rooms", "kept_keys", "door_names", "kept_doors", "person_names", "kept_people"]
theorem look_bld (r k dn dd pn pd : Addr) : List.lookup ("kept_rooms" : Str) (bldFs r k dn dd pn pd) = some (V.ref r) ∧ List.lookup ("kept_keys" : Str) (bldFs r k dn dd pn pd) = some (V.ref k) ∧ List.lookup ("door_names" : Str) (bldFs r k dn dd pn pd) = some (V.ref dn) ∧
  List.lookup ("kept_doors" : Str) (bldFs r k dn dd pn pd) = some (V.ref dd) ∧ List.lookup ("person_names" : Str) (bldFs r k dn dd pn pd) = some (V.ref pn) ∧ List.lookup ("kept_people" : Str) (bldFs r k dn dd pn pd) = some (V.ref pd) := ⟨rfl, rfl, rfl, rfl, rfl, rfl⟩
structure BldIn (K : PySem.W.Frag) (CD CP CB : Addr) (H : Hp) (x : Addr) (b : BldD) (dx r k dn dd pn pd : Addr) (ok od op : Obj) (kvs ds ps : List (Key × V)) : Prop where
  ob : H x = some (.ins CB dx (bldFs r k dn dd pn pd))
  rooms : SqT K H r (b.rooms.map V.str)
  keys : H k = some (.frz ok (.dK kvs))
  keysT : Tab keyR kvs (sortKeys b.keys)
  dn : SqT K H dn ((b.doors.map (·.1)).map V.str)
  doors : H dd = some (.frz od (.dK ds))
  doorsT : Tab (doorR CD H) ds b.doors
  pn : SqT K H pn ((b.people.map (·.1)).map V.str)
  people : H pd = some (.frz op (.dK ps))
  peopleT : Tab (persR K CP H) ps b.people
structure BldAt (K : PySem.W.Frag) (CD CP CB : Addr) (H : Hp) (x : Addr) (b : BldD) : Prop where
  ob : ∃ dx r k dn dd pn pd ok od op kvs ds ps, BldIn K CD CP CB H x b dx r k dn dd pn pd ok od op kvs ds ps
  ok : b.ok
theorem BldIn.same {K : PySem.W.Frag} {CD CP CB : Addr} {H H' : Hp} {x : Addr} {b : BldD} {dx r k dn dd pn pd : Addr} {ok od op : Obj} {kvs ds ps : List (Key × V)} (h : BldIn K CD CP CB H x b dx r k dn dd pn pd ok od op kvs ds ps) (s : Same H H') : BldIn K CD CP CB H' x b dx r k dn dd pn pd ok od op kvs ds ps :=
  ⟨s _ _ h.ob, Same.tup s h.rooms, s _ _ h.keys, h.keysT, Same.tup s h.dn, s _ _ h.doors, h.doorsT.mono (doorR.same s), Same.tup s h.pn, s _ _ h.people, h.peopleT.mono (persR.same s)⟩
theorem BldAt.same {K : PySem.W.Frag} {CD CP CB : Addr} {H H' : Hp} {x : Addr} {b : BldD} (h : BldAt K CD CP CB H x b) (s : Same H H') : BldAt K CD CP CB H' x b := by
  obtain ⟨⟨dx, r, k, dn, dd, pn, pd, ok, od, op, kvs, ds, ps, i⟩, hok⟩ := h
  exact ⟨⟨dx, r, k, dn, dd, pn, pd, ok, od, op, kvs, ds, ps, i.same s⟩, hok⟩
/-- all but x stands -/
def But (x : Addr) (H H' : Hp) : Prop := ∀ b o, H b = some o → b ≠ x → H' b = some o
theorem But.of {x : Addr} {H H' : Hp} (s : Same H H') : But x H H' := fun b o e _ => s b o e
theorem But.trans {x : Addr} {H H1 H2 : Hp} (a : But x H H1) (b : But x H1 H2) : But x H H2 := fun c o e n => b c o (a c o e n) n
theorem But.put {x : Addr} {H : Hp} {o : HO} : But x H (upd H x o) := fun c u e n => by rw [upd_ne n]; exact e
theorem But.new {x p : Addr} {H : Hp} {o : HO} (h : H p = none) : But x H (upd H p o) := But.of (same_new h)
/-- an empty instance is none of these -/
theorem But.tup {K : PySem.W.Frag} {x a C dx : Addr} {fs : List (Str × V)} {H H' : Hp} {xs : List V} (s : But x H H') (hx : H x = some (.ins C dx fs)) (h : SqT K H a xs) : SqT K H' a xs := by
  rcases h with (h | ⟨o, h⟩) | h
  · exact .inl (.inl (s _ _ h (ne_of h hx (by intro z; cases z))))
  · exact .inl (.inr ⟨o, s _ _ h (ne_of h hx (by intro z; cases z))⟩)
  · exact .inr h
theorem But.frz {x a C dx : Addr} {fs : List (Str × V)} {H H' : Hp} {o : Obj} {u : HO} (s : But x H H') (hx : H x = some (.ins C dx fs)) (h : H a = some (.frz o u)) : H' a = some (.frz o u) := s _ _ h (ne_of h hx (by intro z; cases z))
theorem But.door {x C CB dx y : Addr} {H H' : Hp} {d : DoorD} (s : But x H H') (hx : H x = some (.ins CB dx [])) (h : DoorAt C H y d) : DoorAt C H' y d := by
  obtain ⟨⟨dy, e⟩, ok⟩ := h
  exact ⟨⟨dy, s _ _ e (ne_of e hx (by intro z; cases z))⟩, ok⟩
theorem But.pers {K : PySem.W.Frag} {x C CB dx y : Addr} {H H' : Hp} {d : PersonD} (s : But x H H') (hx : H x = some (.ins CB dx [])) (h : PersonAt K C H y d) : PersonAt K C H' y d := by
  obtain ⟨⟨dy, t1, t2, t3, e, h1, h2, h3⟩, ok⟩ := h
  exact ⟨⟨dy, t1, t2, t3, s _ _ e (ne_of e hx (by intro z; cases z)), s.tup hx h1, s.tup hx h2, s.tup hx h3⟩, ok⟩
section
variable {P : Program} {w : World} {K : PySem.W.Frag} {mg : Str → Option Value} {base : Heap} {CD CP CB : Addr}
def spBld (K : PySem.W.Frag) (CD CP CB : Addr) : Sp := fun vs H Q _ => ∃ (x dx r k a p : Addr) (b : BldD) (ok oa op : Obj) (kvs ds ps : List (Key × V)), vs = [.ref x, .ref r, .ref k, .ref a, .ref p] ∧ H x = some (.ins CB dx []) ∧ b.ok ∧ SqT K H r (b.rooms.map V.str) ∧ H k = some (.frz ok (.dK kvs)) ∧ Tab keyR kvs b.keys ∧
  H a = some (.frz oa (.dK ds)) ∧ Tab (doorR CD H) ds b.doors ∧ H p = some (.frz op (.dK ps)) ∧ Tab (persR K CP H) ps b.people ∧ ∀ H', But x H H' → BldAt K CD CP CB H' x b → Q .non H'
theorem scBld : FnScope ["self", "rooms", "keys", "doors", "people", "name"] ["self", "rooms", "keys", "doors", "people"] (defScope s_Building___init__) := ⟨rfl, rfl, rfl, by decide +kernel, rfl, by decide +kernel, by decide +kernel⟩
theorem ok_bld {f : Addr} {fd : FuncData} (F : Fun K "__init__" "Building.__init__" s_Building___init__ f fd) (B : Blt mg) (T : OwnC K mg CB "Building" bldF) (GR : Fn P w K mg base 3 "are_rooms" ["rooms"] (spRooms K)) (GK : Fn P w K mg base 3 "are_keys" ["keys", "rooms"] (spKeys K))
    (GD : Fn P w K mg base 4 "are_doors" ["doors", "rooms", "keys"] (spDoors K CD)) (GP : Fn P w K mg base 4 "are_people" ["people", "rooms", "keys"] (spPeople K CP)) : FnOk P w K mg base CX0 5 f fd ["self", "rooms", "keys", "doors", "people"] (spBld K CD CP CB) := by
  refine F.ok scBld (fun vs H Q E h => ?_) (fun cdv A outer s H vs Q E hr h => ?_)
  · obtain ⟨x, dx, r, k, a, p, b, ok, oa, op, kvs, ds, ps, rfl, _⟩ := h
    rfl
  · obtain ⟨x, dx, r, k, a, p, b, ok, oa, op, kvs, ds, ps, rfl, hx, bok, hr', hk, tk, ha, td, hp, tp, q⟩ := h
    have hr3 := hr.mono (show 3 ≤ 4 by decide)
    refine ⟨_, pss_cons (ps_if (pt_not (pt_val (pe_fn GR hr3 (by rfl) (pa_cons (pv 1) pa_nil)))) (pss_one ps_never) pss_nil)
      (pss_cons (ps_if (pt_not (pt_val (pe_fn GK hr3 (by rfl) (pa_cons (pv 2) (pa_cons (pv 1) pa_nil))))) (pss_one ps_never) pss_nil)
      (pss_cons (ps_if (pt_not (pt_val (pe_fn GD hr (by rfl) (pa_cons (pv 3) (pa_cons (pv 1) (pa_cons (pv 2) pa_nil)))))) (pss_one ps_never) pss_nil)
      (pss_cons (ps_if (pt_not (pt_val (pe_fn GP hr (by rfl) (pa_cons (pv 4) (pa_cons (pv 1) (pa_cons (pv 2) pa_nil)))))) (pss_one ps_never) pss_nil)
      (pss_cons (ps_fld (pv 0) (pv 1) rfl)
      (pss_cons (ps_fld (pv 0) (pe_frz (pe_dc (own := [("name", 5)]) (g := gName 5) (tt := tYes) (tk := tVar 5) (tv := tDGet (tVar 2) (tVar 5)) rfl scBld.nd (pi_list (pe_callB (call_sortedD rfl) (by rfl) B.srt PyProof.Rows.boot_sorted (pa_cons (pv 2) pa_nil))) (blkOk_by (N := ["self", "rooms", "keys", "doors", "people", "name"]) (sc := defScope s_Building___init__) (by decide +kernel))
        (fun _ _ _ _ _ => pg_name (i := 5) scBld.nd rfl (Or.inl rfl)) (fun _ _ _ _ _ => pts_nil) (fun _ _ _ _ _ => pv 5) (fun _ _ _ _ _ => pe_dget (hu_of hr) (pv 2) (pv 5) (fun _ _ => rfl)))) rfl)
      (pss_cons (ps_fld (pv 0) (pe_callTy (cr_tupleD rfl) (by rfl) B.tup PyProof.Rows.boot_tuple (pa_cons (pv 3) pa_nil)) rfl)
      (pss_cons (ps_fld (pv 0) (pe_frz (pe_callTy call_dictD (by rfl) B.dct PyProof.Rows.boot_dict (pa_cons (pv 3) pa_nil))) rfl)
      (pss_cons (ps_fld (pv 0) (pe_callTy (cr_tupleD rfl) (by rfl) B.tup PyProof.Rows.boot_tuple (pa_cons (pv 4) pa_nil)) rfl)
      (pss_one (ps_fld (pv 0) (pe_frz (pe_callTy call_dictD (by rfl) B.dct PyProof.Rows.boot_dict (pa_cons (pv 4) pa_nil))) rfl)))))))))), ?_⟩
    have nmz : ∀ z ∈ b.rooms, isNm z = true := are_nm bok.rooms
    refine ⟨.ref r, rfl, r, b.rooms, rfl, hr', bok.rooms, bok.r2, bok.r6, fun H1 s1 => ⟨true, rfl, iteF ?_⟩⟩
    refine ⟨.ref k, rfl, .ref r, rfl, k, r, ok, kvs, b.keys, b.rooms, rfl, s1 _ _ hk, tk, Same.tup s1 hr', bok.knd, bok.k3, nmz, bok.keys, fun H2 s2 => ⟨true, rfl, iteF ?_⟩⟩
    have s12 := s1.trans s2
    refine ⟨.ref a, rfl, .ref r, rfl, .ref k, rfl, a, r, k, oa, ok, ds, kvs, b.doors, b.keys, b.rooms, rfl, s12 _ _ ha, td.mono (doorR.same s12), Same.tup s12 hr', s12 _ _ hk, tk, bok.dnd, bok.d1, bok.d8, fun u hu => ?_, fun H3 s3 => ⟨true, rfl, iteF ?_⟩⟩
    · obtain ⟨z1, z2, z3, z4, z5⟩ := bok.doors u hu
      exact ⟨z1, z3, z4, z5⟩
    have s13 := s12.trans s3
    refine ⟨.ref p, rfl, .ref r, rfl, .ref k, rfl, p, r, k, op, ok, ps, kvs, b.people, b.keys, b.rooms, rfl, s13 _ _ hp, tp.mono (persR.same s13), Same.tup s13 hr', s13 _ _ hk, tk, bok.pnd, bok.p1, bok.p4, fun u hu => ?_, fun H4 s4 => ⟨true, rfl, iteF ?_⟩⟩
    · obtain ⟨z1, z2, z3, z4, z5, z6⟩ := bok.people u hu
      exact ⟨z1, z3, z4, z5, z6⟩
    have s14 := s13.trans s4
    have nK := T.nK
    have b0 : But x H H4 := But.of s14
    refine ⟨.ref r, rfl, .ref x, rfl, x, CB, dx, [], rfl, s14 _ _ hx, T.cl, nK _ (by simp), by show 0 < 1000; decide, ?_⟩
    generalize e5 : upd H4 x (.ins CB dx (putF "kept_rooms" (.ref r) [])) = H5
    have hx5 : H5 x = some (.ins CB dx [("kept_rooms", .ref r)]) := by rw [← e5]; exact upd_same
    have b5 : But x H H5 := by rw [← e5]; exact b0.trans But.put
    -- the keys
    refine ⟨.ref k, rfl, k, kvs, b.keys.map (·.1), rfl, .inr ⟨ok, b5.frz hx hk⟩, tk.keys, by rw [List.length_map]; have := bok.k3; omega, fun ys l pm so nl => ?_⟩
    have ey : ys = srt (b.keys.map (·.1)) := srt_of (asc_of so (pm.nodup_iff.mpr bok.knd)) fun z => pm.mem_iff
    subst ey
    generalize e6 : upd H5 l (.lst ((srt (b.keys.map (·.1))).map V.str)) = H6
    have s56 : Same H5 H6 := by rw [← e6]; exact same_new nl
    have hl6 : H6 l = some (.lst ((srt (b.keys.map (·.1))).map V.str)) := by rw [← e6]; exact upd_same
    have b6 : But x H H6 := b5.trans (But.of s56)
    have hk6 : H6 k = some (.frz ok (.dK kvs)) := b6.frz hx hk
    refine ⟨l, rfl, ⟨_, .inl (.inl hl6)⟩, fun D nD => dc_m (walk_list (xs := (srt (b.keys.map (·.1))).map V.str)) (sortKeys b.keys) (fun q => .inr q.1) (fun q => .str q.2) (by unfold sortKeys; rw [List.length_map, List.length_map]) ?_ nD ?_ (fun H' s => .inl (.inl (s _ _ hl6))) (fun i u v H7 H8 Kt hz s7 hY kk => ?_) (fun H7 s7 eD => ?_)⟩
    · have e : (sortKeys b.keys).map (fun q => (Sum.inr q.1 : Key)) = ((sortKeys b.keys).map (·.1)).map Sum.inr := by rw [List.map_map]; rfl
      rw [e, sortKeys_names]
      exact List.Pairwise.map Sum.inr (fun _ _ h e => h (Sum.inr.inj e)) (nodup_asc (asc_srt (b.keys.map (·.1))))
    · rw [sortKeys_len bok.knd]
      have := bok.k3
      omega
    · obtain ⟨rfl, hx⟩ := hY
      have en : ((sortKeys b.keys).map (·.1))[i]? = some u.1 := by rw [List.getElem?_map, hz]; rfl
      rw [sortKeys_names] at en
      rw [List.getElem?_map, en] at hx
      cases hx
      have hm : u.1 ∈ srt (b.keys.map (·.1)) := List.mem_of_getElem? en
      obtain ⟨w0, hw⟩ := look_name ((mem_srt _ _).1 hm)
      have e2 : u.2 = w0 := by
        have l2 := look_at (l := sortKeys b.keys) (p := u) (by rw [sortKeys_names]; exact nodup_asc (asc_srt _)) (List.mem_of_getElem? hz)
        rw [sortKeys_look, hw] at l2
        exact (Option.some.inj l2).symm
      obtain ⟨v, hv, hr3⟩ := tk.val hw
      have ev : v = .str w0 := hr3
      subst ev
      refine ⟨rfl, .str u.1, rfl, .ref k, rfl, .str u.1, rfl, k, .str w0, rfl, .inl ⟨kvs, .inr u.1, .inr ⟨ok, s7 _ _ hk6⟩, rfl, hv.symm⟩, ?_⟩
      rw [← e2]
      exact kk _ (Same.refl _)
    · refine ⟨D, _, rfl, eD, trivial, fun ok2 => ?_⟩
      have nHD : H D = none := by
        cases z : H D with
        | none => rfl
        | some o =>
          by_cases ex : D = x
          · subst ex
            rw [s56 _ _ hx5] at nD
            cases nD
          · have := b6 D o z ex
            rw [nD] at this
            cases this
      generalize e8 : upd H7 D (.frz ok2 (.dK ((sortKeys b.keys).map fun q => (Sum.inr q.1, V.str q.2)))) = H8
      have b7 : But x H H7 := b6.trans (But.of s7)
      have b8 : But x H H8 := by
        rw [← e8]
        intro c o hc nc
        rw [upd_ne (ne_of_none hc nHD)]
        exact b7 c o hc nc
      have nxD : x ≠ D := fun z => by
        rw [← z, s56 _ _ hx5] at nD
        cases nD
      have hx8 : H8 x = some (.ins CB dx [("kept_rooms", .ref r)]) := by
        rw [← e8, upd_ne nxD]
        exact s7 _ _ (s56 _ _ hx5)
      have hD8 : H8 D = some (.frz ok2 (.dK ((sortKeys b.keys).map fun q => (Sum.inr q.1, V.str q.2)))) := by rw [← e8]; exact upd_same
      refine ⟨.ref x, rfl, x, CB, dx, _, rfl, hx8, T.cl, nK _ (by simp), by show 1 < 1000; decide, ?_⟩
      generalize e9 : upd H8 x (.ins CB dx (putF "kept_keys" (.ref D) [("kept_rooms", .ref r)])) = H9
      have hx9 : H9 x = some (.ins CB dx [("kept_rooms", .ref r), ("kept_keys", .ref D)]) := by rw [← e9]; exact upd_same
      have hD9 : H9 D = some (.frz ok2 (.dK ((sortKeys b.keys).map fun q => (Sum.inr q.1, V.str q.2)))) := by rw [← e9, upd_ne nxD.symm]; exact hD8
      have b9 : But x H H9 := by rw [← e9]; exact b8.trans But.put
      -- the doors
      refine ⟨.ref a, rfl, a, ds, rfl, .inr ⟨oa, b9.frz hx ha⟩, fun dn ndn => ?_⟩
      rw [td.kV]
      have n1 : x ≠ dn := ne_of_none hx9 ndn
      refine ⟨.ref x, rfl, x, CB, dx, _, rfl, (by rw [upd_ne n1]; exact hx9), T.cl, nK _ (by simp), by show 2 < 1000; decide, ?_⟩
      generalize e10 : upd (upd H9 dn (.tup ((b.doors.map (·.1)).map V.str))) x (.ins CB dx (putF "door_names" (.ref dn) [("kept_rooms", .ref r), ("kept_keys", .ref D)])) = H10
      have hx10 : H10 x = some (.ins CB dx [("kept_rooms", .ref r), ("kept_keys", .ref D), ("door_names", .ref dn)]) := by rw [← e10]; exact upd_same
      have c10 : But x H9 H10 := by rw [← e10]; exact (But.new ndn).trans But.put
      have hdn10 : H10 dn = some (.tup ((b.doors.map (·.1)).map V.str)) := by rw [← e10, upd_ne n1.symm]; exact upd_same
      have b10 := b9.trans c10
      refine ⟨.ref a, rfl, a, ds, rfl, .inr ⟨oa, b10.frz hx ha⟩, fun dd ndd => ⟨dd, _, rfl, upd_same, trivial, fun od2 => ?_⟩⟩
      rw [upd_upd]
      have n2 : x ≠ dd := ne_of_none hx10 ndd
      refine ⟨.ref x, rfl, x, CB, dx, _, rfl, (by rw [upd_ne n2]; exact hx10), T.cl, nK _ (by simp), by show 3 < 1000; decide, ?_⟩
      generalize e11 : upd (upd H10 dd (.frz od2 (.dK ds))) x (.ins CB dx (putF "kept_doors" (.ref dd) [("kept_rooms", .ref r), ("kept_keys", .ref D), ("door_names", .ref dn)])) = H11
      have hx11 : H11 x = some (.ins CB dx [("kept_rooms", .ref r), ("kept_keys", .ref D), ("door_names", .ref dn), ("kept_doors", .ref dd)]) := by rw [← e11]; exact upd_same
      have c11 : But x H10 H11 := by rw [← e11]; exact (But.new ndd).trans But.put
      have hdd11 : H11 dd = some (.frz od2 (.dK ds)) := by rw [← e11, upd_ne n2.symm]; exact upd_same
      have b11 := b10.trans c11
      -- the people
      refine ⟨.ref p, rfl, p, ps, rfl, .inr ⟨op, b11.frz hx hp⟩, fun pn npn => ?_⟩
      rw [tp.kV]
      have n3 : x ≠ pn := ne_of_none hx11 npn
      refine ⟨.ref x, rfl, x, CB, dx, _, rfl, (by rw [upd_ne n3]; exact hx11), T.cl, nK _ (by simp), by show 4 < 1000; decide, ?_⟩
      generalize e12 : upd (upd H11 pn (.tup ((b.people.map (·.1)).map V.str))) x (.ins CB dx (putF "person_names" (.ref pn) [("kept_rooms", .ref r), ("kept_keys", .ref D), ("door_names", .ref dn), ("kept_doors", .ref dd)])) = H12
      have hx12 : H12 x = some (.ins CB dx [("kept_rooms", .ref r), ("kept_keys", .ref D), ("door_names", .ref dn), ("kept_doors", .ref dd), ("person_names", .ref pn)]) := by rw [← e12]; exact upd_same
      have c12 : But x H11 H12 := by rw [← e12]; exact (But.new npn).trans But.put
      have hpn12 : H12 pn = some (.tup ((b.people.map (·.1)).map V.str)) := by rw [← e12, upd_ne n3.symm]; exact upd_same
      have b12 := b11.trans c12
      refine ⟨.ref p, rfl, p, ps, rfl, .inr ⟨op, b12.frz hx hp⟩, fun pd npd => ⟨pd, _, rfl, upd_same, trivial, fun op2 => ?_⟩⟩
      rw [upd_upd]
      have n4 : x ≠ pd := ne_of_none hx12 npd
      refine ⟨.ref x, rfl, x, CB, dx, _, rfl, (by rw [upd_ne n4]; exact hx12), T.cl, nK _ (by simp), by show 5 < 1000; decide, ?_⟩
      generalize e13 : upd (upd H12 pd (.frz op2 (.dK ps))) x (.ins CB dx (putF "kept_people" (.ref pd) [("kept_rooms", .ref r), ("kept_keys", .ref D), ("door_names", .ref dn), ("kept_doors", .ref dd), ("person_names", .ref pn)])) = H13
      have hx13 : H13 x = some (.ins CB dx (bldFs r D dn dd pn pd)) := by rw [← e13]; exact upd_same
      have c13 : But x H12 H13 := by rw [← e13]; exact (But.new npd).trans But.put
      have hpd13 : H13 pd = some (.frz op2 (.dK ps)) := by rw [← e13, upd_ne n4.symm]; exact upd_same
      have b13 := b12.trans c13
      refine q H13 b13 ⟨⟨dx, r, D, dn, dd, pn, pd, ok2, od2, op2, (sortKeys b.keys).map fun q => (Sum.inr q.1, V.str q.2), ds, ps, hx13, b13.tup hx hr', ?_, ?_, ?_, ?_, ?_, ?_, hpd13, ?_⟩, bok⟩
      · exact c13 _ _ (c12 _ _ (c11 _ _ (c10 _ _ hD9 nxD.symm) nxD.symm) nxD.symm) nxD.symm
      · have go : ∀ l : List (Str × Str), Tab keyR (l.map fun q => ((Sum.inr q.1 : Key), V.str q.2)) l := fun l => by
          induction l with
          | nil => exact .nil
          | cons q r ih => exact .cons ⟨rfl, rfl⟩ ih
        exact go _
      · exact .inl (.inl (c13 _ _ (c12 _ _ (c11 _ _ hdn10 n1.symm) n1.symm) n1.symm))
      · exact c13 _ _ (c12 _ _ hdd11 n2.symm) n2.symm
      · exact td.mono fun v d ⟨y, ev, hy⟩ => ⟨y, ev, b13.door hx hy⟩
      · exact .inl (.inl (c13 _ _ hpn12 n3.symm))
      · exact tp.mono fun v d ⟨y, ev, hy⟩ => ⟨y, ev, b13.pers hx hy⟩
end
end Lk
set_option Elab.async false
set_option linter.all false
set_option maxRecDepth 100000
set_option maxHeartbeats 2000000
namespace Lk
open PySem PySem.Spec PyProof.Rows L2 TxS LkO LkG
theorem nm_of {b : BldD} (ok : b.ok) {n : Str} {d : DoorD} (h : b.doors.lookup n = some d) : isNm n = true := (ok.doors _ (look_mem h)).1
section
variable {P : Program} {w : World} {K : PySem.W.Frag} {mg : Str → Option Value} {base : Heap} {CD CP CB CL : Addr}
/-! ### properties -/
def spKeyRooms (K : PySem.W.Frag) (CD CP CB : Addr) : Sp := fun vs H Q _ => ∃ (x : Addr) (b : BldD), vs = [.ref x] ∧ BldAt K CD CP CB H x b ∧ ∀ p kvs, Tab keyR kvs (sortKeys b.keys) → H p = none → Q (.ref p) (upd H p (.dK kvs))
theorem scKR : FnScope ["self"] ["self"] (defScope s_Building_key_rooms) := ⟨rfl, rfl, rfl, by decide +kernel, rfl, by decide +kernel, by decide +kernel⟩
theorem ok_keyRooms {f : Addr} {fd : FuncData} {k : Nat} (F : Fun K "key_rooms" "Building.key_rooms" s_Building_key_rooms f fd) (B : Blt mg) (T : OwnC K mg CB "Building" bldF) : FnOk P w K mg base CX0 (k + 1) f fd ["self"] (spKeyRooms K CD CP CB) := by
  refine F.ok scKR (fun vs H Q E h => ?_) (fun cdv A outer s H vs Q E hr h => ?_)
  · obtain ⟨x, b, rfl, _⟩ := h
    rfl
  · obtain ⟨x, b, rfl, ⟨⟨dx, r, k, dn, dd, pn, pd, ok, od, op, kvs, ds, ps, I⟩, bok⟩, q⟩ := h
    refine ⟨_, pss_one (ps_ret (pe_callTy call_dictD (by rfl) B.dct PyProof.Rows.boot_dict (pa_cons (pe_fld (pv 0) rfl) pa_nil))), ?_⟩
    exact ⟨.ref x, rfl, x, CB, dx, _, _, rfl, I.ob, T.cl, T.nK _ (by simp), (look_bld r k dn dd pn pd).2.1, k, kvs, rfl, .inr ⟨ok, I.keys⟩, fun p np => q p kvs I.keysT np⟩
def spBDoors (K : PySem.W.Frag) (CD CP CB : Addr) : Sp := fun vs H Q _ => ∃ (x : Addr) (b : BldD), vs = [.ref x] ∧ BldAt K CD CP CB H x b ∧ ∀ p, H p = none → Q (.ref p) (upd H p (.lst ((b.doors.map (·.1)).map V.str)))
theorem scBD : FnScope ["self"] ["self"] (defScope s_Building_doors) := ⟨rfl, rfl, rfl, by decide +kernel, rfl, by decide +kernel, by decide +kernel⟩
theorem ok_bDoors {f : Addr} {fd : FuncData} {k : Nat} (F : Fun K "doors" "Building.doors" s_Building_doors f fd) (B : Blt mg) (T : OwnC K mg CB "Building" bldF) : FnOk P w K mg base CX0 (k + 1) f fd ["self"] (spBDoors K CD CP CB) := by
  refine F.ok scBD (fun vs H Q E h => ?_) (fun cdv A outer s H vs Q E hr h => ?_)
  · obtain ⟨x, b, rfl, _⟩ := h
    rfl
  · obtain ⟨x, b, rfl, ⟨⟨dx, r, k, dn, dd, pn, pd, ok, od, op, kvs, ds, ps, I⟩, bok⟩, q⟩ := h
    refine ⟨_, pss_one (ps_ret (pe_callTy call_list_of (by rfl) B.lst PyProof.Rows.boot_list (pa_cons (pe_fld (pv 0) rfl) pa_nil))), ?_⟩
    exact ⟨.ref x, rfl, x, CB, dx, _, _, rfl, I.ob, T.cl, T.nK _ (by simp), (look_bld r k dn dd pn pd).2.2.1, dn, _, rfl, .inr I.dn, q⟩
def spBPeople (K : PySem.W.Frag) (CD CP CB : Addr) : Sp := fun vs H Q _ => ∃ (x : Addr) (b : BldD), vs = [.ref x] ∧ BldAt K CD CP CB H x b ∧ ∀ p, H p = none → Q (.ref p) (upd H p (.lst ((b.people.map (·.1)).map V.str)))
theorem scBP : FnScope ["self"] ["self"] (defScope s_Building_people) := ⟨rfl, rfl, rfl, by decide +kernel, rfl, by decide +kernel, by decide +kernel⟩
theorem ok_bPeople {f : Addr} {fd : FuncData} {k : Nat} (F : Fun K "people" "Building.people" s_Building_people f fd) (B : Blt mg) (T : OwnC K mg CB "Building" bldF) : FnOk P w K mg base CX0 (k + 1) f fd ["self"] (spBPeople K CD CP CB) := by
  refine F.ok scBP (fun vs H Q E h => ?_) (fun cdv A outer s H vs Q E hr h => ?_)
  · obtain ⟨x, b, rfl, _⟩ := h
    rfl
  · obtain ⟨x, b, rfl, ⟨⟨dx, r, k, dn, dd, pn, pd, ok, od, op, kvs, ds, ps, I⟩, bok⟩, q⟩ := h
    refine ⟨_, pss_one (ps_ret (pe_callTy call_list_of (by rfl) B.lst PyProof.Rows.boot_list (pa_cons (pe_fld (pv 0) rfl) pa_nil))), ?_⟩
    exact ⟨.ref x, rfl, x, CB, dx, _, _, rfl, I.ob, T.cl, T.nK _ (by simp), (look_bld r k dn dd pn pd).2.2.2.2.1, pn, _, rfl, .inr I.pn, q⟩
/-! ### door, person -/
def spDoorOf (K : PySem.W.Frag) (CD CP CB : Addr) : Sp := fun vs H Q _ => ∃ (x : Addr) (b : BldD) (n : Str) (d : DoorD), vs = [.ref x, .str n] ∧ BldAt K CD CP CB H x b ∧ b.doors.lookup n = some d ∧ ∀ H' y, Same H H' → DoorAt CD H' y d → Q (.ref y) H'
theorem scDoorOf : FnScope ["self", "name"] ["self", "name"] (defScope s_Building_door) := ⟨rfl, rfl, rfl, by decide +kernel, rfl, by decide +kernel, by decide +kernel⟩
theorem ok_doorOf {f : Addr} {fd : FuncData} (F : Fun K "door" "Building.door" s_Building_door f fd) (T : OwnC K mg CB "Building" bldF) (GN : Fn P w K mg base 1 "is_name" ["value"] spName) : FnOk P w K mg base CX0 2 f fd ["self", "name"] (spDoorOf K CD CP CB) := by
  refine F.ok scDoorOf (fun vs H Q E h => ?_) (fun cdv A outer s H vs Q E hr h => ?_)
  · obtain ⟨x, b, n, d, rfl, _⟩ := h
    rfl
  · obtain ⟨x, b, n, d, rfl, ⟨⟨dx, r, k, dn, dd, pn, pd, ok, od, op, kvs, ds, ps, I⟩, bok⟩, hn, q⟩ := h
    refine ⟨_, pss_cons (ps_if (pw_or (pt_not (pt_val (pe_fn GN hr (by rfl) (pa_cons (pv 1) pa_nil)))) (pw_or1 (pt_cmp (pc_dnotin (hu_of hr) (pv 1) (pe_fld (pv 0) rfl)) rfl))).pt (pss_one ps_never) pss_nil) (pss_one (ps_ret (pe_dget (hu_of hr) (pe_fld (pv 0) rfl) (pv 1) (fun _ _ => rfl)))), ?_⟩
    have nm := nm_of bok hn
    obtain ⟨v, hv, ⟨y, rfl, hy⟩⟩ := I.doorsT.val hn
    have l4 := (look_bld r k dn dd pn pd).2.2.2.1
    refine ⟨.str n, rfl, n, rfl, nm_line nm, fun H1 s1 => ⟨true, by rw [nm], iteF ?_⟩⟩
    refine ⟨.str n, rfl, .ref x, rfl, x, CB, dx, _, _, rfl, s1 _ _ I.ob, T.cl, T.nK _ (by simp), l4, dd, _, rfl, .inl ⟨ds, .inr n, .inr ⟨od, s1 _ _ I.doors⟩, rfl, rfl⟩, false, by rw [hv]; rfl, iteF ?_⟩
    exact ⟨.ref x, rfl, x, CB, dx, _, _, rfl, s1 _ _ I.ob, T.cl, T.nK _ (by simp), l4, .str n, rfl, dd, .ref y, rfl, .inl ⟨ds, .inr n, .inr ⟨od, s1 _ _ I.doors⟩, rfl, hv.symm⟩, q H1 y s1 (hy.same s1)⟩
def spPersOf (K : PySem.W.Frag) (CD CP CB : Addr) : Sp := fun vs H Q _ => ∃ (x : Addr) (b : BldD) (n : Str) (d : PersonD), vs = [.ref x, .str n] ∧ BldAt K CD CP CB H x b ∧ b.people.lookup n = some d ∧ ∀ H' y, Same H H' → PersonAt K CP H' y d → Q (.ref y) H'
theorem scPersOf : FnScope ["self", "name"] ["self", "name"] (defScope s_Building_person) := ⟨rfl, rfl, rfl, by decide +kernel, rfl, by decide +kernel, by decide +kernel⟩
theorem ok_persOf {f : Addr} {fd : FuncData} (F : Fun K "person" "Building.person" s_Building_person f fd) (T : OwnC K mg CB "Building" bldF) (GN : Fn P w K mg base 1 "is_name" ["value"] spName) : FnOk P w K mg base CX0 2 f fd ["self", "name"] (spPersOf K CD CP CB) := by
  refine F.ok scPersOf (fun vs H Q E h => ?_) (fun cdv A outer s H vs Q E hr h => ?_)
  · obtain ⟨x, b, n, d, rfl, _⟩ := h
    rfl
  · obtain ⟨x, b, n, d, rfl, ⟨⟨dx, r, k, dn, dd, pn, pd, ok, od, op, kvs, ds, ps, I⟩, bok⟩, hn, q⟩ := h
    refine ⟨_, pss_cons (ps_if (pw_or (pt_not (pt_val (pe_fn GN hr (by rfl) (pa_cons (pv 1) pa_nil)))) (pw_or1 (pt_cmp (pc_dnotin (hu_of hr) (pv 1) (pe_fld (pv 0) rfl)) rfl))).pt (pss_one ps_never) pss_nil) (pss_one (ps_ret (pe_dget (hu_of hr) (pe_fld (pv 0) rfl) (pv 1) (fun _ _ => rfl)))), ?_⟩
    have nm : isNm n = true := (bok.people _ (look_mem hn)).1
    obtain ⟨v, hv, ⟨y, rfl, hy⟩⟩ := I.peopleT.val hn
    have l4 := (look_bld r k dn dd pn pd).2.2.2.2.2
    refine ⟨.str n, rfl, n, rfl, nm_line nm, fun H1 s1 => ⟨true, by rw [nm], iteF ?_⟩⟩
    refine ⟨.str n, rfl, .ref x, rfl, x, CB, dx, _, _, rfl, s1 _ _ I.ob, T.cl, T.nK _ (by simp), l4, pd, _, rfl, .inl ⟨ps, .inr n, .inr ⟨op, s1 _ _ I.people⟩, rfl, rfl⟩, false, by rw [hv]; rfl, iteF ?_⟩
    exact ⟨.ref x, rfl, x, CB, dx, _, _, rfl, s1 _ _ I.ob, T.cl, T.nK _ (by simp), l4, .str n, rfl, pd, .ref y, rfl, .inl ⟨ps, .inr n, .inr ⟨op, s1 _ _ I.people⟩, rfl, hv.symm⟩, q H1 y s1 (hy.same s1)⟩
/-! ### check_locks -/
def spChk (K : PySem.W.Frag) (CD CP CB CL : Addr) : Sp := fun vs H Q _ => ∃ (x y : Addr) (b : BldD) (ls : List Str), vs = [.ref x, .ref y] ∧ BldAt K CD CP CB H x b ∧ LkAt CL H y ls ∧ ls.length ≤ 1000 ∧ (∀ z ∈ ls, z ∈ b.doors.map (·.1)) ∧ ∀ H', Same H H' → Q .non H'
theorem scChk : FnScope ["building", "locks"] ["building", "locks"] (defScope s_check_locks) := ⟨rfl, rfl, rfl, by decide +kernel, rfl, by decide +kernel, by decide +kernel⟩
theorem ok_chk {f : Addr} {fd : FuncData} (F : Fun K "check_locks" "check_locks" s_check_locks f fd) (B : Blt mg) (TL : LkC K mg CL) (T : OwnC K mg CB "Building" bldF) (GL : Fn P w K mg base 1 "all_in" ["names", "known"] (spAllInL K)) (PN : Pr P w K mg base 1 CL "names" (spNames CL)) (PD : Pr P w K mg base 1 CB "doors" (spBDoors K CD CP CB)) :
    FnOk P w K mg base CX0 3 f fd ["building", "locks"] (spChk K CD CP CB CL) := by
  refine F.ok scChk (fun vs H Q E h => ?_) (fun cdv A outer s H vs Q E hr h => ?_)
  · obtain ⟨x, y, b, ls, rfl, _⟩ := h
    rfl
  · obtain ⟨x, y, b, ls, rfl, hb, hl, few, sub, q⟩ := h
    obtain ⟨⟨dx, r, k, dn, dd, pn, pd, ok, od, op, kvs, ds, ps, I⟩, bok⟩ := id hb
    obtain ⟨⟨dy, t, h1, h2⟩, asc, nm⟩ := id hl
    refine ⟨_, pss_cons (ps_if (pt_not (pt_val (pe_callB call_isi (by rfl) B.isi PyProof.Rows.boot_isinstance (pa_cons (pv 1) (pa_cons (pe_glob (v := .ref CL) (by rfl) TL.mgC rfl) pa_nil))))) (pss_one ps_never) pss_nil)
      (pss_one (ps_if (pt_not (pt_val (pe_fn GL (hr.mono (by decide)) (by rfl) (pa_cons (pe_pr PN hr TL.cl (pv 1) rfl) (pa_cons (pe_pr PD hr T.cl (pv 0) rfl) pa_nil))))) (pss_one ps_never) pss_nil)), ?_⟩
    refine ⟨.ref y, rfl, .ref y, .ref CL, _, _, true, rfl, .own CL, .base (.ins h1 TL.cl TL.tyc TL.tyg TL.tyt TL.tym), TL.kit, true, rfl, iteF ?_⟩
    refine ⟨.ref y, rfl, y, dy, _, rfl, h1, y, ls, rfl, hl, fun l nl => ?_⟩
    have s1 := same_new (o := .lst (ls.map V.str)) nl
    refine ⟨.ref x, rfl, x, dx, _, rfl, s1 _ _ I.ob, x, b, rfl, hb.same s1, fun m nm' => ?_⟩
    have s2 := same_new (o := .lst ((b.doors.map (·.1)).map V.str)) nm'
    refine ⟨l, m, ls, b.doors.map (·.1), rfl, few, .inl (.inl (s2 _ _ upd_same)), .inl (.inl (.inl upd_same)), fun H3 s3 => ⟨true, by rw [all_in_yes sub], iteF ?_⟩⟩
    exact q _ (s1.trans (s2.trans s3))
/-! ### keys_held -/
def heldOf (b : BldD) (p : PersonD) (rooms : List Str) : List Str := p.carried ++ ((sortKeys b.keys).filter fun q => decide (q.2 ∈ rooms)).map (·.1)
def spHeld (K : PySem.W.Frag) (CD CP CB : Addr) : Sp := fun vs H Q _ => ∃ (x y l : Addr) (b : BldD) (p : PersonD) (rooms : List Str), vs = [.ref x, .ref y, .ref l] ∧ BldAt K CD CP CB H x b ∧ PersonAt K CP H y p ∧ SqL K H l (rooms.map V.str) ∧ ∀ H' m, Same H H' → H' m = some (.lst ((heldOf b p rooms).map V.str)) → Q (.ref m) H'
theorem scHeld : FnScope ["building", "person", "rooms", "places", "key"] ["building", "person", "rooms"] (defScope s_keys_held) := ⟨rfl, rfl, rfl, by decide +kernel, rfl, by decide +kernel, by decide +kernel⟩
theorem ok_held {f : Addr} {fd : FuncData} (F : Fun K "keys_held" "keys_held" s_keys_held f fd) (B : Blt mg) (T : OwnC K mg CB "Building" bldF) (TP : PersT P w K mg base CP) (PK : Pr P w K mg base 1 CB "key_rooms" (spKeyRooms K CD CP CB)) : FnOk P w K mg base CX0 3 f fd ["building", "person", "rooms"] (spHeld K CD CP CB) := by
  refine F.ok scHeld (fun vs H Q E h => ?_) (fun cdv A outer s H vs Q E hr h => ?_)
  · obtain ⟨x, y, l, b, p, rooms, rfl, _⟩ := h
    rfl
  · obtain ⟨x, y, l, b, p, rooms, rfl, hb, hp, hl, q⟩ := h
    obtain ⟨⟨dx, r, k, dn, dd, pn, pd, ok, od, op, kvs, ds, ps, I⟩, bok⟩ := id hb
    obtain ⟨⟨dy, t1, t2, t3, h0, h1, h2, h3⟩, pok⟩ := id hp
    refine ⟨_, pss_cons (ps_set (i := 3) scHeld.nd rfl (.inr rfl) (pe_frz (pe_pr PK hr T.cl (pv 0) rfl)))
      (pss_one (ps_ret (pe_op op_cat (pe_callTy call_list_of (by rfl) B.lst PyProof.Rows.boot_list (pa_cons (pe_pr TP.carried hr TP.c.cl (pv 1) rfl) pa_nil))
        (pe_lc (own := [("key", 4)]) (g := gName 4) (tt := tTest (tOp (rIn K false) (tDGet (tVar 3) (tVar 4)) (tVar 2))) (te := tVar 4) rfl scHeld.nd (pi_keys (pv 3)) (blkOk_by (N := ["building", "person", "rooms", "places", "key"]) (sc := defScope s_keys_held) (by decide +kernel))
          (fun _ _ _ _ _ => pg_name (i := 4) scHeld.nd rfl (Or.inl rfl)) (fun _ _ _ _ _ => pts_one (pt_cmpR op_in_seq (pe_dget (hu_of hr) (pv 3) (pv 4) (fun _ _ => rfl)) (pv 2) rfl)) (fun _ _ _ _ _ => pv 4))))), ?_⟩
    refine ⟨.ref x, rfl, x, dx, _, rfl, I.ob, x, b, rfl, hb, fun pl kv2 tab np => ⟨pl, _, rfl, upd_same, trivial, fun od2 => ?_⟩⟩
    rw [upd_upd]
    have s1 := same_new (o := .frz od2 (.dK kv2)) np
    generalize e1 : upd H pl (.frz od2 (.dK kv2)) = H1 at s1
    have hpl : H1 pl = some (.frz od2 (.dK kv2)) := by rw [← e1]; exact upd_same
    refine ⟨.ref y, rfl, y, dy, _, rfl, s1 _ _ h0, y, dy, _, _, rfl, s1 _ _ h0, (look_person p.a t1 t2 t3).2.1, t1, _, rfl, .inr (Same.tup s1 h1), fun c nc => ?_⟩
    have s2 := same_new (o := .lst (p.carried.map V.str)) nc
    have s12 := s1.trans s2
    refine ⟨.ref pl, rfl, pl, od2, rfl, .inl ⟨kv2, s2 _ _ hpl, fun D nD => lc_mf (walk_keys (kvs := kv2)) (sortKeys b.keys) (fun q => decide (q.2 ∈ rooms)) (fun q => .str q.1) tab.len nD ?_ (fun H' s => s _ _ (s2 _ _ hpl)) (fun i u v H7 H8 Kt Kf hz s7 hY kt kf => ?_) (fun H7 s7 eD => ?_)⟩⟩
    · rw [sortKeys_len bok.knd]
      have := bok.k3
      omega
    · obtain ⟨rfl, k0, v0, hx, rfl⟩ := hY
      obtain ⟨v, hv, _⟩ := tab.get hz
      rw [hv] at hx
      cases hx
      obtain ⟨w0, hw, ew⟩ := tab.val (look_at (by rw [sortKeys_names]; exact nodup_asc (asc_srt _)) (List.mem_of_getElem? hz))
      have ew : w0 = .str u.2 := ew
      subst ew
      have sH := s12.trans s7
      refine ⟨rfl, .ref pl, rfl, .str u.1, rfl, pl, .str u.2, rfl, .inl ⟨kv2, .inr u.1, .inr ⟨od2, s7 _ _ (s2 _ _ hpl)⟩, rfl, hw.symm⟩, .ref l, rfl, l, _, rfl, .inl (sH.seq hl), rfl, flat_strs rooms, _, rfl, ?_⟩
      rw [inV_str]
      refine ite2 (fun t => ?_) (fun t => ?_)
      · exact ⟨.str u.1, rfl, kt t _ (Same.refl _)⟩
      · exact kf (Bool.eq_false_iff.mpr t) _ (Same.refl _)
    · have few : ((sortKeys b.keys).filter fun q => decide (q.2 ∈ rooms)).length ≤ 3 := by
        refine Nat.le_trans (List.length_filter_le _ _) ?_
        rw [sortKeys_len bok.knd]
        exact bok.k3
      refine ⟨c, D, _, _, rfl, rfl, s7 _ _ upd_same, eD, ?_, fun m nm => q _ m (s12.trans (s7.trans (same_new nm))) ?_⟩
      · rw [List.length_map, List.length_map, sizeLine_eq]
        have := pok.few1
        omega
      · rw [upd_same]
        unfold heldOf
        rw [List.map_append, List.map_map]
        rfl
end
end Lk
set_option Elab.async false
set_option linter.all false
set_option maxRecDepth 100000
set_option maxHeartbeats 4000000
namespace Lk
open PySem PySem.Spec PyProof.Rows L2 TxS LkO LkG
/-- o.m(..) of an own class by x in o -/
structure Has (P : Program) (w : World) (K : PySem.W.Frag) (mg : Str → Option Value) (base : Heap) (C : Addr) : Prop where
  ex : ∃ f fd, OwnM K C f "__contains__" ∧ Binds K fd ["self", "name"] [] ∧ FnOk P w K mg base CX0 1 f fd ["self", "name"] (spHas C)
structure Gen (P : Program) (w : World) (K : PySem.W.Frag) (mg : Str → Option Value) (base : Heap) (C : Addr) : Prop where
  ex : ∃ f fd, Meth K C "ways" f ∧ Binds K fd ["self"] [] ∧ GFt P w K mg base 1 f fd ["self"] (spWays C)
theorem qv {X : Cx} (i : Nat) {x : Str} {pos : Pos} (hN : X.N[i]? = some x := by rfl) (hv : Vis X.env.scope x := by first | exact Or.inl rfl | exact Or.inr (Or.inl rfl) | exact Or.inr (Or.inr rfl)) (nd : (x == ("__debug__" : Str)) = false := by decide) (nc : (x == ("__classdict__" : Str)) = false := by decide) :
    QE X (.Name x pos) (tVar i) := qe_var hN hv nd nc
def keyOk (k : Option Str) (held : List Str) : Bool := match k with
  | none => true
  | some z => decide (z ∈ held)
def addsOf (rooms : List Str) (d : DoorD) : List Str := ((waysOf d).filter fun q => decide (q.1 ∈ rooms) && !decide (q.2 ∈ rooms)).map (·.2)
def passOf (ls held : List Str) (q : Str × DoorD) : Bool := !decide (q.1 ∈ ls) && keyOk q.2.key held
def addOf (b : BldD) (p : PersonD) (ls rooms : List Str) (q : Str × DoorD) : Option Str := if passOf ls (heldOf b p rooms) q = true then (addsOf rooms q.2).head? else none
def beyondOf (b : BldD) (p : PersonD) (ls rooms : List Str) : List Str := b.doors.filterMap (addOf b p ls rooms)
theorem ways_two (d : DoorD) : (waysOf d).length ≤ 2 := by
  unfold waysOf
  cases d.both <;> simp
theorem inV_list (z : Str) (zs : List Str) : inV (.str z) (zs.map V.str) = decide (z ∈ zs) := inV_str z zs
theorem oV_ne (o : Option Str) : (!decide (oV o = .non)) = o.isSome := by cases o <;> rfl
theorem oV_some {α : Type} (f : α → Option Str) : ∀ l : List α, (l.filter fun a => (f a).isSome).map (fun a => oV (f a)) = (l.filterMap f).map V.str
  | [] => rfl
  | a :: r => by
    rw [List.filter_cons, List.filterMap_cons]
    cases h : f a with
    | none => simpa using oV_some f r
    | some z =>
      simp only [Option.isSome_some, if_true, List.map_cons, h]
      rw [oV_some f r]
      rfl
section
variable {P : Program} {w : World} {K : PySem.W.Frag} {mg : Str → Option Value} {base : Heap} {CD CP CB CL : Addr}
/-! ### lets_through -/
def spThru (K : PySem.W.Frag) (CD CP CB CL : Addr) : Sp := fun vs H Q _ => ∃ (x y z l : Addr) (b : BldD) (p : PersonD) (ls rooms : List Str) (n : Str) (d : DoorD), vs = [.ref x, .ref y, .ref z, .ref l, .str n] ∧ BldAt K CD CP CB H x b ∧ PersonAt K CP H y p ∧ LkAt CL H z ls ∧ SqL K H l (rooms.map V.str) ∧ b.doors.lookup n = some d ∧
  ∀ H', Same H H' → Q (.bl (passOf ls (heldOf b p rooms) (n, d))) H'
theorem scThru : FnScope ["building", "person", "locks", "rooms", "name", "door"] ["building", "person", "locks", "rooms", "name"] (defScope s_lets_through) := ⟨rfl, rfl, rfl, by decide +kernel, rfl, by decide +kernel, by decide +kernel⟩
theorem ok_thru {f : Addr} {fd : FuncData} (F : Fun K "lets_through" "lets_through" s_lets_through f fd) (T : OwnC K mg CB "Building" bldF) (TD : DoorT P w K mg base CD) (GH : Fn P w K mg base 3 "keys_held" ["building", "person", "rooms"] (spHeld K CD CP CB))
    (MD : Mt P w K mg base 2 CB "door" ["self", "name"] (spDoorOf K CD CP CB)) (HL : Has P w K mg base CL) : FnOk P w K mg base CX0 4 f fd ["building", "person", "locks", "rooms", "name"] (spThru K CD CP CB CL) := by
  obtain ⟨fH, fdH, mH, bH, FH⟩ := HL.ex
  refine F.ok scThru (fun vs H Q E h => ?_) (fun cdv A outer s H vs Q E hr h => ?_)
  · obtain ⟨x, y, z, l, b, p, ls, rooms, n, d, rfl, _⟩ := h
    rfl
  · obtain ⟨x, y, z, l, b, p, ls, rooms, n, d, rfl, hb, hp, hz, hl, hn, q⟩ := h
    have hr1 := hr.mono (show 1 ≤ 3 by decide)
    have hr2 := hr.mono (show 2 ≤ 3 by decide)
    refine ⟨_, pss_cons (ps_set (i := 5) scThru.nd rfl (.inl rfl) (pe_mt MD hr2 T.cl (pv 0) (pa_cons (pv 4) pa_nil)))
      (pss_one (ps_ret (pe_and (pe_cmpR (op_ownNotIn (E := E0) mH FH hr1 bH pass0) (pv 4) (pv 2) rfl) (pe_one (pe_or (pe_cmp (pc_isN (pe_pr TD.key hr2 TD.c.cl (pv 5) rfl)))
        (pe_one (pe_cmpR (r := rIn K false) op_in_seq (pe_pr TD.key hr2 TD.c.cl (pv 5) rfl) (pe_fn GH hr (by rfl) (pa_cons (pv 0) (pa_cons (pv 1) (pa_cons (pv 3) pa_nil)))) rfl))))))), ?_⟩
    obtain ⟨⟨dx, r, k, dn, dd, pn, pd, ok, od, op, kvs, ds, ps, I⟩, bok⟩ := id hb
    refine ⟨.ref x, rfl, x, dx, _, rfl, I.ob, rfl, .str n, rfl, x, b, n, d, rfl, hb, hn, fun H1 yd s1 hyd => ?_⟩
    obtain ⟨⟨dz, tz, hz1, hz2⟩, za, zn⟩ := id (hz.same s1)
    obtain ⟨⟨dyd, hyo⟩, dok⟩ := id hyd
    have l3 := (look_door d).2.2.1
    refine ⟨.str n, rfl, .ref z, rfl, z, dz, _, rfl, hz1, z, ls, n, rfl, hz.same s1, _, rfl, _, rfl, ite2 (fun t1 => ?_) (fun t1 => ?_)⟩
    · have t1' : (!decide (n ∈ ls)) = true := t1
      refine ⟨.ref yd, rfl, yd, dyd, _, rfl, hyo, yd, dyd, _, _, rfl, hyo, l3, ?_⟩
      cases hk : d.key with
      | none =>
        have q2 := q _ s1
        rw [show passOf ls (heldOf b p rooms) (n, d) = true from by unfold passOf keyOk; rw [t1', hk]; rfl] at q2
        exact ⟨true, rfl, iteT q2⟩
      | some zk =>
        have l3' : List.lookup ("kept_key" : Str) d.fs = some (V.str zk) := by rw [l3, hk]; rfl
        refine ⟨false, rfl, iteF ?_⟩
        refine ⟨.ref yd, rfl, yd, dyd, _, rfl, hyo, yd, dyd, _, _, rfl, hyo, l3', .ref x, rfl, .ref y, rfl, .ref l, rfl, x, y, l, b, p, rooms, rfl, hb.same s1, hp.same s1, s1.seq hl, fun H2 hd s2 eh => ?_⟩
        refine ⟨hd, _, rfl, .inl (.inl (.inl eh)), rfl, flat_strs _, ?_⟩
        rw [inV_str]
        have q2 := q _ (s1.trans s2)
        rw [show passOf ls (heldOf b p rooms) (n, d) = decide (zk ∈ heldOf b p rooms) from by unfold passOf keyOk; rw [t1', hk]; rfl] at q2
        exact q2
    · have q2 := q _ s1
      rw [show passOf ls (heldOf b p rooms) (n, d) = false from by unfold passOf; rw [show (!decide (n ∈ ls)) = false from Bool.eq_false_iff.mpr t1]; rfl] at q2
      exact q2
/-! ### room_added -/
def spAdded (K : PySem.W.Frag) (CD CP CB CL : Addr) : Sp := fun vs H Q _ => ∃ (x y z l : Addr) (b : BldD) (p : PersonD) (ls rooms : List Str) (n : Str) (d : DoorD), vs = [.ref x, .ref y, .ref z, .ref l, .str n] ∧ BldAt K CD CP CB H x b ∧ PersonAt K CP H y p ∧ LkAt CL H z ls ∧ SqL K H l (rooms.map V.str) ∧ b.doors.lookup n = some d ∧
  ∀ H', Same H H' → Q (oV (addOf b p ls rooms (n, d))) H'
theorem scAdded : FnScope ["building", "person", "locks", "rooms", "name", "start", "end"] ["building", "person", "locks", "rooms", "name"] (defScope s_room_added) := ⟨rfl, rfl, rfl, by decide +kernel, rfl, by decide +kernel, by decide +kernel⟩
theorem ok_added {f : Addr} {fd : FuncData} (F : Fun K "room_added" "room_added" s_room_added f fd) (T : OwnC K mg CB "Building" bldF) (TD : DoorT P w K mg base CD) (GT : Fn P w K mg base 4 "lets_through" ["building", "person", "locks", "rooms", "name"] (spThru K CD CP CB CL))
    (MD : Mt P w K mg base 2 CB "door" ["self", "name"] (spDoorOf K CD CP CB)) (GW : Gen P w K mg base CD) : FnOk P w K mg base CX0 5 f fd ["building", "person", "locks", "rooms", "name"] (spAdded K CD CP CB CL) := by
  obtain ⟨fW, fdW, mW, bW, FW⟩ := GW.ex
  refine F.ok scAdded (fun vs H Q E h => ?_) (fun cdv A outer s H vs Q E hr h => ?_)
  · obtain ⟨x, y, z, l, b, p, ls, rooms, n, d, rfl, _⟩ := h
    rfl
  · obtain ⟨x, y, z, l, b, p, ls, rooms, n, d, rfl, hb, hp, hz, hl, hn, q⟩ := h
    have hr1 := hr.mono (show 1 ≤ 4 by decide)
    have hr2 := hr.mono (show 2 ≤ 4 by decide)
    refine ⟨_, pss_cons (ps_if (pt_val (pe_fn GT hr (by rfl) (pa_cons (pv 0) (pa_cons (pv 1) (pa_cons (pv 2) (pa_cons (pv 3) (pa_cons (pv 4) pa_nil)))))))
        (pss_one (ps_forG (ix := 5) (iy := 6) (k := 1) (tt := tAnd (tTest (tOp (rInL K false) (tVar 5) (tVar 3))) (tTest (tOp (rInL K true) (tVar 6) (tVar 3)))) (te := tVar 6) rfl scAdded.nd hr2 (List.Mem.head _) (pgt_meth0 (pe_mt MD hr2 T.cl (pv 0) (pa_cons (pv 4) pa_nil)) TD.c.cl mW FW hr1 bW) rfl rfl rfl rfl
          (qt_and (qt_in (qv 5) (qv 3) rfl) (qt_notIn (qv 6) (qv 3) rfl)) (qv 6))) pss_nil)
      (pss_one (ps_ret pe_non)), ?_⟩
    obtain ⟨⟨dx, r, k, dn, dd, pn, pd, ok, od, op, kvs, ds, ps, I⟩, bok⟩ := id hb
    refine ⟨.ref x, rfl, .ref y, rfl, .ref z, rfl, .ref l, rfl, .str n, rfl, x, y, z, l, b, p, ls, rooms, n, d, rfl, hb, hp, hz, hl, hn, fun H1 s1 => ⟨_, rfl, ite2 (fun t1 => ?_) (fun t1 => ?_)⟩⟩
    · refine ⟨.ref x, rfl, x, dx, _, rfl, s1 _ _ I.ob, rfl, .str n, rfl, x, b, n, d, rfl, hb.same s1, hn, fun H2 yd s2 hyd => ?_⟩
      obtain ⟨⟨dyd, hyo⟩, dok⟩ := id hyd
      have s12 := s1.trans s2
      have e1 : addOf b p ls rooms (n, d) = (addsOf rooms d).head? := by
        unfold addOf
        rw [if_pos t1]
      rw [e1] at q
      refine ⟨yd, dyd, _, strPairs (waysOf d), rfl, hyo, rfl, ⟨yd, d, rfl, hyd, rfl⟩, ?_⟩
      have lw : (strPairs (waysOf d)).length = (waysOf d).length := by
        unfold strPairs
        rw [List.length_map]
      refine ⟨fun i σ H' => (∃ v5 v6, σ = [some (.ref x), some (.ref y), some (.ref z), some (.ref l), some (.str n), v5, v6]) ∧ Same H H' ∧ ∀ q' ∈ (waysOf d).take i, (decide (q'.1 ∈ rooms) && !decide (q'.2 ∈ rooms)) = false, ⟨⟨none, none, rfl⟩, s12, fun _ h => by simp at h⟩, fun σ2 H3 hw => ?_, fun i u v σ2 H3 pt hi hw npt => ?_⟩
      · obtain ⟨⟨v5, v6, rfl⟩, s3, no⟩ := hw
        have e2 : (addsOf rooms d).head? = none := by
          unfold addsOf
          rw [lw, List.take_length] at no
          rw [List.filter_eq_nil_iff.mpr fun q' hq' => by rw [no q' hq']; exact Bool.false_ne_true]
          rfl
        rw [e2] at q
        exact q _ s3
      · obtain ⟨⟨v5, v6, rfl⟩, s3, no⟩ := hw
        have hj2 : ∃ q', (waysOf d)[i]? = some q' ∧ u = .str q'.1 ∧ v = .str q'.2 := by
          unfold strPairs at hi
          rw [List.getElem?_map] at hi
          cases eq1 : (waysOf d)[i]? with
          | none =>
            rw [eq1] at hi
            cases hi
          | some q' =>
            rw [eq1] at hi
            cases hi
            exact ⟨q', rfl, rfl, rfl⟩
        obtain ⟨q1, hq1, rfl, rfl⟩ := hj2
        have s4 := s3.trans (same_new (o := .tup [.str q1.1, .str q1.2]) npt)
        have hl4 := s4.seq hl
        have more : (decide (q1.1 ∈ rooms) && !decide (q1.2 ∈ rooms)) = false → ∀ q' ∈ (waysOf d).take (i + 1), (decide (q'.1 ∈ rooms) && !decide (q'.2 ∈ rooms)) = false := fun e q' hq' => by
          rw [take_next1 hq1] at hq'
          rcases List.mem_append.mp hq' with h | h
          · exact no q' h
          · rw [List.mem_singleton.mp h]
            exact e
        refine ⟨.str q1.1, rfl, .ref l, rfl, l, _, rfl, hl4, rfl, flat_strs rooms, _, rfl, ?_⟩
        rw [inV_str]
        refine ite2 (fun t2 => ?_) (fun t2 => ?_)
        · refine ⟨.str q1.2, rfl, .ref l, rfl, l, _, rfl, hl4, rfl, flat_strs rooms, _, rfl, ?_⟩
          rw [inV_str]
          refine ite2 (fun t3 => ?_) (fun t3 => ?_)
          · have t23 : (decide (q1.1 ∈ rooms) && !decide (q1.2 ∈ rooms)) = true := by
              rw [show decide (q1.1 ∈ rooms) = true from t2, Bool.true_and]
              exact t3
            have e2 : (addsOf rooms d).head? = some q1.2 := by
              unfold addsOf
              rw [← List.take_append_drop i (waysOf d), List.filter_append, List.filter_eq_nil_iff.mpr fun q' hq' => by rw [no q' hq']; exact Bool.false_ne_true]
              have hd : (waysOf d).drop i = q1 :: (waysOf d).drop (i + 1) := by
                have hlt := (List.getElem?_eq_some_iff.mp hq1)
                rw [← hlt.2]
                exact List.drop_eq_getElem_cons hlt.1
              rw [hd, List.filter_cons, if_pos t23]
              rfl
            rw [e2] at q
            exact ⟨.str q1.2, rfl, q _ s4⟩
          · refine ⟨⟨_, _, rfl⟩, s4, more ?_⟩
            rw [show decide (q1.1 ∈ rooms) = true from t2, Bool.true_and]
            exact Bool.eq_false_iff.mpr t3
        · refine ⟨⟨_, _, rfl⟩, s4, more ?_⟩
          rw [show decide (q1.1 ∈ rooms) = false from Bool.eq_false_iff.mpr t2, Bool.false_and]
    · have e1 : addOf b p ls rooms (n, d) = none := by
        unfold addOf
        rw [if_neg t1]
      rw [e1] at q
      exact q _ s1
/-! ### rooms_beyond -/
def spBeyond (K : PySem.W.Frag) (CD CP CB CL : Addr) : Sp := fun vs H Q _ => ∃ (x y z l : Addr) (b : BldD) (p : PersonD) (ls rooms : List Str), vs = [.ref x, .ref y, .ref z, .ref l] ∧ BldAt K CD CP CB H x b ∧ PersonAt K CP H y p ∧ LkAt CL H z ls ∧ SqL K H l (rooms.map V.str) ∧
  ∀ H' m, Same H H' → H m = none → H' m = some (.lst ((beyondOf b p ls rooms).map V.str)) → Q (.ref m) H'
theorem scBeyond : FnScope ["building", "person", "locks", "rooms", "added", "name", "room"] ["building", "person", "locks", "rooms"] (defScope s_rooms_beyond) := ⟨rfl, rfl, rfl, by decide +kernel, rfl, by decide +kernel, by decide +kernel⟩
theorem ok_beyond {f : Addr} {fd : FuncData} (F : Fun K "rooms_beyond" "rooms_beyond" s_rooms_beyond f fd) (T : OwnC K mg CB "Building" bldF) (GA : Fn P w K mg base 5 "room_added" ["building", "person", "locks", "rooms", "name"] (spAdded K CD CP CB CL))
    (PD : Pr P w K mg base 1 CB "doors" (spBDoors K CD CP CB)) : FnOk P w K mg base CX0 6 f fd ["building", "person", "locks", "rooms"] (spBeyond K CD CP CB CL) := by
  refine F.ok scBeyond (fun vs H Q E h => ?_) (fun cdv A outer s H vs Q E hr h => ?_)
  · obtain ⟨x, y, z, l, b, p, ls, rooms, rfl, _⟩ := h
    rfl
  · obtain ⟨x, y, z, l, b, p, ls, rooms, rfl, hb, hp, hz, hl, q⟩ := h
    have hr2 := hr.mono (show 2 ≤ 5 by decide)
    refine ⟨_, pss_cons (ps_setLc (i := 4) (own := [("name", 5)]) (g := gName 5) (tt := tYes) (te := tCall (spAdded K CD CP CB CL) [] E0 (tCons (tVar 0) (tCons (tVar 1) (tCons (tVar 2) (tCons (tVar 3) (tCons (tVar 5) tNil)))))) rfl scBeyond.nd rfl rfl (sw_true rfl rfl rfl (by decide +kernel)) (pi_list (pe_pr PD hr2 T.cl (pv 0) rfl)) (blkOk_by (N := ["building", "person", "locks", "rooms", "added", "name", "room"]) (sc := defScope s_rooms_beyond) (by decide +kernel))
        (fun _ _ _ _ _ => pg_name (i := 5) scBeyond.nd rfl (Or.inl rfl)) (fun _ _ _ _ _ => pts_nil) (fun _ _ _ _ _ => pe_fn GA hr (by rfl) (pa_cons (pv 0) (pa_cons (pv 1) (pa_cons (pv 2) (pa_cons (pv 3) (pa_cons (pv 5) pa_nil)))))))
      (pss_one (ps_ret (pe_lc (own := [("room", 6)]) (g := gName 6) (tt := tB (tNotN (tVar 6))) (te := tVar 6) rfl scBeyond.nd (pi_list (pv 4)) (blkOk_by (N := ["building", "person", "locks", "rooms", "added", "name", "room"]) (sc := defScope s_rooms_beyond) (by decide +kernel))
        (fun _ _ _ _ _ => pg_name (i := 6) scBeyond.nd rfl (Or.inl rfl)) (fun _ _ _ _ _ => pts_one (pt_cmp (pc_notN (pv 6)))) (fun _ _ _ _ _ => pv 6)))), ?_⟩
    obtain ⟨⟨dx, r, k, dn, dd, pn, pd, ok, od, op, kvs, ds, ps, I⟩, bok⟩ := id hb
    have d8 := bok.d8
    refine ⟨.ref x, rfl, x, dx, _, rfl, I.ob, x, b, rfl, hb, fun dl ndl => ⟨dl, rfl, ⟨_, .inl (.inl upd_same)⟩, fun D nD => ?_⟩⟩
    have s1 := same_new (o := .lst ((b.doors.map (·.1)).map V.str)) ndl
    refine lc_m (walk_list (xs := (b.doors.map (·.1)).map V.str)) b.doors (fun q => oV (addOf b p ls rooms q)) (by rw [List.length_map, List.length_map]) nD (by omega) (fun H' s' => .inl (.inl (s' _ _ upd_same))) (fun i nd v H2 H3 Kt hz s2 hY k => ?_) (fun H2 s2 eD => ?_)
    · obtain ⟨rfl, hx⟩ := hY
      rw [List.getElem?_map, List.getElem?_map, hz] at hx
      cases hx
      have sH := s1.trans s2
      exact ⟨rfl, .ref x, rfl, .ref y, rfl, .ref z, rfl, .ref l, rfl, .str nd.1, rfl, x, y, z, l, b, p, ls, rooms, nd.1, nd.2, rfl, hb.same sH, hp.same sH, LkAt.same (by assumption) sH, sH.seq hl, look_at bok.dnd (List.mem_of_getElem? hz), fun H5 s5 => k _ s5⟩
    · refine ⟨.ref D, rfl, D, rfl, ⟨_, .inl (.inl eD)⟩, fun D2 nD2 => lc_mf (walk_list (xs := b.doors.map fun q => oV (addOf b p ls rooms q))) b.doors (fun q => (addOf b p ls rooms q).isSome) (fun q => oV (addOf b p ls rooms q)) (by rw [List.length_map]) nD2 (by omega) (fun H' s' => .inl (.inl (s' _ _ eD))) (fun i nd v H4 H5 Kt Kf hz s4 hY kt kf => ?_) (fun H4 s4 eD2 => ?_)⟩
      · obtain ⟨rfl, hx⟩ := hY
        rw [List.getElem?_map, hz] at hx
        cases hx
        refine ⟨rfl, oV (addOf b p ls rooms nd), rfl, _, rfl, ?_⟩
        rw [oV_ne]
        refine ite2 (fun t => ?_) (fun t => ?_)
        · exact ⟨_, rfl, kt t _ (Same.refl _)⟩
        · exact kf (Bool.eq_false_iff.mpr t) _ (Same.refl _)
      · refine q _ D2 (s1.trans (s2.trans s4)) ?_ ?_
        · cases e : H D2 with
          | none => rfl
          | some o =>
            have := s2 _ _ (s1 _ _ e)
            rw [nD2] at this
            cases this
        · rw [eD2, oV_some]
          rfl
end
end Lk
set_option Elab.async false
set_option linter.all false
set_option maxRecDepth 100000
set_option maxHeartbeats 4000000
namespace Lk
open PySem PySem.Spec PyProof.Rows L2 TxS LkO LkG
/-! ### the reach -/
inductive Rch (b : BldD) (p : PersonD) (ls : List Str) : Str → Prop
  | start : Rch b p ls p.a
  | free {n : Str} {d : DoorD} {r e : Str} : (n, d) ∈ b.doors → n ∉ ls → d.key = none → (r, e) ∈ waysOf d → Rch b p ls r → Rch b p ls e
  | got {n : Str} {d : DoorD} {r e z : Str} : (n, d) ∈ b.doors → n ∉ ls → d.key = some z → z ∈ p.carried → (r, e) ∈ waysOf d → Rch b p ls r → Rch b p ls e
  | found {n : Str} {d : DoorD} {r e z room : Str} : (n, d) ∈ b.doors → n ∉ ls → d.key = some z → b.keys.lookup z = some room → (r, e) ∈ waysOf d → Rch b p ls room → Rch b p ls r → Rch b p ls e
theorem mem_held {b : BldD} {p : PersonD} {rooms : List Str} {z : Str} : z ∈ heldOf b p rooms ↔ z ∈ p.carried ∨ ∃ room, b.keys.lookup z = some room ∧ room ∈ rooms := by
  unfold heldOf
  rw [List.mem_append]
  refine or_congr Iff.rfl ⟨fun h => ?_, fun h => ?_⟩
  · obtain ⟨q, hq, rfl⟩ := List.mem_map.mp h
    obtain ⟨h1, h2⟩ := List.mem_filter.mp hq
    refine ⟨q.2, ?_, of_decide_eq_true h2⟩
    rw [← sortKeys_look]
    exact look_at (by rw [sortKeys_names]; exact nodup_asc (asc_srt _)) h1
  · obtain ⟨room, h1, h2⟩ := h
    rw [← sortKeys_look] at h1
    exact List.mem_map.mpr ⟨(z, room), List.mem_filter.mpr ⟨look_mem h1, decide_eq_true h2⟩, rfl⟩
theorem adds_iff {rooms : List Str} {d : DoorD} {e : Str} : (addsOf rooms d).head? = some e ↔ ∃ r, (r, e) ∈ waysOf d ∧ r ∈ rooms ∧ e ∉ rooms := by
  constructor
  · intro h
    have he : e ∈ addsOf rooms d := by
      cases hl : addsOf rooms d with
      | nil =>
        rw [hl] at h
        cases h
      | cons a r =>
        rw [hl] at h
        cases h
        exact List.mem_cons_self
    unfold addsOf at he
    obtain ⟨⟨r, e'⟩, hw, rfl⟩ := List.mem_map.mp he
    obtain ⟨h1, h2⟩ := List.mem_filter.mp hw
    rw [Bool.and_eq_true] at h2
    exact ⟨r, h1, of_decide_eq_true h2.1, of_decide_eq_false (by have := h2.2; simpa using this)⟩
  · rintro ⟨r, hw, hr, he⟩
    unfold addsOf
    unfold waysOf at hw ⊢
    rcases List.mem_cons.mp hw with z | z
    · cases z
      rw [List.filter_cons, if_pos (by rw [decide_eq_true hr, decide_eq_false he]; rfl)]
      rfl
    · cases e2 : d.both with
      | false =>
        rw [e2] at z
        cases z
      | true =>
        rw [e2] at z
        have z := List.mem_singleton.mp z
        cases z
        rw [List.filter_cons, if_neg (by simp [he]), if_pos rfl, List.filter_cons, if_pos (by rw [decide_eq_true hr, decide_eq_false he]; rfl)]
        rfl
theorem add_iff {b : BldD} {p : PersonD} {ls rooms : List Str} {n : Str} {d : DoorD} {e : Str} : addOf b p ls rooms (n, d) = some e ↔ n ∉ ls ∧ keyOk d.key (heldOf b p rooms) = true ∧ ∃ r, (r, e) ∈ waysOf d ∧ r ∈ rooms ∧ e ∉ rooms := by
  unfold addOf passOf
  constructor
  · intro h
    by_cases hp : (!decide (n ∈ ls) && keyOk d.key (heldOf b p rooms)) = true
    · rw [if_pos hp] at h
      rw [Bool.and_eq_true] at hp
      exact ⟨of_decide_eq_false (by have := hp.1; simpa using this), hp.2, adds_iff.mp h⟩
    · rw [if_neg hp] at h
      cases h
  · rintro ⟨hn, hk, h⟩
    rw [if_pos (by rw [hk, decide_eq_false hn]; rfl)]
    exact adds_iff.mpr h
theorem mem_beyond {b : BldD} {p : PersonD} {ls rooms : List Str} {e : Str} : e ∈ beyondOf b p ls rooms ↔ ∃ n d r, (n, d) ∈ b.doors ∧ n ∉ ls ∧ keyOk d.key (heldOf b p rooms) = true ∧ (r, e) ∈ waysOf d ∧ r ∈ rooms ∧ e ∉ rooms := by
  unfold beyondOf
  rw [List.mem_filterMap]
  constructor
  · rintro ⟨⟨n, d⟩, hq, he⟩
    obtain ⟨h1, h2, r, h3, h4, h5⟩ := add_iff.mp he
    exact ⟨n, d, r, hq, h1, h2, h3, h4, h5⟩
  · rintro ⟨n, d, r, hq, hn, hk, hw, hr, he⟩
    exact ⟨(n, d), hq, add_iff.mpr ⟨hn, hk, r, hw, hr, he⟩⟩
theorem beyond_sound {b : BldD} {p : PersonD} {ls rooms : List Str} (h : ∀ z ∈ rooms, Rch b p ls z) : ∀ z ∈ beyondOf b p ls rooms, Rch b p ls z := fun e he => by
  obtain ⟨n, d, r, hq, hn, hk, hw, hr, _⟩ := mem_beyond.mp he
  cases hd : d.key with
  | none => exact .free hq hn hd hw (h r hr)
  | some z =>
    rw [hd] at hk
    rcases mem_held.mp (of_decide_eq_true hk) with c | ⟨room, h1, h2⟩
    · exact .got hq hn hd c hw (h r hr)
    · exact .found hq hn hd h1 hw (h room h2) (h r hr)
theorem beyond_done {b : BldD} {p : PersonD} {ls rooms : List Str} (h0 : p.a ∈ rooms) (h : beyondOf b p ls rooms = []) {z : Str} (hz : Rch b p ls z) : z ∈ rooms := by
  have no : ∀ e, e ∉ beyondOf b p ls rooms := fun e => by rw [h]; exact List.not_mem_nil
  induction hz with
  | start => exact h0
  | @free n d r e hq hn hd hw _ ih =>
    by_cases he : e ∈ rooms
    · exact he
    · exact absurd (mem_beyond.mpr ⟨n, d, r, hq, hn, by rw [hd]; rfl, hw, ih, he⟩) (no e)
  | @got n d r e z hq hn hd hc hw _ ih =>
    by_cases he : e ∈ rooms
    · exact he
    · exact absurd (mem_beyond.mpr ⟨n, d, r, hq, hn, by rw [hd]; exact decide_eq_true (mem_held.mpr (.inl hc)), hw, ih, he⟩) (no e)
  | @found n d r e z room hq hn hd hk hw _ _ ih1 ih2 =>
    by_cases he : e ∈ rooms
    · exact he
    · exact absurd (mem_beyond.mpr ⟨n, d, r, hq, hn, by rw [hd]; exact decide_eq_true (mem_held.mpr (.inr ⟨room, hk, ih1⟩)), hw, ih2, he⟩) (no e)
theorem ways_in {b : BldD} (ok : b.ok) {n : Str} {d : DoorD} {r e : Str} (h : (n, d) ∈ b.doors) (hw : (r, e) ∈ waysOf d) : r ∈ b.rooms ∧ e ∈ b.rooms := by
  obtain ⟨_, _, ha, hb, _⟩ := ok.doors _ h
  unfold waysOf at hw
  rcases List.mem_cons.mp hw with z | z
  · cases z
    exact ⟨ha, hb⟩
  · cases e2 : d.both with
    | false =>
      rw [e2] at z
      cases z
    | true =>
      rw [e2] at z
      have z := List.mem_singleton.mp z
      cases z
      exact ⟨hb, ha⟩
theorem rch_in {b : BldD} (ok : b.ok) {n : Str} {p : PersonD} {ls : List Str} (hp : (n, p) ∈ b.people) {z : Str} (h : Rch b p ls z) : z ∈ b.rooms := by
  induction h with
  | start => exact (ok.people _ hp).2.2.1
  | free hq _ _ hw _ _ => exact (ways_in ok hq hw).2
  | got hq _ _ _ hw _ _ => exact (ways_in ok hq hw).2
  | found hq _ _ _ hw _ _ _ => exact (ways_in ok hq hw).2
/-- rooms still to come -/
def leftOf (b : BldD) (rooms : List Str) : Nat := (b.rooms.filter fun z => !decide (z ∈ rooms)).length
theorem filt_lt {p q : Str → Bool} : ∀ {l : List Str} {z : Str}, z ∈ l → (∀ y, q y = true → p y = true) → p z = true → q z = false → (l.filter q).length < (l.filter p).length
  | [], _, h, _, _, _ => by cases h
  | y :: r, z, h, sub, hp, hq => by
    have le : (r.filter q).length ≤ (r.filter p).length := by
      have go : ∀ l : List Str, (l.filter q).length ≤ (l.filter p).length := fun l => by
        induction l with
        | nil => exact Nat.le_refl _
        | cons a l ih =>
          rw [List.filter_cons, List.filter_cons]
          by_cases ha : q a = true
          · rw [if_pos ha, if_pos (sub a ha), List.length_cons, List.length_cons]
            omega
          · rw [if_neg ha]
            split
            · rw [List.length_cons]
              omega
            · exact ih
      exact go r
    rw [List.filter_cons, List.filter_cons]
    rcases List.mem_cons.mp h with e | e
    · subst e
      rw [if_pos hp, if_neg (by rw [hq]; exact Bool.false_ne_true), List.length_cons]
      omega
    · have ih := filt_lt e sub hp hq
      by_cases ha : q y = true
      · rw [if_pos ha, if_pos (sub y ha), List.length_cons, List.length_cons]
        omega
      · rw [if_neg ha]
        split
        · rw [List.length_cons]
          omega
        · exact ih
theorem left_lt {b : BldD} (ok : b.ok) {p : PersonD} {ls rooms : List Str} (h : beyondOf b p ls rooms ≠ []) : leftOf b (rooms ++ beyondOf b p ls rooms) < leftOf b rooms := by
  obtain ⟨e, he⟩ := List.exists_mem_of_ne_nil _ h
  obtain ⟨n, d, r, hq, _, _, hw, _, hne⟩ := mem_beyond.mp he
  unfold leftOf
  refine filt_lt (z := e) (ways_in ok hq hw).2 (fun y hy => ?_) (by simp [hne]) (by simp [he])
  simp only [List.mem_append, Bool.not_eq_eq_eq_not, Bool.not_true, decide_eq_false_iff_not, not_or] at hy ⊢
  exact hy.1
theorem left_le (b : BldD) (ok : b.ok) (rooms : List Str) : leftOf b rooms ≤ 6 := Nat.le_trans (List.length_filter_le _ _) ok.r6
theorem beyond_len {b : BldD} (ok : b.ok) (p : PersonD) (ls rooms : List Str) : (beyondOf b p ls rooms).length ≤ 16 := by
  have h := List.length_filterMap_le (addOf b p ls rooms) b.doors
  have := ok.d8
  unfold beyondOf
  omega
section
variable {P : Program} {w : World} {K : PySem.W.Frag} {mg : Str → Option Value} {base : Heap} {CD CP CB CL : Addr}
def spReach (K : PySem.W.Frag) (CD CP CB CL : Addr) : Sp := fun vs H Q _ => ∃ (x z : Addr) (b : BldD) (n : Str) (p : PersonD) (ls : List Str), vs = [.ref x, .str n, .ref z] ∧ BldAt K CD CP CB H x b ∧ b.people.lookup n = some p ∧ LkAt CL H z ls ∧ ls.length ≤ 1000 ∧ (∀ z ∈ ls, z ∈ b.doors.map (·.1)) ∧
  ∀ H' m (g : Str → Bool), Same H H' → H m = none → (∀ z, g z = true ↔ Rch b p ls z) → H' m = some (.lst ((b.rooms.filter g).map V.str)) → Q (.ref m) H'
theorem scReach : FnScope ["self", "name", "locks", "person", "rooms", "beyond", "room"] ["self", "name", "locks"] (defScope s_Building_reach) := ⟨rfl, rfl, rfl, by decide +kernel, rfl, by decide +kernel, by decide +kernel⟩
theorem ok_reach {f : Addr} {fd : FuncData} (F : Fun K "reach" "Building.reach" s_Building_reach f fd) (T : OwnC K mg CB "Building" bldF) (TP : PersT P w K mg base CP) (MP : Mt P w K mg base 2 CB "person" ["self", "name"] (spPersOf K CD CP CB)) (GC : Fn P w K mg base 3 "check_locks" ["building", "locks"] (spChk K CD CP CB CL))
    (GB : Fn P w K mg base 6 "rooms_beyond" ["building", "person", "locks", "rooms"] (spBeyond K CD CP CB CL)) : FnOk P w K mg base CX0 7 f fd ["self", "name", "locks"] (spReach K CD CP CB CL) := by
  refine F.ok scReach (fun vs H Q E h => ?_) (fun cdv A outer s H vs Q E hr h => ?_)
  · obtain ⟨x, z, b, n, p, ls, rfl, _⟩ := h
    rfl
  · obtain ⟨x, z, b, n, p, ls, rfl, hb, hn, hz, few, sub, q⟩ := h
    have hr2 := hr.mono (show 2 ≤ 6 by decide)
    have hr3 := hr.mono (show 3 ≤ 6 by decide)
    refine ⟨_, pss_cons (ps_set (i := 3) scReach.nd rfl (.inl rfl) (pe_mt MP hr2 T.cl (pv 0) (pa_cons (pv 1) pa_nil)))
      (pss_cons (ps_expr (pe_fn GC hr3 (by rfl) (pa_cons (pv 0) (pa_cons (pv 2) pa_nil))))
      (pss_cons (ps_set (i := 4) scReach.nd rfl (.inr rfl) (pe_lst (pa_cons (pe_pr TP.start hr2 TP.c.cl (pv 3) rfl) pa_nil)))
      (pss_cons (ps_set (i := 5) scReach.nd rfl (.inl rfl) (pe_fn GB hr (by rfl) (pa_cons (pv 0) (pa_cons (pv 3) (pa_cons (pv 2) (pa_cons (pv 4) pa_nil))))))
      (pss_cons (ps_while PassesOwn.never (pt_truth (pv 5) (fun _ => rfl)) (pss_cons (ps_set (i := 4) scReach.nd rfl (.inr rfl) (pe_op op_cat (pv 4) (pv 5))) (pss_one (ps_set (i := 5) scReach.nd rfl (.inl rfl) (pe_fn GB hr (by rfl) (pa_cons (pv 0) (pa_cons (pv 3) (pa_cons (pv 2) (pa_cons (pv 4) pa_nil)))))))))
      (pss_one (ps_ret (pe_lc (own := [("room", 6)]) (g := gName 6) (tt := tTest (tOp (rIn K false) (tVar 6) (tVar 4))) (te := tVar 6) rfl scReach.nd (pi_tup (pe_fld (pv 0) rfl)) (blkOk_by (N := ["self", "name", "locks", "person", "rooms", "beyond", "room"]) (sc := defScope s_Building_reach) (by decide +kernel))
        (fun _ _ _ _ _ => pg_name (i := 6) scReach.nd rfl (Or.inl rfl)) (fun _ _ _ _ _ => pts_one (pt_cmpR op_in_seq (pv 6) (pv 4) rfl)) (fun _ _ _ _ _ => pv 6)))))))), ?_⟩
    obtain ⟨⟨dx, r, k, dn, dd, pn, pd, ok, od, op, kvs, ds, ps, I⟩, bok⟩ := id hb
    have l1 := (look_bld r k dn dd pn pd).1
    refine ⟨.ref x, rfl, x, dx, _, rfl, I.ob, rfl, .str n, rfl, x, b, n, p, rfl, hb, hn, fun H1 y s1 hy => ?_⟩
    refine ⟨.ref x, rfl, .ref z, rfl, x, z, b, ls, rfl, hb.same s1, hz.same s1, few, sub, fun H2 s2 => ?_⟩
    have s12 := s1.trans s2
    obtain ⟨⟨dy, t1, t2, t3, h0, _⟩, pok⟩ := id (hy.same s2)
    refine ⟨.ref y, rfl, y, dy, _, rfl, h0, y, dy, _, _, rfl, h0, (look_person p.a t1 t2 t3).1, by show 1 ≤ sizeLine; rw [sizeLine_eq]; decide, fun rl nrl => ?_⟩
    have s3 := s12.trans (same_new (o := .lst [.str p.a]) nrl)
    have hy3 : PersonAt K CP (upd H2 rl (.lst [.str p.a])) y p := (hy.same s2).same (same_new nrl)
    refine ⟨.ref x, rfl, .ref y, rfl, .ref z, rfl, .ref rl, rfl, x, y, z, rl, b, p, ls, [p.a], rfl, hb.same s3, hy3, hz.same s3, .inl (.inl upd_same), fun H4 bl s4 nbl ebl => ?_⟩
    have s14 := s3.trans s4
    refine ⟨fun m σ H' => ∃ (rl bl : Addr) (rooms : List Str), Same H H' ∧ PersonAt K CP H' y p ∧ H' rl = some (.lst (rooms.map V.str)) ∧ H' bl = some (.lst ((beyondOf b p ls rooms).map V.str)) ∧ p.a ∈ rooms ∧ (∀ u ∈ rooms, Rch b p ls u) ∧ m = leftOf b rooms ∧ rooms.length + 16 * m ≤ 97 ∧
      σ = [some (.ref x), some (.str n), some (.ref z), some (.ref y), some (.ref rl), some (.ref bl), none], ⟨leftOf b [p.a], rl, bl, [p.a], s14, hy3.same s4, s4 _ _ upd_same, ebl, by simp, fun u hu => ?_, rfl, ?_, rfl⟩, ?_⟩
    · rw [List.mem_singleton.mp hu]
      exact .start
    · have := left_le b bok [p.a]
      simp only [List.length_singleton]
      omega
    rintro m σ H5 ⟨rl, bl, rooms, s5, hy5, erl, ebl, h0, hR, rfl, hlen, rfl⟩
    refine ⟨.ref bl, rfl, !((beyondOf b p ls rooms).map V.str).isEmpty, .inl ⟨_, .inl (.inl ebl), rfl⟩, ite2 (fun t => ?_) (fun t => ?_)⟩
    · have ne : beyondOf b p ls rooms ≠ [] := fun e => by
        rw [e] at t
        simp at t
      have hlt := left_lt bok ne
      have hbl := beyond_len bok p ls rooms
      refine ⟨fun σ H' => ∃ (rl bl : Addr), Same H H' ∧ PersonAt K CP H' y p ∧ H' rl = some (.lst ((rooms ++ beyondOf b p ls rooms).map V.str)) ∧ H' bl = some (.lst ((beyondOf b p ls (rooms ++ beyondOf b p ls rooms)).map V.str)) ∧
        σ = [some (.ref x), some (.str n), some (.ref z), some (.ref y), some (.ref rl), some (.ref bl), none], ?_, ?_⟩
      · rintro σ' H' ⟨rl', bl', a1, a2, a3, a4, a5⟩
        refine ⟨leftOf b (rooms ++ beyondOf b p ls rooms), hlt, rl', bl', _, a1, a2, a3, a4, List.mem_append_left _ h0, fun u hu => ?_, rfl, ?_, a5⟩
        · rcases List.mem_append.mp hu with v | v
          · exact hR u v
          · exact beyond_sound hR u v
        · rw [List.length_append]
          omega
      · refine ⟨.ref rl, rfl, .ref bl, rfl, rl, bl, _, _, rfl, rfl, erl, ebl, ?_, fun rl2 nrl2 => ?_⟩
        · rw [List.length_map, List.length_map, sizeLine_eq]
          omega
        have s6 := same_new (o := .lst (rooms.map V.str ++ (beyondOf b p ls rooms).map V.str)) nrl2
        have s56 := s5.trans s6
        refine ⟨.ref x, rfl, .ref y, rfl, .ref z, rfl, .ref rl2, rfl, x, y, z, rl2, b, p, ls, rooms ++ beyondOf b p ls rooms, rfl, hb.same s56, hy5.same s6, hz.same s56, .inl (.inl (by rw [upd_same, List.map_append])), fun H7 bl2 s7 nbl2 ebl2 => ?_⟩
        exact ⟨rl2, bl2, s56.trans s7, (hy5.same s6).same s7, by rw [s7 _ _ upd_same, List.map_append], ebl2, rfl⟩
    · have e0 : beyondOf b p ls rooms = [] := by
        have t' : ((beyondOf b p ls rooms).map V.str).isEmpty = true := by simpa using t
        rw [List.isEmpty_iff, List.map_eq_nil_iff] at t'
        exact t'
      refine ⟨.ref x, rfl, x, CB, dx, _, _, rfl, s5 _ _ I.ob, T.cl, T.nK _ (by simp), l1, r, rfl, ⟨_, Same.tup s5 I.rooms⟩, fun D nD => lc_mf (walk_tup (xs := b.rooms.map V.str)) b.rooms (fun u => decide (u ∈ rooms)) V.str (by rw [List.length_map]) nD (by have := bok.r6; omega) (fun H' s' => Same.tup (s5.trans s') I.rooms) (fun i u v H7 H8 Kt Kf hz s7 hY kt kf => ?_) (fun H7 s7 eD => ?_)⟩
      · obtain ⟨rfl, hx⟩ := hY
        rw [List.getElem?_map, hz] at hx
        cases hx
        refine ⟨rfl, .str u, rfl, .ref rl, rfl, rl, _, rfl, .inl (.inl (.inl (s7 _ _ erl))), rfl, flat_strs rooms, _, rfl, ?_⟩
        rw [inV_str]
        refine ite2 (fun t2 => ?_) (fun t2 => ?_)
        · exact ⟨.str u, rfl, kt t2 _ (Same.refl _)⟩
        · exact kf (Bool.eq_false_iff.mpr t2) _ (Same.refl _)
      · refine q _ D (fun u => decide (u ∈ rooms)) (s5.trans s7) ?_ (fun u => ?_) eD
        · cases e : H D with
          | none => rfl
          | some o =>
            have := s5 _ _ e
            rw [nD] at this
            cases this
        · rw [decide_eq_true_eq]
          exact ⟨hR u, beyond_done h0 e0⟩
theorem FnOk.weak {CX : CXT} {k : Nat} {f : Addr} {fd : FuncData} {ps : List Str} {sp sp' : Sp} (F : FnOk P w K mg base CX k f fd ps sp) (h : ∀ vs H Q E, sp' vs H Q E → sp vs H Q E) : FnOk P w K mg base CX k f fd ps sp' :=
  ⟨fun vs H Q E z => F.len vs H Q E (h vs H Q E z), fun A outer s H args us vs Q E hr e0 hb r z => F.run A outer s H args us vs Q E hr e0 hb r (h vs H Q E z)⟩
structure EqM (P : Program) (w : World) (K : PySem.W.Frag) (mg : Str → Option Value) (base : Heap) (C : Addr) (sp : Sp) : Prop where
  ex : ∃ f fd, PySem.W.findIn K (.ref C) "__eq__" = some (some (.ref f)) ∧ PySem.W.isFn K (.ref f) = true ∧ Binds K fd ["self", "other"] [] ∧ FnOk P w K mg base CX0 1 f fd ["self", "other"] sp
def rDoor (C : Addr) : Addr → Addr → Hp → Prop := fun a b H => ∃ d, DoorAt C H a d ∧ DoorAt C H b d
def rPers (K : PySem.W.Frag) (C : Addr) : Addr → Addr → Hp → Prop := fun a b H => ∃ d, PersonAt K C H a d ∧ PersonAt K C H b d
theorem eq_doors {X : Cx} {C : Addr} (M : EqM X.prog X.w X.K X.mg X.base C (spEqDoor C)) : EqG X 1 (DIns C (rDoor C)) := by
  obtain ⟨f, fd, h1, h2, b, F⟩ := M.ex
  exact eqG_ins (E := E0) (FnOk.weak F fun vs H Q E ⟨x, y, e, ⟨d, hx, hy⟩, q⟩ => ⟨x, y, d, d, e, hx, hy, by rw [decide_eq_true rfl]; exact q _ Ext.rfl'⟩) h1 h2 b pass0
theorem eq_pers {X : Cx} {C : Addr} (M : EqM X.prog X.w X.K X.mg X.base C (spEqPerson X.K C)) : EqG X 1 (DIns C (rPers X.K C)) := by
  obtain ⟨f, fd, h1, h2, b, F⟩ := M.ex
  exact eqG_ins (E := E0) (FnOk.weak F fun vs H Q E ⟨x, y, e, ⟨d, hx, hy⟩, q⟩ => ⟨x, y, d, d, e, hx, hy, by rw [decide_eq_true rfl]; exact q _ Ext.rfl'⟩) h1 h2 b pass0
theorem mon_doors {C : Addr} : Mon (DIns C (rDoor C)) := mon_ins fun a b H H' e ⟨d, h1, h2⟩ => ⟨d, h1.same e, h2.same e⟩
theorem mon_pers {C : Addr} : Mon (DIns C (rPers K C)) := mon_ins fun a b H H' e ⟨d, h1, h2⟩ => ⟨d, h1.same e, h2.same e⟩
def spEqBld (K : PySem.W.Frag) (CD CP CB : Addr) : Sp := fun vs H Q _ => ∃ (x y : Addr) (b : BldD), vs = [.ref x, .ref y] ∧ BldAt K CD CP CB H x b ∧ BldAt K CD CP CB H y b ∧ ∀ H', Same H H' → Q (.bl true) H'
theorem scEqB : FnScope ["self", "other"] ["self", "other"] (defScope s_Building___eq__) := ⟨rfl, rfl, rfl, by decide +kernel, rfl, by decide +kernel, by decide +kernel⟩
theorem same_tab {α : Type} {R S : V → α → Prop} {D : Eqv} {H : Hp} {l : List (Str × α)} {ks ls : List (Key × V)} (nd : (l.map (·.1)).Nodup) (t : Tab R ks l) (u : Tab S ls l) (h : ∀ v v' a, R v a → S v' a → D v v' H) : ks.length = ls.length ∧ ∀ p ∈ ks, ∃ v, valV ls p.1 = some v ∧ D p.2 v H := by
  refine ⟨t.len.trans u.len.symm, fun p hp => ?_⟩
  obtain ⟨i, hi, e⟩ := List.getElem_of_mem hp
  have hil : i < l.length := t.len ▸ hi
  have hg : l[i]? = some l[i] := List.getElem?_eq_getElem hil
  obtain ⟨v, hv, hr⟩ := t.get hg
  rw [List.getElem?_eq_getElem hi, e] at hv
  cases hv
  obtain ⟨v', hv', hs⟩ := u.val (look_at nd (List.getElem_mem hil))
  exact ⟨v', hv', h _ _ _ hr hs⟩
theorem ok_eqBld {f : Addr} {fd : FuncData} (F : Fun K "__eq__" "Building.__eq__" s_Building___eq__ f fd) (B : Blt mg) (T : OwnC K mg CB "Building" bldF) (MD : EqM P w K mg base CD (spEqDoor CD)) (MP : EqM P w K mg base CP (spEqPerson K CP)) : FnOk P w K mg base CX0 3 f fd ["self", "other"] (spEqBld K CD CP CB) := by
  refine F.ok scEqB (fun vs H Q E h => ?_) (fun cdv A outer s H vs Q E hr h => ?_)
  · obtain ⟨x, y, b, rfl, _⟩ := h
    rfl
  · obtain ⟨x, y, b, rfl, ⟨⟨dx, r, k, dn, dd, pn, pd, ok, od, op, kvs, ds, ps, I⟩, bok⟩, ⟨⟨dx', r', k', dn', dd', pn', pd', ok', od', op', kvs', ds', ps', J⟩, _⟩, q⟩ := h
    have hr1 := hr.mono (show 1 ≤ 2 by decide)
    refine ⟨_, pss_one (ps_ret (pe_and (pe_callB call_isi (by rfl) B.isi PyProof.Rows.boot_isinstance (pa_cons (pv 1) (pa_cons (pe_glob (v := .ref CB) (by rfl) T.mgC rfl) pa_nil)))
      (pe_and (pe_cmpR (op_eqD hr.units) (pe_fld (pv 0) rfl) (pe_fld (pv 1) rfl) (nomark _)) (pe_and (pe_cmpR (op_eqG (rcG_dict mon_flat eqG_flat) hr1) (pe_fld (pv 0) rfl) (pe_fld (pv 1) rfl) (nomark _)) (pe_and (pe_cmpR (op_eqD hr.units) (pe_fld (pv 0) rfl) (pe_fld (pv 1) rfl) (nomark _))
      (pe_and (pe_cmpR (op_eqG (rcG_dict mon_doors (eq_doors MD)) hr) (pe_fld (pv 0) rfl) (pe_fld (pv 1) rfl) (nomark _)) (pe_and (pe_cmpR (op_eqD hr.units) (pe_fld (pv 0) rfl) (pe_fld (pv 1) rfl) (nomark _))
      (pe_one (pe_cmpR (op_eqG (rcG_dict mon_pers (eq_pers MP)) hr) (pe_fld (pv 0) rfl) (pe_fld (pv 1) rfl) (nomark _)))))))))), ?_⟩
    obtain ⟨l1, l2, l3, l4, l5, l6⟩ := look_bld r k dn dd pn pd
    obtain ⟨m1, m2, m3, m4, m5, m6⟩ := look_bld r' k' dn' dd' pn' pd'
    have nK := T.nK
    have cl := T.cl
    have nmD : ∀ z ∈ b.doors.map (·.1), PyData.strOk z = true := fun z hz => by
      obtain ⟨u, hu, rfl⟩ := List.mem_map.mp hz
      exact nm_ok (bok.doors u hu).1
    have nmP : ∀ z ∈ b.people.map (·.1), PyData.strOk z = true := fun z hz => by
      obtain ⟨u, hu, rfl⟩ := List.mem_map.mp hz
      exact nm_ok (bok.people u hu).1
    refine ⟨.ref y, rfl, .ref y, .ref CB, _, _, true, rfl, .own CB, .base (.ins J.ob T.cl T.tyc T.tyg T.tyt T.tym), T.kit, true, rfl, iteT ?_⟩
    refine ⟨.ref x, rfl, x, CB, dx, _, _, rfl, I.ob, cl, nK _ (by simp), l1, .ref y, rfl, y, CB, dx', _, _, rfl, J.ob, cl, nK _ (by simp), m1, _, _, .tup I.rooms (dp_strs _), .tup J.rooms (dp_strs _), shaped_strsT fun z hz => nm_ok (are_nm bok.rooms z hz), shaped_strsT fun z hz => nm_ok (are_nm bok.rooms z hz), true, by rw [eqv_tups, decide_eq_true rfl], iteT ?_⟩
    obtain ⟨ek1, ek2⟩ := same_tab (D := DFlat) (H := H) (by rw [sortKeys_names]; exact nodup_asc (asc_srt _)) I.keysT J.keysT fun v v' a (h1 : v = .str a) (h2 : v' = .str a) => by
      rw [h1, h2]
      exact ⟨rfl, rfl, by show (a == a) = true; exact beq_self_eq_true a⟩
    refine ⟨.ref x, rfl, x, CB, dx, _, _, rfl, I.ob, cl, nK _ (by simp), l2, .ref y, rfl, y, CB, dx', _, _, rfl, J.ob, cl, nK _ (by simp), m2, ⟨k, k', ok, ok', kvs, kvs', rfl, rfl, I.keys, J.keys, ek1, ek2⟩, fun H1 s1 => ⟨true, rfl, iteT ?_⟩⟩
    have s1 : Same H H1 := s1
    have I1 := I.same s1
    have J1 := J.same s1
    refine ⟨.ref x, rfl, x, CB, dx, _, _, rfl, I1.ob, cl, nK _ (by simp), l3, .ref y, rfl, y, CB, dx', _, _, rfl, J1.ob, cl, nK _ (by simp), m3, _, _, .tup I1.dn (dp_strs _), .tup J1.dn (dp_strs _), shaped_strsT nmD, shaped_strsT nmD, true, by rw [eqv_tups, decide_eq_true rfl], iteT ?_⟩
    obtain ⟨ed1, ed2⟩ := same_tab (D := DIns CD (rDoor CD)) (H := H1) bok.dnd I1.doorsT J1.doorsT fun v v' a ⟨u, e1, h1⟩ ⟨u', e2, h2⟩ => by
      obtain ⟨⟨du, hu⟩, _⟩ := id h1
      obtain ⟨⟨du', hu'⟩, _⟩ := id h2
      exact ⟨u, u', du, du', _, _, e1, e2, hu, hu', a, h1, h2⟩
    refine ⟨.ref x, rfl, x, CB, dx, _, _, rfl, I1.ob, cl, nK _ (by simp), l4, .ref y, rfl, y, CB, dx', _, _, rfl, J1.ob, cl, nK _ (by simp), m4, ⟨dd, dd', od, od', ds, ds', rfl, rfl, I1.doors, J1.doors, ed1, ed2⟩, fun H2 s2 => ⟨true, rfl, iteT ?_⟩⟩
    have s2 : Same H1 H2 := s2
    have I2 := I1.same s2
    have J2 := J1.same s2
    refine ⟨.ref x, rfl, x, CB, dx, _, _, rfl, I2.ob, cl, nK _ (by simp), l5, .ref y, rfl, y, CB, dx', _, _, rfl, J2.ob, cl, nK _ (by simp), m5, _, _, .tup I2.pn (dp_strs _), .tup J2.pn (dp_strs _), shaped_strsT nmP, shaped_strsT nmP, true, by rw [eqv_tups, decide_eq_true rfl], iteT ?_⟩
    obtain ⟨ep1, ep2⟩ := same_tab (D := DIns CP (rPers K CP)) (H := H2) bok.pnd I2.peopleT J2.peopleT fun v v' a ⟨u, e1, h1⟩ ⟨u', e2, h2⟩ => by
      obtain ⟨⟨du, _, _, _, hu, _⟩, _⟩ := id h1
      obtain ⟨⟨du', _, _, _, hu', _⟩, _⟩ := id h2
      exact ⟨u, u', du, du', _, _, e1, e2, hu, hu', a, h1, h2⟩
    exact ⟨.ref x, rfl, x, CB, dx, _, _, rfl, I2.ob, cl, nK _ (by simp), l6, .ref y, rfl, y, CB, dx', _, _, rfl, J2.ob, cl, nK _ (by simp), m6, ⟨pd, pd', op, op', ps, ps', rfl, rfl, I2.people, J2.people, ep1, ep2⟩, fun H3 s3 => q _ (s1.trans (s2.trans s3))⟩
end
end Lk
set_option Elab.async false
set_option linter.all false
set_option maxRecDepth 100000
set_option maxHeartbeats 4000000
/-! Trails as data: the rooms of a tuple of doors, the first door that can follow, the trail of first doors. -/
namespace Lk
open PySem PySem.Spec PyProof.Rows L2 TxS LkO LkG
def roomsFrom (b : BldD) (p : PersonD) (ls : List Str) : List Str → List Str → Option (List Str)
  | rooms, [] => some rooms
  | rooms, n :: r => match b.doors.lookup n with
    | none => none
    | some d => match addOf b p ls rooms (n, d) with
      | none => none
      | some e => roomsFrom b p ls (rooms ++ [e]) r
def roomsOf (b : BldD) (p : PersonD) (ls tr : List Str) : Option (List Str) := roomsFrom b p ls [p.a] tr
def stepOf (b : BldD) (p : PersonD) (ls rooms : List Str) : Option (Str × Str) := b.doors.findSome? fun q => (addOf b p ls rooms q).map fun e => (q.1, e)
def trailFrom (b : BldD) (p : PersonD) (ls : List Str) : Nat → List Str → List Str
  | 0, _ => []
  | k + 1, rooms => match stepOf b p ls rooms with
    | none => []
    | some (n, e) => n :: trailFrom b p ls k (rooms ++ [e])
def trailOf (b : BldD) (p : PersonD) (ls : List Str) : List Str := trailFrom b p ls 6 [p.a]
section
variable {b : BldD} {p : PersonD} {ls rooms tr : List Str}
theorem step_some {n e : Str} (h : stepOf b p ls rooms = some (n, e)) : ∃ d, (n, d) ∈ b.doors ∧ addOf b p ls rooms (n, d) = some e := by
  unfold stepOf at h
  obtain ⟨q, hq, he⟩ := List.exists_of_findSome?_eq_some h
  cases ha : addOf b p ls rooms q with
  | none =>
    rw [ha] at he
    cases he
  | some z =>
    rw [ha] at he
    cases he
    exact ⟨q.2, hq, ha⟩
theorem step_none : stepOf b p ls rooms = none ↔ beyondOf b p ls rooms = [] := by
  unfold stepOf beyondOf
  rw [List.findSome?_eq_none_iff, List.filterMap_eq_nil_iff]
  refine forall_congr' fun q => forall_congr' fun _ => ?_
  cases addOf b p ls rooms q <;> simp
theorem add_new {n e : Str} {d : DoorD} (h : addOf b p ls rooms (n, d) = some e) : e ∉ rooms := (add_iff.mp h).2.2.elim fun _ h => h.2.2
theorem add_in (ok : b.ok) {n e : Str} {d : DoorD} (hm : (n, d) ∈ b.doors) (h : addOf b p ls rooms (n, d) = some e) : e ∈ b.rooms := by
  obtain ⟨_, _, r, hw, _, _⟩ := add_iff.mp h
  exact (ways_in ok hm hw).2
theorem add_beyond {n e : Str} {d : DoorD} (hm : (n, d) ∈ b.doors) (h : addOf b p ls rooms (n, d) = some e) : e ∈ beyondOf b p ls rooms := List.mem_filterMap.mpr ⟨(n, d), hm, h⟩
theorem left_one (ok : b.ok) {n e : Str} {d : DoorD} (hm : (n, d) ∈ b.doors) (h : addOf b p ls rooms (n, d) = some e) : leftOf b (rooms ++ [e]) < leftOf b rooms := by
  unfold leftOf
  refine filt_lt (z := e) (add_in ok hm h) (fun y hy => ?_) (by simp [add_new h]) (by simp)
  simp only [List.mem_append, Bool.not_eq_eq_eq_not, Bool.not_true, decide_eq_false_iff_not, not_or] at hy ⊢
  exact hy.1
theorem trail_fuel (ok : b.ok) : ∀ (k j : Nat) (rooms : List Str), leftOf b rooms ≤ k → leftOf b rooms ≤ j → trailFrom b p ls k rooms = trailFrom b p ls j rooms
  | 0, 0, _, _, _ => rfl
  | 0, j + 1, rooms, h, _ => by
    show [] = match stepOf b p ls rooms with | none => [] | some (n, e) => n :: trailFrom b p ls j (rooms ++ [e])
    cases hs : stepOf b p ls rooms with
    | none => rfl
    | some q =>
      obtain ⟨d, hm, ha⟩ := step_some (n := q.1) (e := q.2) hs
      have := left_one ok hm ha
      omega
  | k + 1, 0, rooms, _, h => by
    show (match stepOf b p ls rooms with | none => [] | some (n, e) => n :: trailFrom b p ls k (rooms ++ [e])) = []
    cases hs : stepOf b p ls rooms with
    | none => rfl
    | some q =>
      obtain ⟨d, hm, ha⟩ := step_some (n := q.1) (e := q.2) hs
      have := left_one ok hm ha
      omega
  | k + 1, j + 1, rooms, h1, h2 => by
    show (match stepOf b p ls rooms with | none => [] | some (n, e) => n :: trailFrom b p ls k (rooms ++ [e])) = match stepOf b p ls rooms with | none => [] | some (n, e) => n :: trailFrom b p ls j (rooms ++ [e])
    cases hs : stepOf b p ls rooms with
    | none => rfl
    | some q =>
      obtain ⟨d, hm, ha⟩ := step_some (n := q.1) (e := q.2) hs
      have := left_one ok hm ha
      show q.1 :: _ = q.1 :: _
      rw [trail_fuel ok k j (rooms ++ [q.2]) (by omega) (by omega)]
theorem trail_none {k : Nat} (h : stepOf b p ls rooms = none) : trailFrom b p ls k rooms = [] := by
  cases k with
  | zero => rfl
  | succ k =>
    show (match stepOf b p ls rooms with | none => [] | some (n, e) => n :: trailFrom b p ls k (rooms ++ [e])) = []
    rw [h]
theorem trail_some (ok : b.ok) {n e : Str} (h : stepOf b p ls rooms = some (n, e)) : trailFrom b p ls 6 rooms = n :: trailFrom b p ls 6 (rooms ++ [e]) := by
  obtain ⟨d, hm, ha⟩ := step_some h
  have h1 := left_one ok hm ha
  have h2 := left_le b ok rooms
  show (match stepOf b p ls rooms with | none => [] | some (n, e) => n :: trailFrom b p ls 5 (rooms ++ [e])) = _
  rw [h]
  show n :: _ = _
  rw [trail_fuel ok 5 6 (rooms ++ [e]) (by omega) (by omega)]
theorem look_of (ok : b.ok) {n : Str} {d : DoorD} (hm : (n, d) ∈ b.doors) : b.doors.lookup n = some d := look_at ok.dnd hm
/-- what a trail of first doors gives -/
theorem trail_rooms (ok : b.ok) : ∀ (k : Nat) (rooms : List Str), leftOf b rooms ≤ k → ∃ R, roomsFrom b p ls rooms (trailFrom b p ls k rooms) = some R ∧ beyondOf b p ls R = []
  | 0, rooms, h => by
    refine ⟨rooms, rfl, step_none.mp ?_⟩
    cases hs : stepOf b p ls rooms with
    | none => rfl
    | some q =>
      obtain ⟨d, hm, ha⟩ := step_some (n := q.1) (e := q.2) hs
      have := left_one ok hm ha
      omega
  | k + 1, rooms, h => by
    cases hs : stepOf b p ls rooms with
    | none =>
      refine ⟨rooms, ?_, step_none.mp hs⟩
      rw [trail_none hs]
      rfl
    | some q =>
      obtain ⟨n, e⟩ := q
      obtain ⟨d, hm, ha⟩ := step_some hs
      have := left_one ok hm ha
      obtain ⟨R, h1, h2⟩ := trail_rooms ok k (rooms ++ [e]) (by omega)
      refine ⟨R, ?_, h2⟩
      show roomsFrom b p ls rooms (match stepOf b p ls rooms with | none => [] | some (n, e) => n :: trailFrom b p ls k (rooms ++ [e])) = _
      rw [hs]
      show (match b.doors.lookup n with | none => none | some d => match addOf b p ls rooms (n, d) with | none => none | some e => roomsFrom b p ls (rooms ++ [e]) _) = _
      rw [look_of ok hm]
      show (match addOf b p ls rooms (n, d) with | none => none | some e => roomsFrom b p ls (rooms ++ [e]) _) = _
      rw [ha]
      exact h1
theorem rooms_app : ∀ (tr tr' rooms : List Str), roomsFrom b p ls rooms (tr ++ tr') = (roomsFrom b p ls rooms tr).bind fun R => roomsFrom b p ls R tr'
  | [], _, _ => rfl
  | n :: r, tr', rooms => by
    show (match b.doors.lookup n with | none => none | some d => match addOf b p ls rooms (n, d) with | none => none | some e => roomsFrom b p ls (rooms ++ [e]) (r ++ tr')) = (match b.doors.lookup n with | none => none | some d => match addOf b p ls rooms (n, d) with | none => none | some e => roomsFrom b p ls (rooms ++ [e]) r).bind _
    cases b.doors.lookup n with
    | none => rfl
    | some d =>
      show (match addOf b p ls rooms (n, d) with | none => none | some e => roomsFrom b p ls (rooms ++ [e]) (r ++ tr')) = (match addOf b p ls rooms (n, d) with | none => none | some e => roomsFrom b p ls (rooms ++ [e]) r).bind _
      cases addOf b p ls rooms (n, d) with
      | none => rfl
      | some e => exact rooms_app r tr' _
theorem rooms_one {n e : Str} {d : DoorD} (hl : b.doors.lookup n = some d) (ha : addOf b p ls rooms (n, d) = some e) : roomsFrom b p ls rooms [n] = some (rooms ++ [e]) := by
  show (match b.doors.lookup n with | none => none | some d => match addOf b p ls rooms (n, d) with | none => none | some e => roomsFrom b p ls (rooms ++ [e]) []) = _
  rw [hl]
  show (match addOf b p ls rooms (n, d) with | none => none | some e => roomsFrom b p ls (rooms ++ [e]) []) = _
  rw [ha]
  rfl
theorem rooms_noOne {n : Str} {d : DoorD} (hl : b.doors.lookup n = some d) (ha : addOf b p ls rooms (n, d) = none) : roomsFrom b p ls rooms [n] = none := by
  show (match b.doors.lookup n with | none => none | some d => match addOf b p ls rooms (n, d) with | none => none | some e => roomsFrom b p ls (rooms ++ [e]) []) = _
  rw [hl]
  show (match addOf b p ls rooms (n, d) with | none => none | some e => roomsFrom b p ls (rooms ++ [e]) []) = _
  rw [ha]
/-- the rooms of a trail: different ones, of the reach, with the start -/
structure Path (b : BldD) (p : PersonD) (ls rooms : List Str) : Prop where
  nd : rooms.Nodup
  rch : ∀ z ∈ rooms, Rch b p ls z
  st : p.a ∈ rooms
theorem Path.one : Path b p ls [p.a] := ⟨by simp, fun z hz => by rw [List.mem_singleton.mp hz]; exact .start, by simp⟩
theorem Path.add (h : Path b p ls rooms) {n e : Str} {d : DoorD} (hm : (n, d) ∈ b.doors) (ha : addOf b p ls rooms (n, d) = some e) : Path b p ls (rooms ++ [e]) := by
  refine ⟨List.nodup_append.mpr ⟨h.nd, by simp, fun x hx y hy => ?_⟩, fun z hz => ?_, List.mem_append_left _ h.st⟩
  · rw [List.mem_singleton.mp hy]
    intro e'
    exact add_new ha (e' ▸ hx)
  · rcases List.mem_append.mp hz with c | c
    · exact h.rch z c
    · rw [List.mem_singleton.mp c]
      exact beyond_sound h.rch _ (add_beyond hm ha)
theorem path_of : ∀ (tr rooms : List Str) {R : List Str}, Path b p ls rooms → roomsFrom b p ls rooms tr = some R → Path b p ls R
  | [], _, _, h, e => by
    cases e
    exact h
  | n :: r, rooms, R, h, e => by
    have e : (match b.doors.lookup n with | none => none | some d => match addOf b p ls rooms (n, d) with | none => none | some e => roomsFrom b p ls (rooms ++ [e]) r) = some R := e
    cases hl : b.doors.lookup n with
    | none =>
      rw [hl] at e
      cases e
    | some d =>
      rw [hl] at e
      have e : (match addOf b p ls rooms (n, d) with | none => none | some e => roomsFrom b p ls (rooms ++ [e]) r) = some R := e
      cases ha : addOf b p ls rooms (n, d) with
      | none =>
        rw [ha] at e
        cases e
      | some z =>
        rw [ha] at e
        exact path_of r _ (h.add (look_mem hl) ha) e
theorem Path.len (ok : b.ok) {n : Str} (hp : (n, p) ∈ b.people) (h : Path b p ls rooms) : rooms.length ≤ 6 := by
  have h1 : ∀ z ∈ rooms, z ∈ b.rooms := fun z hz => rch_in ok hp (h.rch z hz)
  exact Nat.le_trans (List.Nodup.length_le_of_subset h.nd h1) ok.r6
/-- complete: all of the reach -/
theorem Path.full (h : Path b p ls rooms) {L : List Str} (nd : L.Nodup) (hL : ∀ z, z ∈ L ↔ Rch b p ls z) : beyondOf b p ls rooms = [] ↔ rooms.length = L.length := by
  constructor
  · intro e
    exact len_same h.nd nd fun z => ⟨fun hz => (hL z).2 (h.rch z hz), fun hz => beyond_done h.st e ((hL z).1 hz)⟩
  · intro e
    have sub : rooms ⊆ L := fun z hz => (hL z).2 (h.rch z hz)
    have all : ∀ z ∈ L, z ∈ rooms := fun z hz => by
      refine Classical.byContradiction fun hn => ?_
      have h1 : (z :: rooms).Nodup := List.nodup_cons.mpr ⟨hn, h.nd⟩
      have h2 : z :: rooms ⊆ L := fun y hy => (List.mem_cons.mp hy).elim (fun e => e ▸ hz) fun hy => sub hy
      have := List.Nodup.length_le_of_subset h1 h2
      rw [List.length_cons] at this
      omega
    refine List.eq_nil_iff_forall_not_mem.mpr fun e he => ?_
    have h1 := beyond_sound h.rch e he
    obtain ⟨_, _, _, _, _, _, _, _, hn⟩ := mem_beyond.mp he
    exact hn (all e ((hL e).2 h1))
end
theorem trail_sub {b : BldD} {p : PersonD} {ls : List Str} : ∀ (k : Nat) (rooms : List Str), (trailFrom b p ls k rooms).length ≤ k ∧ ∀ z ∈ trailFrom b p ls k rooms, z ∈ b.doors.map (·.1)
  | 0, _ => ⟨Nat.le_refl _, fun _ h => by cases h⟩
  | k + 1, rooms => by
    show (match stepOf b p ls rooms with | none => [] | some (n, e) => n :: trailFrom b p ls k (rooms ++ [e])).length ≤ _ ∧ ∀ z ∈ (match stepOf b p ls rooms with | none => [] | some (n, e) => n :: trailFrom b p ls k (rooms ++ [e])), _
    cases hs : stepOf b p ls rooms with
    | none => exact ⟨Nat.zero_le _, fun _ h => by cases h⟩
    | some qn =>
      obtain ⟨n, e⟩ := qn
      obtain ⟨d, hm, _⟩ := step_some hs
      obtain ⟨h1, h2⟩ := trail_sub (b := b) (p := p) (ls := ls) k (rooms ++ [e])
      refine ⟨Nat.succ_le_succ h1, fun z hz => ?_⟩
      rcases List.mem_cons.mp hz with c | c
      · rw [c]
        exact List.mem_map.mpr ⟨(n, d), hm, rfl⟩
      · exact h2 z c
theorem trail_comp {b : BldD} (ok : b.ok) (p : PersonD) (ls : List Str) : ∃ R, roomsOf b p ls (trailOf b p ls) = some R ∧ beyondOf b p ls R = [] := trail_rooms ok 6 [p.a] (left_le b ok _)
end Lk
-- fit
set_option Elab.async false
set_option linter.all false
set_option maxRecDepth 100000
set_option maxHeartbeats 4000000
namespace Lk
open PySem PySem.Spec PyProof.Rows L2 TxS LkO LkG
section
variable {P : Program} {w : World} {K : PySem.W.Frag} {mg : Str → Option Value} {base : Heap} {CD CP CB CL : Addr}
theorem rooms_cons {b : BldD} {p : PersonD} {ls rooms r : List Str} {n : Str} {d : DoorD} (hl : b.doors.lookup n = some d) : roomsFrom b p ls rooms (n :: r) = match addOf b p ls rooms (n, d) with
    | none => none
    | some e => roomsFrom b p ls (rooms ++ [e]) r := by
  show (match b.doors.lookup n with | none => none | some d => match addOf b p ls rooms (n, d) with | none => none | some e => roomsFrom b p ls (rooms ++ [e]) r) = _
  rw [hl]
theorem was_new {H H' : Hp} {a : Addr} (s : Same H H') (h : H' a = none) : H a = none := by
  cases e : H a with
  | none => rfl
  | some o =>
    have := s _ _ e
    rw [h] at this
    cases this
theorem name_look {b : BldD} {n : Str} (h : n ∈ b.doors.map (·.1)) (nd : (b.doors.map (·.1)).Nodup) : ∃ d, b.doors.lookup n = some d ∧ (n, d) ∈ b.doors := by
  obtain ⟨⟨n', d⟩, hm, rfl⟩ := List.mem_map.mp h
  exact ⟨d, look_at nd hm, hm⟩
/-- one more in a tuple of texts -/
theorem cat_one {K : PySem.W.Frag} {H : Hp} {tl p1 : Addr} {tr : List Str} {n : Str} {C : VK} (h1 : SqT K H tl (tr.map V.str)) (h2 : H p1 = some (.tup [.str n])) (few : tr.length ≤ 1000) (h : ∀ H' t, Same H H' → SqT K H' t ((tr ++ [n]).map V.str) → C (.ref t) H') : rCatA K (.ref tl) (.ref p1) H C := by
  refine ⟨tl, p1, tr.map V.str, [.str n], rfl, rfl, h1, .inl (.inl h2), ?_, fun e => ?_, fun _ e => (by cases e), fun _ _ p np => ?_⟩
  · rw [List.length_map, sizeLine_eq]
    simp only [List.length_singleton]
    omega
  · have e : tr = [] := List.map_eq_nil_iff.mp e
    subst e
    exact h _ _ (Same.refl _) (.inl (.inl h2))
  · refine h _ _ (same_new np) (.inl (.inl ?_))
    rw [upd_same, List.map_append]
    rfl
/-! ### rooms_of -/
def spRoomsOf (K : PySem.W.Frag) (CD CP CB CL : Addr) : Sp := fun vs H Q _ => ∃ (x y z t : Addr) (b : BldD) (p : PersonD) (ls tr : List Str), vs = [.ref x, .ref y, .ref z, .ref t] ∧ BldAt K CD CP CB H x b ∧ PersonAt K CP H y p ∧ LkAt CL H z ls ∧ SqT K H t (tr.map V.str) ∧ tr.length ≤ 1000 ∧ (∀ n ∈ tr, n ∈ b.doors.map (·.1)) ∧
  (roomsOf b p ls tr = none → ∀ H', Same H H' → Q .non H') ∧ ∀ R, roomsOf b p ls tr = some R → ∀ H' m, Same H H' → H m = none → H' m = some (.lst (R.map V.str)) → Q (.ref m) H'
/-! ### first_step -/
def StepV (b : BldD) (p : PersonD) (ls rooms : List Str) (H : Hp) (v : V) : Prop := match stepOf b p ls rooms with
  | none => v = .non
  | some q => ∃ m, v = .ref m ∧ H m = some (.tup [.str q.1, .str q.2])
theorem StepV.same {b : BldD} {p : PersonD} {ls rooms : List Str} {H H' : Hp} {v : V} (h : StepV b p ls rooms H v) (s : Same H H') : StepV b p ls rooms H' v := by
  unfold StepV at h ⊢
  cases hs : stepOf b p ls rooms with
  | none =>
    rw [hs] at h
    exact h
  | some q =>
    rw [hs] at h
    obtain ⟨m, e, hm⟩ := h
    exact ⟨m, e, s _ _ hm⟩
theorem step_at {b : BldD} {p : PersonD} {ls rooms : List Str} {i : Nat} {n e : Str} {d : DoorD} (h0 : ∀ q ∈ b.doors.take i, addOf b p ls rooms q = none) (hi : b.doors[i]? = some (n, d)) (ha : addOf b p ls rooms (n, d) = some e) : stepOf b p ls rooms = some (n, e) := by
  unfold stepOf
  have hlt := (List.getElem?_eq_some_iff.mp hi)
  have hd : b.doors.drop i = (n, d) :: b.doors.drop (i + 1) := by
    rw [← hlt.2]
    exact List.drop_eq_getElem_cons hlt.1
  rw [← List.take_append_drop i b.doors, List.findSome?_append, List.findSome?_eq_none_iff.mpr fun q hq => by rw [h0 q hq]; rfl, hd, List.findSome?_cons, ha]
  rfl
theorem step_no {b : BldD} {p : PersonD} {ls rooms : List Str} (h0 : ∀ q ∈ b.doors, addOf b p ls rooms q = none) : stepOf b p ls rooms = none := by
  unfold stepOf
  exact List.findSome?_eq_none_iff.mpr fun q hq => by rw [h0 q hq]; rfl
def spStep (K : PySem.W.Frag) (CD CP CB CL : Addr) : Sp := fun vs H Q _ => ∃ (x y z l : Addr) (b : BldD) (p : PersonD) (ls rooms : List Str), vs = [.ref x, .ref y, .ref z, .ref l] ∧ BldAt K CD CP CB H x b ∧ PersonAt K CP H y p ∧ LkAt CL H z ls ∧ SqL K H l (rooms.map V.str) ∧
  ∀ H' v, Same H H' → StepV b p ls rooms H' v → Q v H'
/-! ### trail_of -/
def spTrailOf (K : PySem.W.Frag) (CD CP CB CL : Addr) : Sp := fun vs H Q _ => ∃ (x z : Addr) (b : BldD) (n : Str) (p : PersonD) (ls : List Str), vs = [.ref x, .str n, .ref z] ∧ BldAt K CD CP CB H x b ∧ b.people.lookup n = some p ∧ LkAt CL H z ls ∧ ls.length ≤ 1000 ∧ (∀ z ∈ ls, z ∈ b.doors.map (·.1)) ∧
  ∀ H' t, Same H H' → SqT K H' t ((trailOf b p ls).map V.str) → Q (.ref t) H'
end
end Lk
-- fit
set_option Elab.async false
set_option linter.all false
set_option maxRecDepth 100000
set_option maxHeartbeats 4000000
namespace Lk
open PySem PySem.Spec PyProof.Rows L2 TxS LkO LkG
/-- the trail cut at the first wanted room -/
def intoOf (b : BldD) (p : PersonD) (ls ws : List Str) : Option (List Str) := ((roomsOf b p ls (trailOf b p ls)).bind fun R => R.findIdx? fun r => decide (r ∈ ws)).map fun i => (trailOf b p ls).take i
section
variable {P : Program} {w : World} {K : PySem.W.Frag} {mg : Str → Option Value} {base : Heap} {CD CP CB CL : Addr}
/-! ### trail_into -/
def spInto (K : PySem.W.Frag) (CD CP CB CL : Addr) : Sp := fun vs H Q _ => ∃ (x z wv : Addr) (b : BldD) (n : Str) (p : PersonD) (ls ws : List Str), vs = [.ref x, .str n, .ref z, .ref wv] ∧ BldAt K CD CP CB H x b ∧ b.people.lookup n = some p ∧ LkAt CL H z ls ∧ ls.length ≤ 1000 ∧ (∀ z ∈ ls, z ∈ b.doors.map (·.1)) ∧ SqT K H wv (ws.map V.str) ∧
  (intoOf b p ls ws = none → ∀ H', Same H H' → Q .non H') ∧ ∀ tr, intoOf b p ls ws = some tr → ∀ H' t, Same H H' → SqT K H' t (tr.map V.str) → Q (.ref t) H'
abbrev nInto : List Str := ["building", "name", "locks", "wanted", "trail", "at", "room"]
end
end Lk
-- fit
set_option Elab.async false
set_option linter.all false
set_option maxRecDepth 100000
set_option maxHeartbeats 4000000
namespace Lk
open PySem PySem.Spec PyProof.Rows L2 TxS LkO LkG
section
variable {P : Program} {w : World} {K : PySem.W.Frag} {mg : Str → Option Value} {base : Heap} {CD CP CB CL : Addr}
/-! ### price -/
def priceOf (b : BldD) (ls : List Str) : Int := (ls.map fun n => match b.doors.lookup n with
  | some d => d.cost
  | none => 0).sum
def spPrice (K : PySem.W.Frag) (CD CP CB CL : Addr) : Sp := fun vs H Q _ => ∃ (x z : Addr) (b : BldD) (ls : List Str), vs = [.ref x, .ref z] ∧ BldAt K CD CP CB H x b ∧ LkAt CL H z ls ∧ ls.length ≤ 1000 ∧ (∀ z ∈ ls, z ∈ b.doors.map (·.1)) ∧ ∀ H', Same H H' → Q (.int (priceOf b ls)) H'
/-! ### is_right -/
end
end Lk
set_option Elab.async false
set_option linter.all false
set_option maxRecDepth 100000
set_option maxHeartbeats 4000000
/-! sorted(xs, key=f), f a def or a lambda of ours that gives whole numbers. -/
namespace LkS
open PySem PySem.Spec PyProof.Rows L2 TxS LkO Lk LkG PySem.W
section
variable {X : Cx} {pins : List (Addr × Obj)} {σ : L2.St} {H : Hp} {s : Shared}
/-- the object at a comes to be a list of ours -/
theorem adopt {h' : Heap} {t' : Nat} {ch : List Addr} {a : Addr} {o : HO} (I : Inv X pins σ H s) (ha : a ∈ ch) (k : ∀ b u, b ∉ ch → s.heap.get? b = some u → h'.get? b = some u) (hf : ∀ b ∈ ch, FpOk X pins H b) (new : ObjOk X.prog X.w (upd H a o) h' a o) (nt : ∀ qs, o ≠ .tbl qs) :
    Inv X pins σ (upd H a o) { s with heap := h', toks := t' } := by
  have nit : ∀ b u, H b = some u → b ∉ ch := fun b u e z => by
    have q := (hf b z).1
    rw [q] at e; cases e
  have nea : ∀ b u, H b = some u → b ≠ a := fun b u e z => nit b u e (by rw [z]; exact ha)
  refine I.step (g' := s.gens) (d' := s.drawn) (ch := ch) (fun b hb => ⟨(hf b hb).2.2.2.1, (hf b hb).2.1, (hf b hb).2.2.2.2.1, (hf b hb).2.2.2.2.2⟩) (fun b o _ _ hc e _ => k b o hc e) (fun b o _ _ hc e _ => ⟨o.slots, k b o hc e⟩)
    (fun b u hc _ n => by rw [upd_ne (fun z => hc (by rw [z]; exact ha))]; exact n) (fun b o hc e => ⟨o, k b o hc e⟩) (fun b xs e => by rw [upd_ne (nea b _ e)]; exact e) (fun b u v e => by rw [upd_ne (nea b _ e)]; exact e) (fun b ps e => ⟨#[], by rw [upd_ne (nea b _ e), e]; simp⟩) (fun m hm => ?_) (fun b u e => ?_) I.bare
  · obtain ⟨o, es, ep, ho, r⟩ := hm
    exact ⟨o, es, ep, k _ o (fun z => (hf _ z).2.1 rfl) ho, r⟩
  · by_cases hb : b = a
    · rw [hb, upd_same] at e
      cases e
      rw [hb]
      exact new
    · rw [upd_ne hb] at e
      refine (I.hok b u e).stay (fun c v hc q => k c v ?_ q) (fun c q => by rw [upd_ne (nea c _ q)]; exact q) fun c xs q => by rw [upd_ne (nea c _ q)]; exact q
      rcases hc with z | z
      · rw [z]; exact nit b u e
      · exact nit c _ z
end
end LkS
set_option Elab.async false
set_option linter.all false
set_option maxRecDepth 100000
set_option maxHeartbeats 4000000
/-! sorted(xs, key=f), f of ours, keys whole numbers. -/
namespace LkS
open PySem PySem.Spec PyProof.Rows L2 TxS LkO Lk LkG PySem.W
theorem each_vals : ∀ {xs : List V} {us : List Value}, Vals xs us → EachIs (fun u x => RelV x u) us xs
  | _, _, .nil => .nil
  | _, _, .cons h t => .cons h (each_vals t)
theorem vals_each : ∀ {xs : List V} {us : List Value}, EachIs (fun u x => RelV x u) us xs → Vals xs us
  | _, _, .nil => .nil
  | _, _, .cons h t => .cons h (vals_each t)
theorem vals_at : ∀ {xs : List V} {us : List Value}, Vals xs us → ∀ {j : Nat} {u : Value}, us[j]? = some u → ∃ x, xs[j]? = some x ∧ RelV x u
  | _, _, .nil, j, u, h => by simp at h
  | _, _, .cons r t, 0, u, h => by
    simp only [List.getElem?_cons_zero, Option.some.injEq] at h
    subst h
    exact ⟨_, rfl, r⟩
  | _, _, .cons r t, j + 1, u, h => by
    simp only [List.getElem?_cons_succ] at h ⊢
    exact vals_at t h
theorem ints_snoc : ∀ {vs : List Value} {ns : List Int} (n : Int) (t : Tok), IntsAre vs ns → IntsAre (vs ++ [.int n t]) (ns ++ [n])
  | _, _, n, t, .nil => .cons n t .nil
  | _, _, n, t, .cons m u h => .cons m u (ints_snoc n t h)
theorem ints_len : ∀ {vs : List Value} {ns : List Int}, IntsAre vs ns → vs.length = ns.length
  | _, _, .nil => rfl
  | _, _, .cons _ _ h => by simp [ints_len h]
theorem ints_each {h : Heap} : ∀ {vs : List Value} {ns : List Int}, IntsAre vs ns → EachIs (fun v d => ∃ as, Reads h v d as) vs (ns.map PyData.int)
  | _, _, .nil => .nil
  | _, _, .cons n t r => .cons ⟨_, .int n t⟩ (ints_each r)
section
variable {X : Cx} {pins : List (Addr × Obj)} {σ : L2.St} {H : Hp} {s : Shared}
def leBy {α : Type} (key : α → Int) (a b : α) : Bool := decide (key a ≤ key b)
theorem sortedKey_run {l fq : Addr} {xs : List V} {key : V → Int} {fo : Obj} {W : Hp → Prop} {Q : VK} (I : Inv X pins σ H s) (hs : SqL X.K H l xs) (hf : s.heap.get? fq = some fo) (hfn : H fq = none) (hfL : fq ≠ X.env.locals) (hff : fq ∉ X.fs) (hfc : ∀ v, fo.data ≠ .cell v)
    (hu : X.A.units + 8 < cLine) (hW : W H)
    (turn : ∀ x ∈ xs, ∀ (u : Value) (pins' : List (Addr × Obj)) (s' : Shared) (H' : Hp), RelV x u → Inv X pins' σ H' s' → W H' → s'.heap.get? fq = some fo → H' fq = none →
      wpAny (model X.prog X.w) X.A.in1.in1 (call (.ref fq) [u]) (EP X pins' σ fun v H'' => v = .int (key x) ∧ W H'') (fun _ _ => False) s')
    (q : ∀ (H' : Hp) (p : Addr), W H' → H' p = none → H p = none → Q (.ref p) (upd H' p (.lst (xs.mergeSort (leBy key))))) :
    wpAny (model X.prog X.w) X.A (call (.builtin "sorted") [.ref l] [(Str.ofString "key", .ref fq)]) (EP X pins σ Q) X.xe s := by
  obtain ⟨its, rv, hl, hz⟩ := I.list hs
  have hzi : its.length ≤ sizeLine := by rw [← rv.length]; exact hz
  refine sorted_of_sort hl.isList hzi (ksk_s1 _ _) (fun _ => ksk_l1 _ _) fun E' => ?_
  rw [ksk_t1]
  generalize ea : s.heap.objs.size + 1 = a
  have ho : (copyHeap s.heap its).get? a = some (seqObj "list" its.toArray 0) := by rw [← ea]; exact copyHeap_at s.heap its
  have ha : a < (copyHeap s.heap its).objs.size := Heap.lt_size ho
  obtain ⟨e1, ho1⟩ : ∃ e1, ((copyHeap s.heap its).update a (Obj.mapSeq fun _ => (#[] : Array Value))).get? a = some (seqObj "list" #[] e1) := ⟨_, get?_update_seq ho fun _ => #[]⟩
  have hkS : (((copyHeap s.heap its).update a (Obj.mapSeq fun _ => (#[] : Array Value))).push (seqObj "tuple" its.toArray 0)).objs.size = (copyHeap s.heap its).objs.size + 1 := by rw [size_push', Heap.size_update]
  unfold ksk_tree
  refine wpAny_bind (listItems_at ho rfl ?_)
  refine wpAny_bind (listUpdate_at ho rfl ?_ (by rw [List.size_toArray]; exact hzi) (Nat.zero_le _))
  refine wpAny_bind (seqEpoch_at ho1 rfl ?_)
  refine wpAny_bind (wpAny_newTuple ?_ (by show its.length ≤ _; exact hzi))
  refine wpAny_bind (wpAny_newList ?_ (Nat.zero_le _))
  refine wpAny_holding ?_
  generalize ek : (((copyHeap s.heap its).update a (Obj.mapSeq fun _ => (#[] : Array Value))).push (seqObj "tuple" its.toArray 0)).objs.size = kS
  have hka : kS ≠ a := by rw [← ek, hkS]; exact Nat.ne_of_gt (Nat.lt_succ_of_lt ha)
  have old : ∀ b o, s.heap.get? b = some o → ((((copyHeap s.heap its).update a (Obj.mapSeq fun _ => (#[] : Array Value))).push (seqObj "tuple" its.toArray 0)).push (seqObj "list" #[] 0)).get? b = some o := fun b o e => by
    have hlt := Heap.lt_size e
    exact sortingHeap_old (a := a) (vs := its) (by rw [← ea]; exact Nat.ne_of_lt (Nat.lt_succ_of_lt hlt)) (copyHeap_old e)
  have I0 : Inv X pins σ H { s with heap := (((copyHeap s.heap its).update a (Obj.mapSeq fun _ => (#[] : Array Value))).push (seqObj "tuple" its.toArray 0)).push (seqObj "list" #[] 0) } := I.kept old
  have la : s.heap.objs.size ≤ a := by rw [← ea]; exact Nat.le_succ _
  have lk : s.heap.objs.size ≤ kS := by
    rw [← ek, hkS]
    have : s.heap.objs.size < (copyHeap s.heap its).objs.size := Nat.lt_of_le_of_lt la ha
    omega
  have fa0 : FpOk X pins H a := I.fpOk la (I.hok.fresh la)
  have fk0 : FpOk X pins H kS := I.fpOk lk (I.hok.fresh lk)
  have nk0 : ((((copyHeap s.heap its).update a (Obj.mapSeq fun _ => (#[] : Array Value))).push (seqObj "tuple" its.toArray 0)).push (seqObj "list" #[] 0)).get? kS = some (seqObj "list" #[] 0) := by
    rw [← ek]; exact Heap.get?_push_size _ rfl
  have na0 : ((((copyHeap s.heap its).update a (Obj.mapSeq fun _ => (#[] : Array Value))).push (seqObj "tuple" its.toArray 0)).push (seqObj "list" #[] 0)).get? a = some (seqObj "list" #[] e1) := Heap.get?_push_of_some _ (Heap.get?_push_of_some _ ho1)
  unfold ksk_rest
  refine wpAny_bind (wpAny_rule ?_)
  first
    | rw [List.forIn_toArray]
    | (rw [← Array.forIn_toList]; simp only [List.toList_toArray])
    | rw [← Array.forIn_toList]
  refine wpAny_bind (ksk_fold (fun i s' => ∃ (H' : Hp) (kA : Array Value) (e : Nat), Inv X pins σ H' s' ∧ W H' ∧ H' kS = none ∧ H' a = none ∧ H' fq = none ∧ s'.heap.get? kS = some (seqObj "list" kA e) ∧ s'.heap.get? a = some (seqObj "list" #[] e1) ∧ s'.heap.get? fq = some fo ∧ IntsAre kA.toList ((xs.map key).take i)) its 0 _
    ⟨H, #[], 0, I0, hW, fk0.1, fa0.1, hfn, nk0, na0, old _ _ hf, by rw [List.take_zero]; exact .nil⟩ ?step ?done)
  case step =>
    rintro j x s' hx ⟨H', kA, e, I', w', fk, fa, fn, nk, na, nf, hk⟩
    simp only [Nat.zero_add] at hk ⊢
    obtain ⟨y, hy, ry⟩ := vals_at rv hx
    have hj : j < xs.length := (List.getElem?_eq_some_iff.mp hy).1
    have hsz : kA.size ≤ xs.length := by
      have h1 := ints_len hk
      rw [Array.length_toList, List.length_take, List.length_map] at h1
      omega
    have Ip : Inv X (pins ++ [(kS, seqObj "list" kA e), (a, seqObj "list" #[] e1), (fq, fo)]) σ H' s' := I'.pins_of fun p hp => by
      rcases List.mem_append.mp hp with z | z
      · exact I'.pin p (List.mem_append_right _ z)
      · simp only [List.mem_cons, List.not_mem_nil, or_false] at z
        rcases z with rfl | rfl | rfl
        · exact ⟨nk, fk, fk0.2.1, fk0.2.2.1, fun v z => by cases z⟩
        · exact ⟨na, fa, fa0.2.1, fa0.2.2.1, fun v z => by cases z⟩
        · exact ⟨nf, fn, hfL, hff, hfc⟩
    refine wpAny_bind (wpAny_attempt (wpAny_mono (turn y (List.mem_of_getElem? hy) x _ s' H' ry Ip w' nf fn) (fun v s'' he => ?_) fun _ _ hF => hF.elim))
    obtain ⟨v', H'', I'', r'', rfl, w''⟩ := he
    obtain ⟨t, rfl⟩ := r''
    have p1 := I''.pin (kS, seqObj "list" kA e) (by simp)
    have p2 := I''.pin (a, seqObj "list" #[] e1) (by simp)
    have p3 := I''.pin (fq, fo) (by simp)
    have s1 := Heap.SameBut.update s''.heap kS (Obj.mapSeq (·.push (.int (key y) t)))
    obtain ⟨c2, hc2⟩ : ∃ c2, (s''.heap.update kS (Obj.mapSeq (·.push (.int (key y) t)))).get? kS = some (seqObj "list" (kA.push (.int (key y) t)) c2) := ⟨_, get?_update_seq p1.1 (·.push (.int (key y) t))⟩
    have hzx : xs.length ≤ sizeLine := hz
    try dsimp only
    refine wpAny_bind (listUpdate_at p1.1 rfl ?_ (Nat.le_trans hsz hzx) (Nat.le_trans (Nat.le_of_eq (Array.size_push ..)) (Nat.succ_le_succ (Nat.le_trans hsz hzx))))
    have I3 : Inv X pins σ H'' { s'' with heap := s''.heap.update kS (Obj.mapSeq (·.push (.int (key y) t))) } :=
      I''.unpinned.turned (it := kS) (t' := s''.toks) (fun b o hb e => (s1.2 b hb).trans e) p1.2.1 fk0.2.1 fk0.2.2.2.1 fk0.2.2.2.2.1 fk0.2.2.2.2.2
    have hfk : fq ≠ kS := fun z => by
      have h1 := Heap.lt_size hf
      rw [z] at h1
      exact Nat.lt_irrefl _ (Nat.lt_of_lt_of_le h1 lk)
    refine wpAny_pure ⟨rfl, H'', kA.push (.int (key y) t), c2, I3, w'', p1.2.1, p2.2.1, p3.2.1, hc2, (s1.2 a hka.symm).trans p2.1, (s1.2 fq hfk).trans p3.1, ?_⟩
    have ekk : (xs.map key).take (j + 1) = (xs.map key).take j ++ [key y] := take_next hy
    have eaa : (kA.push (Value.int (key y) t)).toList = kA.toList ++ [.int (key y) t] := by simp
    rw [ekk, eaa]
    exact ints_snoc _ _ hk
  case done =>
    rintro s' ⟨H', kA, e, I', w', fk, fa, fn, nk, na, nf, hk⟩
    have hil : its.length = xs.length := rv.length.symm
    have e3 : (xs.map key).take (0 + its.length) = xs.map key := List.take_of_length_le (by rw [List.length_map]; omega)
    rw [e3] at hk
    have hsz : kA.size = its.length := by
      have h1 := ints_len hk
      rw [Array.length_toList, List.length_map] at h1
      omega
    try dsimp only
    refine wpAny_bind (listItems_at nk rfl ?_)
    obtain ⟨G, g1, g2⟩ := restrict s'.heap fun b => decide (b ≠ kS)
    have kz : (xs.map key).map PyData.int = xs.map fun x => PyData.int (key x) := by rw [List.map_map]; rfl
    have hk' : EachIs (fun v d => ∃ as, Reads s'.heap v d as) kA.toList (xs.map fun x => PyData.int (key x)) := by
      rw [← kz]; exact ints_each hk
    have hal : AllAlike (xs.map fun x => PyData.int (key x)) := fun d hd d' hd' => by
      obtain ⟨x, _, rfl⟩ := List.mem_map.mp hd
      obtain ⟨y, _, rfl⟩ := List.mem_map.mp hd'
      simp [alike]
    have hsk : Sortable (xs.map fun x => PyData.int (key x)) := Sortable.others fun b => ⟨fun z => (by cases z), fun xs z => (by cases z)⟩
    have hun : ∀ d ∈ (xs.map fun x => PyData.int (key x)), X.A.in1.in1.units + d.depth < cLine := fun d hd => by
      obtain ⟨x, _, rfl⟩ := List.mem_map.mp hd
      have : X.A.in1.in1.units = X.A.units + 2 := rfl
      rw [this]
      simp only [PyData.depth]
      omega
    refine keyH_end (κ := dataKind s'.heap (xs.map fun x => PyData.int (key x))) (h₁ := G) (vs := its) (fun b o hb hg => ?_) (g2 kS (by simp)) nk na hka (SortsAt.data hk' hal hsk hun) hsz hzi fun h3 tk3 c k3 n3 => ⟨rfl, ?_⟩
    · by_cases hbk : b = kS
      · rw [hbk, g2 kS (by simp)] at hg
        cases hg
      · rw [g1 b (by simp [hbk])] at hg
        exact hg
    · have ko : KeyedOut false (xs.map fun x => PyData.int (key x)) its (sortVals (dataKind s'.heap (xs.map fun x => PyData.int (key x))) false kA.toList its) := ⟨s'.heap, kA.toList, hal, rfl, hk'⟩
      have eo := keyedOut_each (fun x => PyData.int (key x)) ko (each_vals rv)
      rw [dataLe_int] at eo
      have ro := vals_each eo
      have keep : ∀ b o, b ∉ [a, kS] → s'.heap.get? b = some o → h3.get? b = some o := fun b o hb e => by
        have h1 : b ≠ a := fun z => hb (by simp [z])
        have h2 : b ≠ kS := fun z => hb (by simp [z])
        exact k3 b o h1 (by rw [g1 b (by simp [h2])]; exact e)
      have fa' : FpOk X pins H' a := ⟨fa, fa0.2⟩
      have fk' : FpOk X pins H' kS := ⟨fk, fk0.2⟩
      refine ⟨.ref a, _, adopt (t' := tk3) (ch := [a, kS]) (o := .lst (xs.mergeSort (leBy key))) I' (by simp) keep (fun b hb => ?_) ⟨?_, _, c, ro, n3⟩ (fun qs z => by cases z), rfl, q H' a w' fa fa0.1⟩
      · simp only [List.mem_cons, List.not_mem_nil, or_false] at hb
        rcases hb with rfl | rfl
        · exact fa'
        · exact fk'
      · rw [List.length_mergeSort]
        exact hz
end
end LkS
set_option Elab.async false
set_option linter.all false
set_option maxRecDepth 100000
set_option maxHeartbeats 4000000
/-! sorted(xs), xs tuples of whole numbers, the first of them empty. -/
namespace LkS
open PySem PySem.Spec PyProof.Rows L2 TxS LkO Lk LkG PySem.W PySem.SeqAt
section
variable {A : Around} {s : Shared}
theorem call_tuple_lt {prog : Program} {w : World} {E : Value → Shared → Prop} {Q : Value → Shared → Prop} {l b : Addr} {items items2 : Array Value} {e r : Nat → Bool} (hl : s.heap.IsTuple l items) (hb : s.heap.IsTuple b items2)
    (he : ∀ j (h1 : j < items.size) (h2 : j < items2.size), EqAt A.in1 s items[j] items2[j] (e j)) (hr : ∀ j (h1 : j < items.size) (h2 : j < items2.size), e j = false → RcLt A.in1 s items[j] items2[j] (r j))
    (h : Q (.bool (firstLt e r (decide (items.size < items2.size)) (List.range (min items.size items2.size)))) s) : wpAny (model prog w) A (call (.builtin "tuple.__lt__") [.ref l, .ref b]) Q E s := by
  obtain ⟨⟨cls, dd, data, sl⟩, ho, hc, n, hd⟩ := id hl
  obtain ⟨⟨cls2, dd2, data2, sl2⟩, ho2, hc2, n2, hd2⟩ := id hb
  simp only at hc hd hc2 hd2
  subst hc hd hc2 hd2
  exact call_meets F.slot_tuple_lt ⟨_, ho, rfl⟩ F.entry_tuple_lt (F.args_tuple_lt_2 _ _) (tuple_ltAt l b items items2 n n2 dd dd2 sl sl2 e r) ⟨ho, ho2, he, hr, h⟩
end
section
variable {prog : Program} {w : World} {A : Around} {s : Shared} {E : Value → Shared → Prop}
theorem oneLt_tup {xs ys : List PyData} {a b : Value} {as bs : List Addr} {Q : Bool → Shared → Prop} (ra : Reads s.heap a (.tuple xs) as) (rb : Reads s.heap b (.tuple ys) bs) (h : alike (.tuple xs) (.tuple ys) = true)
    (hu : A.units + min (PyData.depth (.tuple xs)) (PyData.depth (.tuple ys)) < cLine) (hq : Q (dataLt (.tuple xs) (.tuple ys)) s) : wpAny (model prog w) A (oneLt' true a b) Q E s := by
  have hal : alikeAll xs ys = true := by simpa [alike] using h
  cases ra with
  | @tuple l o vs n _ as₁ h1 h2 h3 h4 =>
    cases rb with
    | @tuple l' o' vs' n' _ bs₁ k1 k2 k3 k4 =>
      have n1 : vs.size = xs.length := by simpa using ReadsAll.length _ _ _ h4
      have n2 : vs'.size = ys.length := by simpa using ReadsAll.length _ _ _ k4
      rw [dataLt_tuple, ← firstLt_toks xs ys hal, ← n1, ← n2] at hq
      rw [oneLt'_eq]
      simp only [if_true]
      refine wpAny_bind (wpAny_cRoomFor (room_here hu) ?_)
      refine wpAny_bind (wpAny_callSpecialIfBound?_slot (T := "tuple") ⟨_, h1, h2⟩ F.slot_tuple_lt (call_tuple_lt (e := pairEq xs ys) (r := fun j => dataLt (xs.getD j .none) (ys.getD j .none)) ⟨_, h1, h2, _, h3⟩ ⟨_, k1, k2, _, k3⟩ (fun j j1 j2 => ?_) (fun j j1 j2 hj => ?_) ?_))
      · have := eqAt_alikeAll xs ys A.in1 s vs.toList vs'.toList _ _ h4 k4 hal (room_in hu) j (by simpa using j1) (by simpa using j2)
        simpa using this
      · have := rcLt_alikeAll xs ys A.in1 s vs.toList vs'.toList _ _ h4 k4 hal (room_in hu) j (by simpa using j1) (by simpa using j2) hj
        simpa using this
      · exact wpAny_truthy_bool hq
theorem firsts_tups : ∀ (vs : List Value) (ds : List PyData) {Q : List (Option Value) → Shared → Prop}, EachIs (fun v d => ∃ as, Reads s.heap v d as) vs ds → (∀ d ∈ ds, ∃ xs, d = .tuple xs) →
    (∀ fs : List (Option Value), (∀ r, ds = .tuple [] :: r → ∃ fr, fs = none :: fr) → Q fs s) → wpAny (model prog w) A (vs.mapM firstOfTuple') Q E s
  | _, _, Q, .nil, _, h => by
    rw [List.mapM_nil]
    exact wpAny_pure (h [] fun r e => by cases e)
  | _, _, Q, .cons (a := v) (as := vs) (b := d) (bs := ds) ⟨as, r⟩ t, ht, h => by
    rw [List.mapM_cons]
    obtain ⟨xs, rfl⟩ := ht d List.mem_cons_self
    cases r with
    | @tuple l o us n _ as₁ h1 h2 h3 h4 =>
      refine wpAny_bind ?_
      rw [kas_first_eq]
      refine wpAny_bind (Looks.here (show Looks (model prog w) s.heap (typeOf (.ref l)) o.cls from (Looks.ld h1).andThen .now) ?_)
      rw [h2, if_neg (by first | decide | simp)]
      refine wpAny_bind (listItems_at h1 h3 (wpAny_pure ?_))
      refine wpAny_bind (firsts_tups vs ds (Q := fun bs s' => wpAny (model prog w) A (pure (us[0]? :: bs)) Q E s') t (fun d hd => ht d (List.mem_cons_of_mem _ hd)) fun fs _ => wpAny_pure (h _ fun r e => ⟨fs, ?_⟩))
      injection e with e1 e2
      injection e1 with e1
      subst e1
      have : us.toList = [] := by
        cases q : us.toList with
        | nil => rfl
        | cons z zs =>
          rw [q] at h4
          cases h4
      have : us = #[] := by
        rw [← Array.toArray_toList (xs := us), this]
      subst this
      rfl
theorem kind_tups {vs : List Value} {ds : List PyData} {Q : SortKind → Shared → Prop} (e : EachIs (fun v d => ∃ as, Reads s.heap v d as) vs ds) (ht : ∀ d ∈ ds, ∃ xs, d = .tuple xs) (h0 : ∃ r, ds = .tuple [] :: r) (h : Q oneType' s) :
    wpAny (model prog w) A (keyKind' vs.toArray) Q E s := by
  obtain ⟨r, rfl⟩ := h0
  rw [keyKind'_eq, List.mapM_toArray, map_eq_pure_bind]
  refine wpAny_bind (wpAny_bind (firsts_tups vs _ e ht fun fs hfs => wpAny_pure ?_))
  obtain ⟨fr, rfl⟩ := hfs r rfl
  rw [if_neg (by simp), if_neg (by simp)]
  have hT : ∀ v ∈ vs, Looks (model prog w) s.heap (typeOf v) (.type "tuple") := fun v hv => by
    obtain ⟨d, hd, as, q⟩ := e.left v hv
    obtain ⟨xs, rfl⟩ := ht d hd
    exact looks_reads q
  rw [oneTypeOnly'_eq, List.mapM_toArray, map_eq_pure_bind]
  refine wpAny_bind (wpAny_bind (wpAny_bind (kas_mapM (r := Value.type "tuple") _ (fun v hv Q' hq => (hT v hv).here hq) (wpAny_pure ?_))))
  cases e with
  | @cons v _ vs' _ q t =>
    have hall : ((List.map (fun _ => Value.type "tuple") (v :: vs')).toArray.all fun x => x == Value.type "tuple") = true := by
      simp only [List.all_toArray, List.all_map, List.all_eq_true]
      intro _ _
      rfl
    have h0 : (List.map (fun _ => Value.type "tuple") (v :: vs')).toArray[0]? = some (Value.type "tuple") := by simp
    rw [h0]
    simp only [hall, if_true]
    exact wpAny_pure (wpAny_pure h)
theorem sortsAt_tups {vs : List Value} {ds : List PyData} (e : EachIs (fun v d => ∃ as, Reads s.heap v d as) vs ds) (hal : AllAlike ds) (ht : ∀ d ∈ ds, ∃ xs, d = .tuple xs) (h0 : ∃ r, ds = .tuple [] :: r) (hu : ∀ d, d ∈ ds → A.units + d.depth < cLine) : SortsAt prog w A s (dataKind s.heap ds) vs := by
  refine ⟨fun v hv => ?_, oneType', ?_, fun h2 E Q hq => kind_tups e ht h0 hq⟩
  · obtain ⟨d, hd, as, r⟩ := e.left v hv
    exact ⟨_, dataKind_some hal hd r⟩
  · intro E x y a b Q ha hb hq
    obtain ⟨d, as, hd, ra, rfl⟩ := dataKind_inv ha
    obtain ⟨d', as', hd', rb, rfl⟩ := dataKind_inv hb
    rw [keyLt'_oneType]
    have al := hal d hd d' hd'
    have room : A.units + min d.depth d'.depth < cLine := Nat.lt_of_le_of_lt (Nat.add_le_add_left (Nat.min_le_left _ _) _) (hu d hd)
    obtain ⟨xs, rfl⟩ := ht d hd
    obtain ⟨ys, rfl⟩ := ht d' hd'
    exact oneLt_tup ra rb al room hq
end
/-- tuples of whole numbers, each with its place -/
abbrev Ixs := Addr × List Int
def ixD (c : Ixs) : PyData := .tuple (c.2.map PyData.int)
def ixLe (a b : Ixs) : Bool := decide (a.2 ≤ b.2)
theorem ixLe_data : dataLe false ixD = ixLe := by
  funext a b
  show (!dataLt (ixD b) (ixD a)) = decide (a.2 ≤ b.2)
  have e : dataLt (ixD b) (ixD a) = decide (b.2 < a.2) := by
    unfold ixD
    rw [dataLt_tuple]
    exact dataLt_ints b.2 a.2
  rw [e]
  by_cases h : b.2 < a.2
  · have h' : ¬ a.2 ≤ b.2 := fun q => List.not_lt.mpr q h
    simp [h, h']
  · have h' : a.2 ≤ b.2 := List.not_lt.mp h
    simp [h, h']
def rSortedT (K : PySem.W.Frag) : List V → Hp → VK → Prop := fun vs H Q => ∃ (a : Addr) (cs : List Ixs), vs = [.ref a] ∧ SqL K H a (cs.map fun c => V.ref c.1) ∧ (∀ c ∈ cs, H c.1 = some (.tup (c.2.map V.int))) ∧ (∃ t r, cs = (t, []) :: r) ∧
  ∀ p, H p = none → Q (.ref p) (upd H p (.lst ((cs.mergeSort ixLe).map fun c => V.ref c.1)))
theorem dp_ints {K : PySem.W.Frag} {H : Hp} : ∀ ns : List Int, DpAll K H (ns.map V.int) (ns.map PyData.int)
  | [] => .nil
  | n :: r => .cons (.int n) (dp_ints r)
theorem each_ref : ∀ {cs : List Ixs} {its : List Value}, Vals (cs.map fun c => V.ref c.1) its → EachIs (fun v c => v = Value.ref c.1) its cs
  | [], _, r => by
    cases r
    exact .nil
  | c :: cs, _, r => by
    rw [List.map_cons] at r
    cases r with
    | cons r1 r2 => exact .cons r1 (each_ref r2)
theorem ref_each : ∀ {cs : List Ixs} {its : List Value}, EachIs (fun v c => v = Value.ref c.1) its cs → Vals (cs.map fun c => V.ref c.1) its
  | _, _, .nil => .nil
  | _, _, .cons h t => .cons h (ref_each t)
theorem depth_ints : ∀ ns : List Int, PyData.depthAll (ns.map PyData.int) ≤ 1
  | [] => by simp [PyData.depthAll]
  | z :: r => by
    have := depth_ints r
    simp only [List.map_cons, PyData.depthAll, PyData.depth]
    omega
theorem cr_sortedT {X : Cx} (hu : X.A.units + 64 < cLine) : CallR X (.builtin "sorted") (rSortedT X.K) := by
  intro pins s σ H vs us Q I r h
  obtain ⟨a, cs, rfl, hs, hc, ⟨t0, r0, e0⟩, q⟩ := h
  rw [Vals.ref1 r]
  obtain ⟨its, rv, hl, hz⟩ := I.list hs
  have e := each_ref rv
  have len : cs.length ≤ sizeLine := by
    rw [List.length_map] at hz
    exact hz
  have er : EachIs (fun v b => ∃ as, Reads s.heap v (ixD b) as) its cs := (each_mem e).mono fun v c ⟨ev, hm⟩ => by
    subst ev
    exact Dp.reads I _ (.ref c.1) _ (.tup (.inl (.inl (hc c hm))) (dp_ints _)) rfl
  have er' : EachIs (fun v b => ∃ as, Reads (sortingHeap (copyHeap s.heap its) (s.heap.objs.size + 1) its) v (ixD b) as) its cs := er.mono fun _ _ ⟨as, r⟩ => ⟨as, PyProof.Rows.Reads.keeps (fun _ _ => sorting_copy_old) r⟩
  have hal : AllAlike (cs.map ixD) := AllAlike.of fun b b' => by
    unfold ixD
    simp only [alike]
    exact alike_ints b.2 b'.2
  refine sorted_vals hl.isList (sortsAt_tups (s := { s with heap := sortingHeap (copyHeap s.heap its) (s.heap.objs.size + 1) its }) (each_map (R := fun v d => ∃ as, Reads (sortingHeap (copyHeap s.heap its) (s.heap.objs.size + 1) its) v d as) ixD er') hal (fun d hd => ?_) ⟨r0.map ixD, by rw [e0]; rfl⟩ (fun d hd => ?_)) (by rw [e.length]; exact len) ?_
  · obtain ⟨c, _, rfl⟩ := List.mem_map.mp hd
    exact ⟨_, rfl⟩
  · obtain ⟨c, _, rfl⟩ := List.mem_map.mp hd
    have h1 : X.A.in1.in1.units = X.A.units + 2 := rfl
    have h2 := depth_ints c.2
    have h3 : PyData.depth (ixD c) ≤ 10 := by
      unfold ixD
      simp only [PyData.depth]
      omega
    rw [h1]
    omega
  · have eo := sortVals_data false e er' hal
    rw [ixLe_data] at eo
    have ho : (sortVals (dataKind (sortingHeap (copyHeap s.heap its) (s.heap.objs.size + 1) its) (cs.map ixD)) false its its).length = its.length := sortVals_length false rfl
    obtain ⟨ep, he'⟩ := PyProof.Rows.sortedAll_at s.heap its (sortVals (dataKind (sortingHeap (copyHeap s.heap its) (s.heap.objs.size + 1) its) (cs.map ixD)) false its its).toArray
    have hlen : ((cs.mergeSort ixLe).map fun c => V.ref c.1).length ≤ sizeLine := by rw [List.length_map, List.length_mergeSort]; exact len
    exact ⟨.ref _, upd H (s.heap.objs.size + 1) (.lst ((cs.mergeSort ixLe).map fun c => V.ref c.1)), I.laid (t' := s.toks) (fun _ _ => PyProof.Rows.sortedAll_old) (Nat.le_succ _) ⟨hlen, _, ep, ref_each eo, he'⟩, rfl, q _ (I.hok.fresh (Nat.le_succ _))⟩
end LkS
set_option Elab.async false
set_option linter.all false
set_option maxRecDepth 100000
set_option maxHeartbeats 4000000
/-! sorted(xs, key=lambda a: body): the lambda of one parameter, made and called. -/
namespace LkS
open PySem PySem.Spec PyProof.Rows L2 TxS LkO Lk LkG LamX
/-- one parameter a, else captured names and globals -/
structure LamS1 (sc : Scope) (N : List Str) (scope : Scope) (a : Str) : Prop where
  kind : scope.kind = .function
  co : scope.isCoroutine = false
  gen : scope.isGenerator = false
  par : scope.names.lookup a = some .local
  own : ∀ y ∈ scope.names, y.2 = .local → y.1 = a
  cel : ∀ y ∈ scope.names, y.2 ≠ .cell
  free : ∀ y ∈ scope.names, y.2 = .free → sc.names.lookup y.1 = some .cell ∨ sc.names.lookup y.1 = some .free
  new : a ∉ N
theorem LamS1.has {X : Cx} {scope : Scope} {a : Str} (L : LamS1 X.env.scope X.N scope a) (ok : X.Ok) : ∀ y ∈ scope.names, y.2 = .free → ∃ c, X.env.cells.lookup y.1 = some c := fun y hy e => by
  rcases L.free y hy e with k | k
  · exact ok.has _ (.inl k)
  · exact ok.has _ (.inr k)
/-- the context of the lambda's body -/
def lamCx1 (X : Cx) (A : Around) (outer : List Env) (s : Shared) (H : Hp) (scope : Scope) (f c' : Addr) (a : Str) : Cx where
  prog := X.prog
  w := X.w
  K := X.K
  mg := X.mg
  base := X.base
  A := A.deeper (lamEnv X scope s.heap.objs.size f c')
  N := X.N ++ [a]
  s_0 := s
  H_0 := H
  env := lamEnv X scope s.heap.objs.size f c'
  outer := outer
  stack := lamEnv X scope s.heap.objs.size f c' :: outer
  ex := []
  fn := fun _ => false
  calm := true
  pn := []
  xe := fun _ _ => False
section
variable {X : Cx} {pins : List (Addr × Obj)} {σ : L2.St} {H HZ : Hp} {s s1 : Shared}
theorem lam_start1 {A : Around} {outer : List Env} {scope : Scope} {f c' : Addr} {h₁ : Heap} {tk : Nat} {a : Str} {x : V} {u : Value} (I : Inv X pins σ H s) (L : LamS1 X.env.scope X.N scope a) (e0 : Env0 X.prog X.w X.K X.mg X.base A outer s HZ) (hd : A.handled = none) (hH : HZ = H)
    (hns : h₁.Ns s.heap.objs.size fun y => ([(a, u)] : List (Str × Value)).reverse.lookup y) (kp : ∀ b o, s.heap.get? b = some o → h₁.get? b = some o) (rx : RelV x u) :
    Inv (lamCx1 X A outer s HZ scope f c' a) [] (σ ++ [some x]) HZ { s with heap := h₁, toks := tk } := by
  subst hH
  have hfree := L.has I.ok
  have cm : ∀ {y c}, (cloFrom X.env.cells scope.names []).lookup y = some c → X.env.cells.lookup y = some c := fun {y c} e => by
    rcases cloFrom_mem (PySem.mem_of_lookup e) with hm | ⟨h1, h2⟩
    · cases hm
    · obtain ⟨c1, hc⟩ := hfree _ h1 rfl
      have hc : X.env.cells.lookup y = some c1 := hc
      have e2 : c = c1 := by
        rw [h2, hc] <;> rfl
      rw [e2]
      exact hc
  have look : ∀ {y}, scope.names.lookup y = some .free → ∃ c, (cloFrom X.env.cells scope.names []).lookup y = some c := fun {y} hl => by
    have hy : (y, NameKind.free) ∈ scope.names := PySem.mem_of_lookup hl
    exact mem_lookup (cloFrom_has (cells := X.env.cells) (acc := []) hy)
  have cellK : ∀ {c : Addr} {v : Option Value}, s.heap.IsCell c v → h₁.IsCell c v := fun {c v} ⟨o, ho, hd⟩ => ⟨_, kp _ _ ho, hd⟩
  have noA : ∀ b : Addr, b ∉ (lamCx1 X A outer s HZ scope f c' a).ex := fun b z => absurd (show b ∈ ([] : List Addr) from z) (by simp)
  have len : σ.length = X.N.length := I.len
  refine ⟨⟨e0.mod, L.kind, rfl, rfl, Nat.le_refl _, fun y z c e1 e2 => I.ok.inj y z c (cm e1) (cm e2), fun y hy => ?_, fun y c z _ => ?_, fun _ => hd, Around.frames_deeper e0.frames, .inr ⟨rfl, rfl⟩, fun b z => absurd z (noA b), e0.bs, e0.bsz, fun b _ _ => noA b,
      fun b z => absurd z (noA b), e0.funs, e0.frf⟩,
    rfl, e0.bare, Un.kept kp, ⟨_, hns, fun i y v e1 e2 e3 => ?_⟩, fun y c e => ?_, e0.hok.fresh (Nat.le_refl _), fun y c e => ?_, fun q hq => absurd (show q ∈ ([] : List (Addr × Obj)) ++ [] from hq) (by simp), e0.hok.kept kp, ?_⟩
  · have hy : scope.names.lookup y = some .cell ∨ scope.names.lookup y = some .free := hy
    rcases hy with hy | hy
    · exact absurd rfl (L.cel _ (PySem.mem_of_lookup hy))
    · exact look hy
  · have z : false = true := z
    cases z
  · have e1 : (X.N ++ [a])[i]? = some y := e1
    have e3 : Vis scope y := e3
    by_cases hi : i < X.N.length
    · rw [List.getElem?_append_left hi] at e1
      rw [List.getElem?_append_left (by rw [len]; exact hi)] at e2
      have ny : y ≠ a := fun z => L.new (by rw [← z]; exact List.mem_of_getElem? e1)
      rcases e3 with k | k | k
      · exact absurd (L.own _ (PySem.mem_of_lookup k) rfl) ny
      · exact absurd rfl (L.cel _ (PySem.mem_of_lookup k))
      · obtain ⟨m, hn, hl⟩ := I.loc
        have hvis : Vis X.env.scope y := (L.free _ (PySem.mem_of_lookup k) rfl).elim (fun k => .inr (.inl k)) (fun k => .inr (.inr k))
        obtain ⟨w', r, q⟩ := hl i y v e1 e2 hvis
        obtain ⟨c2, h2⟩ := look k
        refine ⟨w', r, .inr ⟨.inr k, c2, h2, ?_⟩⟩
        have c1 := cm h2
        rcases q with ⟨k', _⟩ | ⟨_, c3, e', z⟩
        · have k' : X.env.scope.names.lookup y = some .local := k'
          rcases L.free _ (PySem.mem_of_lookup k) rfl with k2 | k2 <;> rw [show X.env.scope.names.lookup y = _ from k2] at k' <;> cases k'
        · rw [c1] at e'
          cases e'
          exact cellK z
    · have hi' : X.N.length ≤ i := Nat.le_of_not_lt hi
      rw [List.getElem?_append_right hi'] at e1
      rw [List.getElem?_append_right (by rw [len]; exact hi'), len] at e2
      have hz : i - X.N.length = 0 := by
        have := (List.getElem?_eq_some_iff.mp e1).1
        simp at this
        omega
      rw [hz] at e1 e2
      simp at e1 e2
      subst e1
      subst e2
      refine ⟨u, rx, .inl ⟨L.par, ?_⟩⟩
      simp
  · obtain ⟨w', z⟩ := I.cell y c (cm e)
    exact ⟨w', cellK z⟩
  · exact I.freeC y c (cm e)
  · show (σ ++ [some x]).length = (X.N ++ [a]).length
    rw [List.length_append, List.length_append, len]
    rfl
/-- f(u), f the lambda -/
theorem lam_call1 {k : Nat} {f c' : Addr} {pm ctv : Value} {params : Arguments} {body : Expr} {scope : Scope} {a : Str} {tb : TE} {x : V} {u : Value} {Q : VK} (I : Inv X pins σ H s) (L : LamS1 X.env.scope X.N scope a)
    (hf : s.heap.get? f = some (PySem.W.kla_obj "<lambda>" (X.env.qual ++ "<lambda>") params body scope (cloFrom X.env.cells scope.names []) pm c' ctv)) (hc : H c' = some (CodeO c' (X.env.qual ++ "<lambda>")))
    (hbind : ∀ u, bindArgs (PySem.W.kla_fn "<lambda>" (X.env.qual ++ "<lambda>") params body scope (cloFrom X.env.cells scope.names []) pm (.ref c') ctv) ⟨[u], []⟩ = pure [(a, u)]) (hr : Room (k + 1) X.A.in1.in1) (rx : RelV x u)
    (hbody : ∀ (A : Around) (outer : List Env) (s : Shared) (H : Hp), Room k (A.deeper (lamEnv X scope s.heap.objs.size f c')) → PE (lamCx1 X A outer s H scope f c' a) body tb) (ht : tb (σ ++ [some x]) H Q) :
    wpAny (model X.prog X.w) X.A.in1.in1 (call (.ref f) [u]) (EP X pins σ Q) (fun _ _ => False) s := by
  have e0 : Env0 X.prog X.w X.K X.mg X.base X.A.in1.in1 X.stack s H := I.env0.in1.in1
  obtain ⟨⟨oc, vs, t, hoc, hdc, hvc⟩, _, _⟩ := I.hok c' _ hc
  have rc : codeAny (model X.prog X.w) X.A.in1.in1 (.call (.ref f) ⟨[u], []⟩) (CR CX0 X.stack X.prog X.w H s Q E0) s := by
    refine PySem.W.kla_callFunE hr.depth hf rfl L.co L.gen rfl ⟨c', oc, vs, t, rfl, hoc, hdc, hvc⟩ ?_
    rw [hbind]
    refine wpAny_pure (wpAny_newFunctionEnv (fun y hy => L.cel y hy) (fun y hy => ?_) (fun h₁ hns hsb => ⟨I.nolimit.fresh _ hsb, ?_⟩) L.kind)
    · simp only [List.mem_cons, List.not_mem_nil, or_false] at hy
      subst hy
      exact L.par
    · show codeAny _ _ (.expr body (lamEnv X scope s.heap.objs.size f c')) _ _
      have kp : ∀ b o, s.heap.get? b = some o → h₁.get? b = some o := fun b o e => hsb.extBut b o (Nat.ne_of_lt (Heap.lt_size e)) (Heap.get?_push_of_some _ e)
      have J : Inv (lamCx1 X X.A.in1.in1 X.stack s H scope f c' a) [] (σ ++ [some x]) H { s with heap := h₁, toks := s.toks + ([(a, u)] : List (Str × Value)).length } :=
        lam_start1 I L e0 hr.hd rfl hns kp rx
      refine PySem.W.kla_codeExpr (wpAny_mono ((hbody _ _ s H (hr.deeper _)).run [] _ _ H Q J ht) (fun v s' hq => ?_) fun e s' hq => (show False from hq).elim)
      obtain ⟨w', H', J', rv, q⟩ := hq
      exact ⟨w', H', J'.os, J'.bare, J'.base, J'.hok, rv, q⟩
  refine wpAny_call (codeAny_mono rc fun r s' hq => ?_)
  cases r with
  | error e => exact (show False from hq).elim
  | ok fl =>
    cases fl with
    | ret u => exact I.after hq
    | next => exact False.elim hq
    | brk => exact False.elim hq
    | cont => exact False.elim hq
theorem ExtN.seq {K : PySem.W.Frag} {H H' : Hp} {a : Addr} {xs : List V} (e : ExtN H H') (h : SqL K H a xs) : SqL K H' a xs := by
  rcases h with (h | ⟨o, h⟩) | h
  · exact .inl (.inl (e _ _ h fun ps z => by cases z))
  · exact .inl (.inr ⟨o, e _ _ h fun ps z => by cases z⟩)
  · exact .inr h
def tSortKey (K : PySem.W.Frag) (T : List (Addr × Str)) (te tb : TE) : TE := fun σ H Q => te σ H fun v H1 => ∃ (l : Addr) (xs : List V) (key : V → Int), v = .ref l ∧ SqL K H1 l xs ∧ Tabs T H1 ∧
  ∀ H2, ExtN H1 H2 → Tabs T H2 → (∀ x ∈ xs, ∀ H3, Same H2 H3 → tb (σ ++ [some x]) H3 fun v H4 => v = .int (key x) ∧ Same H3 H4) ∧ ∀ H3 p, Same H2 H3 → H3 p = none → Q (.ref p) (upd H3 p (.lst (xs.mergeSort (leBy key))))
theorem pe_sortKey {T : List (Addr × Str)} {c P : Addr} {k : Nat} {params : Arguments} {body e : Expr} {scope : Scope} {a : Str} {tb te : TE} {p pos lpos kpos : Pos} (hg : Gl X "sorted") (hm : X.mg "sorted" = none) (TB : TabB X.base X.mg c P) (hcode : X.env.code = .ref c)
    (hmT : (P, X.env.qual ++ "<lambda>") ∈ T) (hu : ∀ p ∈ T, p.1 = P → p.2 = X.env.qual ++ "<lambda>") (hr : Room (k + 2) X.A) (L : LamS1 X.env.scope X.N scope a) (hdef : defaultsOf params X.env = ([], []))
    (hbind : ∀ (q : Str) (cl : List (Str × Addr)) (pm cv ctv u : Value), bindArgs (PySem.W.kla_fn "<lambda>" q params body scope cl pm cv ctv) ⟨[u], []⟩ = pure [(a, u)])
    (he : PE X e te) (hbody : ∀ (A : Around) (outer : List Env) (s : Shared) (H : Hp) (f c' : Addr), Room k (A.deeper (lamEnv X scope s.heap.objs.size f c')) → PE (lamCx1 X A outer s H scope f c' a) body tb)
    (hst : starEach [e] X.env = (false, eval e X.env) :: starEach [] X.env := by rfl) (hst2 : backTo pos (starEach [e] X.env) = (false, eval e X.env) :: backTo pos (starEach [] X.env) := by rfl) (hpl : (backTo pos (starEach [e] X.env)).any (·.1) = false := by rfl) :
    PE X (.Call (.Name "sorted" p) [e] [⟨some "key", .Lambda params body scope lpos, kpos⟩] pos) (tSortKey X.K T te tb) := by
  refine ⟨fun pins s σ H Q I h => ?_⟩
  refine wpAny_Call_Name_kw (ld_blt I hg hm PyProof.Rows.boot_sorted ?_)
  refine PyProof.Rows.callWith_kw (thn ((pa_cons he pa_nil hst).run pos pins s σ H (fun vs H1 => match vs with
    | [v] => ∃ (l : Addr) (xs : List V) (key : V → Int), v = .ref l ∧ SqL X.K H1 l xs ∧ Tabs T H1 ∧
        ∀ H2, ExtN H1 H2 → Tabs T H2 → (∀ x ∈ xs, ∀ H3, Same H2 H3 → tb (σ ++ [some x]) H3 fun v H4 => v = .int (key x) ∧ Same H3 H4) ∧ ∀ H3 p, Same H2 H3 → H3 p = none → Q (.ref p) (upd H3 p (.lst (xs.mergeSort (leBy key))))
    | _ => False) I h) fun us s1 ⟨vs, H1, I1, r1, q1⟩ => ?_) hst2 hpl
  match vs, r1, q1 with
  | [], _, q1 => exact q1.elim
  | _ :: _ :: _, _, q1 => exact q1.elim
  | [v], r1, q1 =>
    obtain ⟨l, xs, key, rfl, hs, hT, q⟩ := q1
    rw [Vals.ref1 r1]
    show wpAny _ _ (evalAll ((do let v ← eval (.Lambda params body scope lpos) X.env; standAt pos; pure v) :: (backToKw pos (keywordEach [] X.env)).map (·.2))) _ _ s1
    refine wpAny_evalAll_cons (wpAny_bind (lam_make2 I1 TB hcode hmT hu hT hdef (L.has I1.ok) fun f c' pm ctv H2 s2 I2 eN T2 hf hfn hfr hco => wpAny_bind (wpAny_standAt (wpAny_pure (wpAny_evalAll_nil ?_)))))
    obtain ⟨q1, q2⟩ := q H2 eN T2
    have hfL : f ≠ X.env.locals := fun z => by
      obtain ⟨m, ⟨o, es, ep, e, hd, _⟩, _⟩ := I2.loc
      rw [← z, hf] at e
      cases e
      cases hd
    have hff : f ∉ X.fs := fun z => hfr (by
      rcases I2.ok.stk with e | ⟨e, _⟩
      · rw [e]; exact z
      · rw [e]
        unfold frs
        rw [List.filterMap_cons]
        split
        · exact z
        · exact List.mem_cons_of_mem _ z)
    have h2 : Room (k + 1) X.A.in1.in1 := ⟨hr.hd, by have := hr.dp; show X.A.depth + 3 * (k + 1) + 5 < _; omega, by have := hr.un; show X.A.units + 2 + 16 * (k + 1) + 200 < _; omega⟩
    have h8 : X.A.units + 8 < cLine := by have := hr.units; omega
    exact sortedKey_run (fq := f) (W := fun H' => Same H2 H') I2 (ExtN.seq eN hs) hf hfn hfL hff (fun v z => by cases z) h8 (Same.refl _)
      (fun x hx u pins' s' H' rx I' w' hf' _ => by
        refine wpAny_mono (lam_call1 (k := k) (Q := fun v H4 => v = .int (key x) ∧ Same H' H4) I' L hf' (w' _ _ hco) (hbind _ _ _ _ _) h2 rx (fun A outer s H hr' => hbody A outer s H f c' hr') (q1 x hx H' w')) (fun v s3 h3 => ?_) fun _ _ z => z
        obtain ⟨v', H4, I4, r4, e4, s4⟩ := h3
        exact ⟨v', H4, I4, r4, e4, w'.trans s4⟩) fun H' p w' n' _ => q2 H' p w' n'
end
end LkS
set_option Elab.async false
set_option linter.all false
set_option maxRecDepth 100000
set_option maxHeartbeats 4000000
/-! What stays while lists change and tables of code grow; comprehensions that make things. -/
namespace Lk
open PySem PySem.Spec PyProof.Rows L2 TxS LkO LkG LamX
def steady (o : HO) : Prop := (∀ xs, o ≠ .lst xs) ∧ ∀ ps, o ≠ .tbl ps
def NX (H H' : Hp) : Prop := ∀ b o, H b = some o → steady o → H' b = some o
theorem NX.refl (H : Hp) : NX H H := fun _ _ e _ => e
theorem NX.of {H H' : Hp} (s : Same H H') : NX H H' := fun b o e _ => s b o e
theorem NX.ofT {H H' : Hp} (s : ExtN H H') : NX H H' := fun b o e n => s b o e n.2
theorem NX.trans {H H1 H2 : Hp} (a : NX H H1) (b : NX H1 H2) : NX H H2 := fun c o e n => b c o (a c o e n) n
theorem NX.put {H : Hp} {d : Addr} {ys : List V} {o : HO} (h : H d = some (.lst ys)) : NX H (upd H d o) := fun b u e n => by
  by_cases z : b = d
  · rw [z, h] at e
    exact absurd (Option.some.inj e).symm (n.1 ys)
  · rw [upd_ne z]
    exact e
theorem NX.new {H : Hp} {d : Addr} {o : HO} (h : H d = none) : NX H (upd H d o) := NX.of (same_new h)
theorem st_tup {xs : List V} : steady (.tup xs) := ⟨fun _ z => (by cases z), fun _ z => (by cases z)⟩
theorem st_ins {C dx : Addr} {fs : List (Str × V)} : steady (.ins C dx fs) := ⟨fun _ z => (by cases z), fun _ z => (by cases z)⟩
theorem st_frz {o : Obj} {u : HO} : steady (.frz o u) := ⟨fun _ z => (by cases z), fun _ z => (by cases z)⟩
theorem st_dK {kvs : List (Key × V)} : steady (.dK kvs) := ⟨fun _ z => (by cases z), fun _ z => (by cases z)⟩
theorem NX.tup {K : PySem.W.Frag} {H H' : Hp} {a : Addr} {xs : List V} (e : NX H H') (h : SqT K H a xs) : SqT K H' a xs := by
  rcases h with (h | ⟨o, h⟩) | h
  · exact .inl (.inl (e _ _ h st_tup))
  · exact .inl (.inr ⟨o, e _ _ h st_frz⟩)
  · exact .inr h
theorem LkAt.nx {C : Addr} {H H' : Hp} {a : Addr} {zs : List Str} (h : LkAt C H a zs) (s : NX H H') : LkAt C H' a zs := by
  obtain ⟨⟨dx, t, h1, h2⟩, h3, h4⟩ := h
  exact ⟨⟨dx, t, s _ _ h1 st_ins, s _ _ h2 st_tup⟩, h3, h4⟩
theorem DoorAt.nx {C x : Addr} {H H' : Hp} {d : DoorD} (h : DoorAt C H x d) (s : NX H H') : DoorAt C H' x d := ⟨h.ob.imp fun _ e => s _ _ e st_ins, h.ok⟩
theorem PersonAt.nx {K : PySem.W.Frag} {C x : Addr} {H H' : Hp} {p : PersonD} (h : PersonAt K C H x p) (s : NX H H') : PersonAt K C H' x p := by
  obtain ⟨⟨dy, t1, t2, t3, e, h1, h2, h3⟩, ok⟩ := h
  exact ⟨⟨dy, t1, t2, t3, s _ _ e st_ins, s.tup h1, s.tup h2, s.tup h3⟩, ok⟩
theorem doorR.nx {C : Addr} {H H' : Hp} (s : NX H H') (v : V) (d : DoorD) (h : doorR C H v d) : doorR C H' v d := let ⟨x, e, a⟩ := h; ⟨x, e, a.nx s⟩
theorem persR.nx {K : PySem.W.Frag} {C : Addr} {H H' : Hp} (s : NX H H') (v : V) (d : PersonD) (h : persR K C H v d) : persR K C H' v d := let ⟨x, e, a⟩ := h; ⟨x, e, a.nx s⟩
theorem BldAt.nx {K : PySem.W.Frag} {CD CP CB : Addr} {H H' : Hp} {x : Addr} {b : BldD} (h : BldAt K CD CP CB H x b) (s : NX H H') : BldAt K CD CP CB H' x b := by
  obtain ⟨⟨dx, r, k, dn, dd, pn, pd, ok, od, op, kvs, ds, ps, i⟩, hok⟩ := h
  exact ⟨⟨dx, r, k, dn, dd, pn, pd, ok, od, op, kvs, ds, ps, s _ _ i.ob st_ins, s.tup i.rooms, s _ _ i.keys st_frz, i.keysT, s.tup i.dn, s _ _ i.doors st_frz, i.doorsT.mono (doorR.nx s), s.tup i.pn, s _ _ i.people st_frz, i.peopleT.mono (persR.nx s)⟩, hok⟩
theorem paired_map {α β : Type} {R S : α → β → Prop} (h : ∀ a b, R a b → S a b) : ∀ {l : List α} {m : List β}, Paired R l m → Paired S l m
  | _, _, .nil => .nil
  | _, _, .cons r t => .cons (h _ _ r) (paired_map h t)
theorem paired_snoc {α β : Type} {R : α → β → Prop} {a : α} {b : β} (h : R a b) : ∀ {l : List α} {m : List β}, Paired R l m → Paired R (l ++ [a]) (m ++ [b])
  | _, _, .nil => .cons h .nil
  | _, _, .cons r t => .cons r (paired_snoc h t)
theorem paired_at {α β : Type} {R : α → β → Prop} : ∀ {l : List α} {m : List β}, Paired R l m → ∀ {i : Nat} {a : α}, l[i]? = some a → ∃ b, m[i]? = some b ∧ R a b
  | _, _, .nil, i, a, h => by simp at h
  | _, _, .cons r t, 0, a, h => by
    simp only [List.getElem?_cons_zero, Option.some.injEq] at h
    subst h
    exact ⟨_, rfl, r⟩
  | _, _, .cons r t, i + 1, a, h => by
    simp only [List.getElem?_cons_succ] at h ⊢
    exact paired_at t h
/-- [e for x in .. if p(x)]: what a turn makes is told by R, which lists' changes leave alone -/
theorem lc_R {J : It} {n : Nat} {G : Hp → Prop} {Y : Nat → Hp → V → Hp → Prop} (w : Walk J n G Y) {g : TG} {tt : TT} {te : TE} {vs : List Nat} {σ : L2.St} {H1 : Hp} {D : Addr} {Qd : Hp → Prop} {α : Type} (l : List α) (p : α → Bool) (R : Hp → α → V → Prop) (hR : ∀ H H' a v, NX H H' → R H a v → R H' a v)
    (hn : n = l.length) (nD : H1 D = none) (few : l.length ≤ 1000) (hG : ∀ H', Same H1 H' → G H')
    (hs : ∀ i a x H2 H' (Kt : VK) (Kf : Hp → Prop), l[i]? = some a → Same H1 H2 → Y i H2 x H' → (p a = true → ∀ H5 v, Same H2 H5 → R H5 a v → Kt v H5) → (p a = false → ∀ H5, Same H2 H5 → Kf H5) →
      g x (wipe σ vs) H' fun σ2 H3 => wipe σ2 vs = wipe σ vs ∧ tt σ2 H3 fun b H4 => if b = true then te σ2 H4 Kt else Kf H4)
    (hd : ∀ H2 xs, Same H1 H2 → H2 D = some (.lst xs) → Paired (R H2) (l.filter p) xs → Qd H2) :
    ∃ W : Nat → Nat → Hp → Prop, (∃ m, W 0 m (upd H1 D (.lst []))) ∧ ∀ i m H, W i m H → (J.stop i H ∧ Qd H) ∨ (J.go i H ∧ ∃ Nx : Hp → Prop, (∀ H', Nx H' → ∃ m', m' < m ∧ W (i + 1) m' H') ∧
      ∀ x H', J.yld i H x H' → g x (wipe σ vs) H' fun σ2 H2 => wipe σ2 vs = wipe σ vs ∧ tt σ2 H2 fun b H3 => if b = true then te σ2 H3 fun y H4 => ∃ acc, H4 D = some (.lst acc) ∧ acc.length < sizeLine ∧ Nx (upd H4 D (.lst (acc ++ [y]))) else Nx H3) := by
  refine lc_it w (fun i H' => ∃ xs, Paired (R H') ((l.take i).filter p) xs ∧ Grow H1 D xs H') ⟨[], .nil, grow0 nD⟩ (fun i H' _ hP => by obtain ⟨_, _, g⟩ := hP; exact hG H' g.1) (fun i x H2 H3 hi hP hY => ?_) (fun H2 hP => ?_)
  · obtain ⟨xs, pr, gr⟩ := hP
    have hl : i < l.length := hn ▸ hi
    have ha : l[i]? = some l[i] := List.getElem?_eq_getElem hl
    refine hs i l[i] x H2 H3 _ _ ha gr.1 hY (fun e H5 v s5 r5 => ?_) fun e H5 s5 => ?_
    · have eD := s5 _ _ gr.2
      have lx : xs.length < sizeLine := by
        rw [← Paired.length pr]
        refine Nat.lt_of_le_of_lt (Nat.le_trans (List.length_filter_le _ _) ?_) (small1000 few)
        rw [List.length_take]
        exact Nat.min_le_right _ _
      refine ⟨xs, eD, lx, xs ++ [v], ?_, Same.up (gr.1.trans s5) nD, by rw [upd_same]⟩
      rw [take_next1 ha, List.filter_append, List.filter_cons, if_pos e]
      exact paired_snoc (hR _ _ _ _ (NX.put eD) r5) (paired_map (fun a v r => hR _ _ _ _ ((NX.of s5).trans (NX.put eD)) r) pr)
    · refine ⟨xs, ?_, gr.more s5⟩
      rw [show (l.take (i + 1)).filter p = (l.take i).filter p from by rw [take_next1 ha, List.filter_append, List.filter_cons, if_neg (by rw [e]; exact Bool.false_ne_true)]; exact List.append_nil _]
      exact paired_map (fun a v r => hR _ _ _ _ (NX.of s5) r) pr
  · obtain ⟨xs, pr, sm, e⟩ := hP
    rw [hn, List.take_length] at pr
    exact hd H2 xs sm e pr
end Lk
set_option Elab.async false
set_option linter.all false
set_option maxRecDepth 100000
set_option maxHeartbeats 4000000
namespace Lk
open PySem PySem.Spec PyProof.Rows L2 TxS LkO LkG
section
variable {P : Program} {w : World} {K : PySem.W.Frag} {mg : Str → Option Value} {base : Heap} {CD CP CB CL : Addr}
/-! ### are_doors_of -/
def areDoors (b : BldD) (zs : List Str) : Bool := zs.all fun z => isNm z && decide (z ∈ b.doors.map (·.1))
def spDoorsOf (K : PySem.W.Frag) (CD CP CB : Addr) : Sp := fun vs H Q _ => ∃ (x t : Addr) (b : BldD) (zs : List Str), vs = [.ref x, .ref t] ∧ BldAt K CD CP CB H x b ∧ SqT K H t (zs.map V.str) ∧ zs.length ≤ 1000 ∧ (∀ z ∈ zs, z.length ≤ sizeLine) ∧ ∀ H', Same H H' → Q (.bl (areDoors b zs)) H'
theorem areDoors_yes {b : BldD} (ok : b.ok) {zs : List Str} (h : ∀ z ∈ zs, z ∈ b.doors.map (·.1)) : areDoors b zs = true := by
  unfold areDoors
  refine List.all_eq_true.mpr fun z hz => ?_
  obtain ⟨q, hq, rfl⟩ := List.mem_map.mp (h z hz)
  rw [(ok.doors _ hq).1, decide_eq_true (h _ hz)]
  rfl
theorem door_line {b : BldD} (ok : b.ok) {zs : List Str} (h : ∀ z ∈ zs, z ∈ b.doors.map (·.1)) : ∀ z ∈ zs, z.length ≤ sizeLine := fun z hz => by
  obtain ⟨q, hq, rfl⟩ := List.mem_map.mp (h z hz)
  exact nm_line (ok.doors _ hq).1
theorem scDoorsOf : FnScope ["building", "names", "name"] ["building", "names"] (defScope s_are_doors_of) := ⟨rfl, rfl, rfl, by decide +kernel, rfl, by decide +kernel, by decide +kernel⟩
theorem ok_doorsOf {f : Addr} {fd : FuncData} (F : Fun K "are_doors_of" "are_doors_of" s_are_doors_of f fd) (B : Blt mg) (T : OwnC K mg CB "Building" bldF) (GN : Fn P w K mg base 1 "is_name" ["value"] spName)
    (PD : Pr P w K mg base 1 CB "doors" (spBDoors K CD CP CB)) : FnOk P w K mg base CX0 3 f fd ["building", "names"] (spDoorsOf K CD CP CB) := by
  refine F.ok scDoorsOf (fun vs H Q E h => ?_) (fun cdv A outer s H vs Q E hr h => ?_)
  · obtain ⟨x, t, b, zs, rfl, _⟩ := h
    rfl
  · obtain ⟨x, t, b, zs, rfl, hb, ht, few, lens, q⟩ := h
    obtain ⟨⟨dx, r, k, dn, dd, pn, pd, ok, od, op, kvs, ds, ps, I⟩, bok⟩ := id hb
    refine ⟨_, pss_one (ps_ret (pe_and (pe_callB call_isi (by rfl) B.isi PyProof.Rows.boot_isinstance (pa_cons (pv 1) (pa_cons (pe_bltn (v := .ty "tuple") (by rfl) B.tup PyProof.Rows.boot_tuple rfl) pa_nil)))
      (pe_one (pe_callB (cr_all rfl) (by rfl) B.all PyProof.Rows.boot_all (pa_cons (pe_lc (own := [("name", 2)]) (g := gName 2) (tt := tYes) (te := tAndV (tCall spName [] E0 (tCons (tVar 2) tNil)) (tOp (rIn K false) (tVar 2) (tProp CB (spBDoors K CD CP CB) [] E0 (tVar 0)))) rfl scDoorsOf.nd (pi_tup (pv 1)) (blkOk_by (N := ["building", "names", "name"]) (sc := defScope s_are_doors_of) (by decide +kernel))
        (fun _ _ _ _ _ => pg_name (i := 2) scDoorsOf.nd rfl (Or.inl rfl)) (fun _ _ _ _ _ => pts_nil) (fun _ _ _ _ _ => pe_and (pe_fn GN (hr.mono (by decide)) (by rfl) (pa_cons (pv 2) pa_nil)) (pe_one (pe_cmpR (r := rIn K false) op_in_seq (pv 2) (pe_pr PD hr T.cl (pv 0) rfl) rfl)))) pa_nil))))), ?_⟩
    refine ⟨.ref t, rfl, .ref t, .ty "tuple", _, _, true, rfl, .ty _, ty_tup ht, kit_ty (by decide +kernel), true, rfl, iteT ?_⟩
    refine ⟨.ref t, rfl, t, rfl, ⟨_, ht⟩, fun D nD => lc_m (walk_tup (xs := zs.map V.str)) zs (fun z => .bl (isNm z && decide (z ∈ b.doors.map (·.1)))) (by rw [List.length_map]) nD few (fun H' s => Same.tup s ht) (fun i z v H2 H3 Kt hz s2 hY k => ?_) (fun H2 s2 e => ?_)⟩
    · obtain ⟨rfl, hx⟩ := hY
      rw [List.getElem?_map, hz] at hx
      cases hx
      refine ⟨rfl, .str z, rfl, z, rfl, lens z (List.mem_of_getElem? hz), fun H4 s4 => ⟨_, rfl, ite2 (fun t1 => ?_) (fun t1 => ?_)⟩⟩
      · have s24 := s2.trans s4
        refine ⟨.str z, rfl, .ref x, rfl, x, dx, _, rfl, s24 _ _ I.ob, x, b, rfl, hb.same s24, fun l nl => ⟨l, _, rfl, .inl (.inl (.inl upd_same)), rfl, flat_strs _, ?_⟩⟩
        rw [inV_str]
        have k2 := k _ (s4.trans (same_new (o := .lst ((b.doors.map (·.1)).map V.str)) nl))
        rw [t1, Bool.true_and] at k2
        exact k2
      · have k2 := k _ s4
        rw [Bool.eq_false_iff.mpr t1, Bool.false_and] at k2
        exact k2
    · refine ⟨D, zs.map fun z => isNm z && decide (z ∈ b.doors.map (·.1)), rfl, .inl (.inl (by rw [List.map_map]; exact e)), ?_⟩
      rw [List.all_map]
      exact q _ s2
end
end Lk
set_option Elab.async false
set_option linter.all false
set_option maxRecDepth 100000
set_option maxHeartbeats 4000000
namespace Lk
open PySem PySem.Spec PyProof.Rows L2 TxS LkO LkG
section
variable {P : Program} {w : World} {K : PySem.W.Frag} {mg : Str → Option Value} {base : Heap} {CD CP CB CL : Addr}
/-! ### check_trail -/
def spChkT (K : PySem.W.Frag) (CD CP CB : Addr) : Sp := fun vs H Q _ => ∃ (x t : Addr) (b : BldD) (zs : List Str), vs = [.ref x, .ref t] ∧ BldAt K CD CP CB H x b ∧ SqT K H t (zs.map V.str) ∧ zs.length ≤ 1000 ∧ (∀ z ∈ zs, z ∈ b.doors.map (·.1)) ∧ ∀ H', Same H H' → Q .non H'
theorem scChkT : FnScope ["building", "trail"] ["building", "trail"] (defScope s_check_trail) := ⟨rfl, rfl, rfl, by decide +kernel, rfl, by decide +kernel, by decide +kernel⟩
theorem ok_chkT {f : Addr} {fd : FuncData} (F : Fun K "check_trail" "check_trail" s_check_trail f fd) (GD : Fn P w K mg base 3 "are_doors_of" ["building", "names"] (spDoorsOf K CD CP CB)) : FnOk P w K mg base CX0 4 f fd ["building", "trail"] (spChkT K CD CP CB) := by
  refine F.ok scChkT (fun vs H Q E h => ?_) (fun cdv A outer s H vs Q E hr h => ?_)
  · obtain ⟨x, t, b, zs, rfl, _⟩ := h
    rfl
  · obtain ⟨x, t, b, zs, rfl, hb, ht, few, sub, q⟩ := h
    refine ⟨_, pss_one (ps_if (pt_not (pt_val (pe_fn GD hr (by rfl) (pa_cons (pv 0) (pa_cons (pv 1) pa_nil))))) (pss_one ps_never) pss_nil), ?_⟩
    exact ⟨.ref x, rfl, .ref t, rfl, x, t, b, zs, rfl, hb, ht, few, door_line hb.ok sub, fun H1 s1 => ⟨true, by rw [areDoors_yes hb.ok sub], iteF (q _ s1)⟩⟩
end
end Lk
set_option Elab.async false
set_option linter.all false
set_option maxRecDepth 100000
set_option maxHeartbeats 4000000
namespace Lk
open PySem PySem.Spec PyProof.Rows L2 TxS LkO LkG
section
variable {P : Program} {w : World} {K : PySem.W.Frag} {mg : Str → Option Value} {base : Heap} {CD CP CB CL : Addr}
/-! ### check_building -/
def spChkB (CB : Addr) : Sp := fun vs H Q _ => ∃ (a dx : Addr) (fs : List (Str × V)), vs = [.ref a] ∧ H a = some (.ins CB dx fs) ∧ Q .non H
theorem scChkB : FnScope ["building"] ["building"] (defScope s_check_building) := ⟨rfl, rfl, rfl, by decide +kernel, rfl, by decide +kernel, by decide +kernel⟩
theorem ok_chkB {f : Addr} {fd : FuncData} {k : Nat} (F : Fun K "check_building" "check_building" s_check_building f fd) (B : Blt mg) (T : OwnC K mg CB "Building" bldF) : FnOk P w K mg base CX0 (k + 1) f fd ["building"] (spChkB CB) := by
  refine F.ok scChkB (fun vs H Q E h => ?_) (fun cdv A outer s H vs Q E hr h => ?_)
  · obtain ⟨a, dx, fs, rfl, _⟩ := h
    rfl
  · obtain ⟨a, dx, fs, rfl, ha, q⟩ := h
    refine ⟨_, pss_one (ps_if (pt_not (pt_val (pe_callB call_isi (by rfl) B.isi PyProof.Rows.boot_isinstance (pa_cons (pv 0) (pa_cons (pe_glob (v := .ref CB) (by rfl) T.mgC rfl) pa_nil))))) (pss_one ps_never) pss_nil), ?_⟩
    exact ⟨.ref a, rfl, .ref a, .ref CB, _, _, true, rfl, .own CB, .base (.ins ha T.cl T.tyc T.tyg T.tyt T.tym), T.kit, true, rfl, iteF q⟩
end
end Lk
set_option Elab.async false
set_option linter.all false
set_option maxRecDepth 100000
set_option maxHeartbeats 4000000
/-! for in a generator's body -/
namespace LkG5
open PySem PySem.Spec PyProof.Rows L2
section
variable {prog : Program} {w : World} {A : Around} {R : GenEnd} {Y : Protocol} {n : Nat} {s₀ : Shared} {fs : List Frame} {s : Shared} {env : Env}
def hurt (env : Env) (e : Value) : Sem PySem.Fin := (do noteFrame e env; theTreesLotGoes e : Sem Unit).wrap (fun _ => .raise e) .raise id id
theorem seg_forLoop {target : Expr} {it : Value} {body : List Stmt}
    (h : wpAny (model prog w) (A.over (.forLoop target it body [] env) fs) (pyNext it) (fun r s1 => match r with
        | none => Seg (model prog w) A R Y n s₀ (.forLoop target it body [] env) (.pure (.again (.block [] env))) fs s1
        | some v => wpAny (model prog w) (A.over (.forLoop target it body [] env) fs) (letOwnedTupleGo target it v) (fun _ s2 => wpAny (model prog w) (A.over (.forLoop target it body [] env) fs) (assign target env v)
            (fun _ s3 => Seg (model prog w) A R Y n s₀ (.forLoop target it body [] env) ((execs body env).wrap (fun f => match f with
              | .next | .cont => .pure (.again (.forLoop target it body [] env))
              | .brk => .pure (.done .next)
              | .ret v => .pure (.done (.ret v))) (hurt env) id id) fs s3)
            (fun x s' => Seg (model prog w) A R Y n s₀ (.forLoop target it body [] env) (hurt env x) fs s') s2) (fun _ _ => False) s1) (fun _ _ => False) s) :
    Seg (model prog w) A R Y n s₀ (.forLoop target it body [] env) ((model prog w).den (.forLoop target it body [] env)) fs s := by
  show Seg _ A R Y n s₀ _ ((forTurn target it body [] env).onRaise (fun x => do noteFrame x env; theTreesLotGoes x)) fs s
  unfold forTurn
  rw [Sem.onRaise_eq_wrap]
  refine seg_bind_wrap (wpAny_standAt (seg_bind_wrap (wpAny_onRaise (wpAny_mono h (fun r s1 h1 => ?_) fun _ _ z => z.elim))))
  cases r with
  | none => exact h1
  | some v =>
    refine seg_bind_wrap (wpAny_mono h1 (fun _ s2 h2 => seg_bind_wrap (wpAny_mono h2 (fun _ s3 h3 => ?_) fun x s' hx => ?_)) fun _ _ z => z.elim)
    · rw [Sem.bind_eq_wrap', Sem.wrap_wrap]
      rw [Sem.wrap_congr (execs body env) _ _ (K' := fun f => match f with
            | .next | .cont => .pure (.again (.forLoop target it body [] env))
            | .brk => .pure (.done .next)
            | .ret v => .pure (.done (.ret v))) (H' := hurt env)
        (fun f => by cases f <;> rfl)
        (fun e => by
          unfold hurt
          first | exact Sem.bind_eq_wrap _ _ | (show (do noteFrame e env; theTreesLotGoes e : Sem Unit).bind (fun _ => .raise e) = _; rw [Sem.bind_eq_wrap]))]
      exact h3
    · unfold hurt at hx
      rw [← Sem.bind_eq_wrap] at hx
      exact hx
end
section
variable {X : Cx}
def tGFor (wi : TI) (g : TG) (tb : TGn) : TGn := fun D ys σ H => wi σ H fun J H1 => ∃ W : Nat → Nat → List V → L2.St → Hp → Prop, (∃ m, W 0 m ys σ H1) ∧ ∀ i m ys σ H, W i m ys σ H →
  (J.stop i H ∧ D.nx ys σ H) ∨ (J.go i H ∧ ∃ N : List V → L2.St → Hp → Prop, (∀ ys' σ' H', N ys' σ' H' → ∃ m', m' < m ∧ W (i + 1) m' ys' σ' H') ∧ ∀ x H', J.yld i H x H' → g x σ H' fun σ2 H2 => tb { D with nx := N, ct := N, bk := D.nx } ys σ2 H2)
theorem gs_for {tg iter : Expr} {body : List Stmt} {pos : Pos} {wi : TI} {g : TG} {tb : TGn} (hp : PassesOwn (model X.prog X.w) X.A X.env X.xe) (hc : X.calm = true) (hi : PI X tg iter wi) (hg : PG X tg g) (hb : GSs X body tb)
    (hs : ∀ x, foldedSetIterable iter X.env x = pure x := by intro _; rfl) : GS X (.For tg iter body [] pos) (tGFor wi g tb) := by
  refine ⟨fun A S ip R n ys s₀ c fs K J gd lv s σ H D gc hn k hI ht => ?_⟩
  obtain ⟨acc0, cc0, r, I⟩ := hI
  have ov := gc.over
  rw [exec_For]
  refine seg_bind_wrap (wpAny_standAt (seg_bind_wrap ?_))
  rw [ov]
  refine wpAny_mono (hi.run _ s σ H _ I ht) (fun v s1 h1 => ?_) fun x s' hx => k.exc n s₀ x s' hx
  refine seg_bind_wrap (wpAny_of_eq (hs v) (seg_bind_wrap (wpAny_standAt (seg_bind_wrap (wpAny_holding ?_)))))
  rw [ov]
  refine wpAny_mono h1 (fun itv s2 h2 => ?_) fun x s' hx => k.exc n s₀ x s' hx
  obtain ⟨it, fp, tn, Jt, H2, e, I2, T, st2, f2, W, ⟨m0, w0⟩, turn⟩ := h2
  subst e
  refine seg_call fun p => ?_
  have gl := fun (kk : Result → Sem PySem.Fin) => gc_loop (k := kk) (c' := .forLoop tg (.ref it) body [] X.env) (l := lv []) (kp := []) (p := p) gc rfl rfl
  have loop : ∀ (m i n : Nat) (ys : List V) (s₀ s : Shared) (σ : L2.St) (H : Hp), n + ys.length = sizeLine → W i m ys σ H → GI X S ip ys σ H s → tn i s.heap → (∀ b ∈ fp, H b = none) →
      Seg (model X.prog X.w) A R (GY X S) n s₀ (.forLoop tg (.ref it) body [] X.env) ((model X.prog X.w).den (.forLoop tg (.ref it) body [] X.env))
        (.ret (fun r => ((match r with | .ok f => (.pure f : Sem Flow) | .error e => .raise e).onRaise (cameBack X.env)).wrap K J gd lv) none (gd false) (lv []) c p [] :: fs) s := by
    intro m
    induction m using Nat.strongRecOn with
    | ind m ih =>
      intro i n ys s₀ s σ H hn w hI hst hfr
      have ee : ∀ (n : Nat) (s₀ : Shared) (x : Value) (s' : Shared), X.xe x s' → Seg (model X.prog X.w) A R (GY X S) n s₀ (.forLoop tg (.ref it) body [] X.env) (hurt X.env x)
          (.ret (fun r => ((match r with | .ok f => (.pure f : Sem Flow) | .error e => .raise e).onRaise (cameBack X.env)).wrap K J gd lv) none (gd false) (lv []) c p [] :: fs) s' := fun n s₀ x s' hx => by
        refine seg_wrap ?_
        rw [(gl _).over]
        refine wpAny_bind (wpAny_mono (hp x s' hx) (fun _ s'' hcb => wpAny_theTreesLotGoes ?_) fun y s'' hcb => ?_)
        · exact seg_leaf (.error x) (seg_cameBack gc k hcb)
        · exact seg_leaf (.error y) (seg_cameBack gc k hcb)
      refine seg_forLoop ?_
      rw [(gl _).over]
      obtain ⟨acc, cc, r, I⟩ := hI
      have stat : ∀ {acc' : Array Value} {cc' : Nat} {H' : Hp}, (∀ b ∈ fp, H' b = none) → ∀ b ∈ fp, FpOk X ((S, lstObj acc' cc') :: ip) H' b := fun {acc' cc' H'} hn b hb => by
        obtain ⟨_, q1, q2, q3, q4, q5⟩ := f2 b hb
        refine ⟨hn b hb, q1, q2, q3, q4, fun p hp => ?_⟩
        rcases List.mem_append.mp hp with z | z
        · exact q5 p (List.mem_append_left _ z)
        · rcases List.mem_cons.mp z with z | z
          · rw [z]
            have := q5 (S, lstObj acc0 cc0) (List.mem_append_right _ List.mem_cons_self)
            exact this
          · exact q5 p (List.mem_append_right _ (List.mem_cons_of_mem _ z))
      rcases turn i m ys σ H w with ⟨stop, qn⟩ | ⟨go, N, hN, step⟩
      · refine wpAny_mono (T.done X rfl rfl rfl hc i _ s σ H (fun _ _ => False) I (stat hfr) hst stop) (fun q s4 ⟨hq, I4⟩ => ?_) fun _ _ z => z
        subst hq
        refine seg_again rfl ?_
        exact seg_leaf (.ok .next) (k.ok n ys s₀ s4 .next hn ⟨σ, H, ⟨acc, cc, r, I4⟩, qn⟩)
      · refine wpAny_mono (T.item X rfl rfl rfl hc i _ s σ H (fun _ _ => False) I (stat hfr) hst go) (fun q s4 ⟨u, hq, h4⟩ => ?_) fun _ _ z => z
        subst hq
        refine wpAny_mono h4 (fun _ s5 ⟨x, H5, I5, r5, y5, st5, fr5⟩ => ?_) fun _ _ z => z
        have I5' := I5.pinned (stat fr5) (T.obj _ _ st5)
        have hpinS : ∀ q ∈ ip ++ pinsAt fp s5.heap, q.1 ≠ S := fun q hq z => by
          rcases List.mem_append.mp hq with y | y
          · exact gc.ip q y z
          · obtain ⟨hb', _⟩ := of_pinsAt y
            obtain ⟨_, _, _, _, _, q5⟩ := f2 q.1 hb'
            exact q5 (S, lstObj acc0 cc0) (List.mem_append_right _ List.mem_cons_self) z.symm
        refine wpAny_mono (hg.run _ s5 σ H5 x u _ I5' r5 (step x H5 y5)) (fun _ s6 ⟨σ6, H6, I6, q6⟩ => ?_) fun x s' hx => ee n s₀ x s' hx
        have gl2 : ∀ kk : Result → Sem PySem.Fin, GC X S (ip ++ pinsAt fp s5.heap) A (.forLoop tg (.ref it) body [] X.env) (.ret kk none (gd false) (lv []) c p [] :: fs) id := fun kk => ⟨(gl kk).pn, hpinS, (gl kk).apart, (gl kk).over, (gl kk).split, (gl kk).guard, (gl kk).gd⟩
        have un : ∀ {ys' : List V} {σ7 : L2.St} {H7 : Hp} {s7 : Shared}, GI X S (ip ++ pinsAt fp s5.heap) ys' σ7 H7 s7 → GI X S ip ys' σ7 H7 s7 ∧ tn (i + 1) s7.heap ∧ ∀ b ∈ fp, H7 b = none := fun {ys' σ7 H7 s7} ⟨acc7, c7, r7, I7⟩ => by
          have I7' : Inv X (((S, lstObj acc7 c7) :: ip) ++ pinsAt fp s5.heap) σ7 H7 s7 := I7
          refine ⟨⟨acc7, c7, r7, I7'.unpinned⟩, T.keep _ _ _ st5 fun b hb o e => (I7'.pin (b, o) (List.mem_append_right _ (List.mem_append_right _ (mem_pinsAt hb e)))).1, fun b hb => ?_⟩
          obtain ⟨o, e, d⟩ := T.obj _ _ st5 b hb
          exact (I7'.pin (b, o) (List.mem_append_right _ (List.mem_append_right _ (mem_pinsAt hb e)))).2.1
        refine hb.run A S (ip ++ pinsAt fp s5.heap) R n ys s₀ _ _ _ _ id id s6 σ6 H6 { D with nx := N, ct := N, bk := D.nx } (gl2 _) hn ⟨fun n' ys' s₀' s3 f hn' hs' => ?_, fun n' s₀' x s3 hx => ee n' s₀' x s3 hx⟩ ⟨acc, cc, r, I6⟩ q6
        cases f with
        | next =>
          obtain ⟨σ3, H3, I3, n3⟩ := hs'
          obtain ⟨m', hm, w3⟩ := hN ys' σ3 H3 n3
          obtain ⟨g3, t3, fr3⟩ := un I3
          exact seg_again rfl (ih m' hm (i + 1) n' ys' s₀' s3 σ3 H3 hn' w3 g3 t3 fr3)
        | cont =>
          obtain ⟨σ3, H3, I3, n3⟩ := hs'
          obtain ⟨m', hm, w3⟩ := hN ys' σ3 H3 n3
          obtain ⟨g3, t3, fr3⟩ := un I3
          exact seg_again rfl (ih m' hm (i + 1) n' ys' s₀' s3 σ3 H3 hn' w3 g3 t3 fr3)
        | brk =>
          obtain ⟨σ3, H3, I3, q3⟩ := hs'
          exact seg_leaf (.ok .next) (k.ok n' ys' s₀' s3 .next hn' ⟨σ3, H3, (un I3).1, q3⟩)
        | ret v =>
          obtain ⟨v3, σ3, H3, I3, r3, q3⟩ := hs'
          exact seg_leaf (.ok (.ret v)) (k.ok n' ys' s₀' s3 (.ret v) hn' ⟨v3, σ3, H3, (un I3).1, r3, q3⟩)
  exact loop m0 0 n ys s₀ s2 σ H2 hn w0 ⟨acc0, cc0, r, I2⟩ st2 fun b hb => (f2 b hb).1
end
end LkG5
set_option Elab.async false
set_option linter.all false
set_option maxRecDepth 100000
set_option maxHeartbeats 4000000
namespace Lk
open PySem PySem.Spec PyProof.Rows L2 TxS LkO LkG
/-- a == b of texts -/
def rEqS : R2 := fun x y H Q => ∃ u v : Str, x = .str u ∧ y = .str v ∧ Q (.bl (decide (u = v))) H
theorem qt_eqS {X : Cx} {a b : Expr} {ta tb : TE} {pos : Pos} (ha : QE X a ta) (hb : QE X b tb) (hm : behindInMarks .Eq b = false) : QT X (.Compare a [.Eq] [b] pos) (tTest (tOp rEqS ta tb)) := by
  refine ⟨fun pins s σ H Q I h => wpAny_isTrue_Compare1 (thq (ha.run pins s σ H _ I h) fun v s1 ⟨⟨x, H1, I1, rx, q1⟩, k1⟩ => thq (hb.run pins s1 σ H1 _ I1 q1) fun u s2 ⟨⟨y, H2, I2, ry, q2⟩, k2⟩ => ?_) hm⟩
  obtain ⟨z1, z2, rfl, rfl, k, e, q⟩ := q2
  obtain ⟨t1, rfl⟩ := rx
  obtain ⟨t2, rfl⟩ := ry
  injection e with e2
  refine eq_str ?_
  rw [show (z1 == z2) = k from by rw [← e2]; by_cases h : z1 = z2 <;> simp [h]]
  exact wpAny_truthy_bool ⟨⟨H2, I2, q⟩, k1.trans k2⟩
/-- the room behind a door -/
def behD (d : DoorD) (room : Str) : Option Str := if d.a = room then some d.b else if d.both = true ∧ d.b = room then some d.a else none
theorem behD_ways (d : DoorD) (room : Str) : behD d room = ((waysOf d).find? fun q => decide (q.1 = room)).map (·.2) := by
  unfold behD waysOf
  by_cases h1 : d.a = room
  · simp [h1]
  · by_cases h2 : d.both = true
    · by_cases h3 : d.b = room <;> simp [h1, h2, h3]
    · simp [h1, h2]
def nextOf (b : BldD) (p : PersonD) (ls stops : List Str) (q : Str × DoorD) : Option Str := if passOf ls (heldOf b p stops) q = true then behD q.2 (stops.getLast?.getD ⟨#[]⟩) else none
abbrev wkF : List Str := ["kept_building", "kept_person", "kept_locks", "kept_passed", "kept_stops"]
def wkFs (x py z l1 l2 : Addr) : List (Str × V) := [("kept_building", .ref x), ("kept_person", .ref py), ("kept_locks", .ref z), ("kept_passed", .ref l1), ("kept_stops", .ref l2)]
/-- a Walk -/
structure WkIn (K : PySem.W.Frag) (CD CP CB CL CW : Addr) (H : Hp) (y : Addr) (b : BldD) (p : PersonD) (ls : List Str) (dy x py z l1 l2 : Addr) (passed stops : List Str) : Prop where
  ob : H y = some (.ins CW dy (wkFs x py z l1 l2))
  bld : BldAt K CD CP CB H x b
  per : PersonAt K CP H py p
  lk : LkAt CL H z ls
  pas : H l1 = some (.lst (passed.map V.str))
  sto : H l2 = some (.lst (stops.map V.str))
  ne : l1 ≠ l2
theorem WkIn.same {K : PySem.W.Frag} {CD CP CB CL CW : Addr} {H H' : Hp} {y : Addr} {b : BldD} {p : PersonD} {ls : List Str} {dy x py z l1 l2 : Addr} {passed stops : List Str} (h : WkIn K CD CP CB CL CW H y b p ls dy x py z l1 l2 passed stops) (s : Same H H') : WkIn K CD CP CB CL CW H' y b p ls dy x py z l1 l2 passed stops :=
  ⟨s _ _ h.ob, h.bld.same s, h.per.same s, h.lk.same s, s _ _ h.pas, s _ _ h.sto, h.ne⟩
theorem look_wk (x py z l1 l2 : Addr) : List.lookup ("kept_building" : Str) (wkFs x py z l1 l2) = some (V.ref x) ∧ List.lookup ("kept_person" : Str) (wkFs x py z l1 l2) = some (V.ref py) ∧ List.lookup ("kept_locks" : Str) (wkFs x py z l1 l2) = some (V.ref z) ∧
  List.lookup ("kept_passed" : Str) (wkFs x py z l1 l2) = some (V.ref l1) ∧ List.lookup ("kept_stops" : Str) (wkFs x py z l1 l2) = some (V.ref l2) := ⟨rfl, rfl, rfl, rfl, rfl⟩
theorem atI_end {zs : List Str} (ne : zs ≠ []) : atI (zs.map V.str) (-1) = some (V.str (zs.getLast?.getD ⟨#[]⟩)) := by
  obtain ⟨ys, z, rfl⟩ : ∃ ys z, zs = ys ++ [z] := ⟨zs.dropLast, zs.getLast ne, (List.dropLast_concat_getLast ne).symm⟩
  rw [List.getLast?_concat, List.map_append]
  exact atI_last _ _
/-- all but empty instances stay -/
def NI (H H' : Hp) : Prop := ∀ b o, H b = some o → (∀ C dx, o ≠ .ins C dx []) → H' b = some o
theorem NI.of {y C dy : Addr} {H H' : Hp} (b : But y H H') (h : H y = some (.ins C dy [])) : NI H H' := fun a o e n => b a o e fun z => by
  rw [z, h] at e
  exact n _ _ (Option.some.inj e).symm
theorem NI.tup {K : PySem.W.Frag} {H H' : Hp} {a : Addr} {xs : List V} (e : NI H H') (h : SqT K H a xs) : SqT K H' a xs := by
  rcases h with (h | ⟨o, h⟩) | h
  · exact .inl (.inl (e _ _ h fun _ _ z => by cases z))
  · exact .inl (.inr ⟨o, e _ _ h fun _ _ z => by cases z⟩)
  · exact .inr h
theorem ni_ins {C dx : Addr} {q : Str × V} {r : List (Str × V)} : ∀ C' dx', (HO.ins C dx (q :: r)) ≠ .ins C' dx' [] := fun _ _ z => by cases z
theorem DoorAt.ni {C x : Addr} {H H' : Hp} {d : DoorD} (h : DoorAt C H x d) (s : NI H H') : DoorAt C H' x d := ⟨h.ob.imp fun _ e => s _ _ e ni_ins, h.ok⟩
theorem PersonAt.ni {K : PySem.W.Frag} {C x : Addr} {H H' : Hp} {p : PersonD} (h : PersonAt K C H x p) (s : NI H H') : PersonAt K C H' x p := by
  obtain ⟨⟨dy, t1, t2, t3, e, h1, h2, h3⟩, ok⟩ := h
  exact ⟨⟨dy, t1, t2, t3, s _ _ e ni_ins, s.tup h1, s.tup h2, s.tup h3⟩, ok⟩
theorem LkAt.ni {C : Addr} {H H' : Hp} {a : Addr} {zs : List Str} (h : LkAt C H a zs) (s : NI H H') : LkAt C H' a zs := by
  obtain ⟨⟨dx, t, h1, h2⟩, h3, h4⟩ := h
  exact ⟨⟨dx, t, s _ _ h1 ni_ins, s _ _ h2 fun _ _ z => by cases z⟩, h3, h4⟩
theorem BldAt.ni {K : PySem.W.Frag} {CD CP CB : Addr} {H H' : Hp} {x : Addr} {b : BldD} (h : BldAt K CD CP CB H x b) (s : NI H H') : BldAt K CD CP CB H' x b := by
  obtain ⟨⟨dx, r, k, dn, dd, pn, pd, ok, od, op, kvs, ds, ps, i⟩, hok⟩ := h
  have fz : ∀ {o : Obj} {u : HO}, ∀ C dx, (HO.frz o u) ≠ .ins C dx [] := fun _ _ z => by cases z
  exact ⟨⟨dx, r, k, dn, dd, pn, pd, ok, od, op, kvs, ds, ps, s _ _ i.ob ni_ins, s.tup i.rooms, s _ _ i.keys fz, i.keysT, s.tup i.dn, s _ _ i.doors fz, i.doorsT.mono (fun v d ⟨x, e, a⟩ => ⟨x, e, a.ni s⟩), s.tup i.pn, s _ _ i.people fz, i.peopleT.mono (fun v d ⟨x, e, a⟩ => ⟨x, e, a.ni s⟩)⟩, hok⟩
section
variable {P : Program} {w : World} {K : PySem.W.Frag} {mg : Str → Option Value} {base : Heap} {CD CP CB CL CW : Addr}
/-! ### room_behind -/
def spBeh (CD : Addr) : Sp := fun vs H Q _ => ∃ (y : Addr) (d : DoorD) (room : Str), vs = [.ref y, .str room] ∧ DoorAt CD H y d ∧ ∀ H', Same H H' → Q (oV (behD d room)) H'
theorem scBeh : FnScope ["door", "room", "start", "end"] ["door", "room"] (defScope s_room_behind) := ⟨rfl, rfl, rfl, by decide +kernel, rfl, by decide +kernel, by decide +kernel⟩
theorem ok_beh {f : Addr} {fd : FuncData} (F : Fun K "room_behind" "room_behind" s_room_behind f fd) (TD : DoorT P w K mg base CD) (GW : Gen P w K mg base CD) : FnOk P w K mg base CX0 3 f fd ["door", "room"] (spBeh CD) := by
  obtain ⟨fW, fdW, mW, bW, FW⟩ := GW.ex
  refine F.ok scBeh (fun vs H Q E h => ?_) (fun cdv A outer s H vs Q E hr h => ?_)
  · obtain ⟨y, d, room, rfl, _⟩ := h
    rfl
  · obtain ⟨y, d, room, rfl, hd, q⟩ := h
    have hr1 := hr.mono (show 1 ≤ 2 by decide)
    refine ⟨_, pss_cons (ps_forG (ix := 2) (iy := 3) (k := 1) (tt := tTest (tOp rEqS (tVar 2) (tVar 1))) (te := tVar 3) rfl scBeh.nd hr (List.Mem.head _) (pgt_meth0 (pv 0) TD.c.cl mW FW hr1 bW) rfl rfl rfl rfl
          (qt_eqS (qv 2) (qv 1) rfl) (qv 3)) (pss_one (ps_ret pe_non)), ?_⟩
    obtain ⟨⟨dy, hy⟩, dok⟩ := id hd
    rw [behD_ways] at q
    refine ⟨.ref y, rfl, y, dy, _, strPairs (waysOf d), rfl, hy, rfl, ⟨y, d, rfl, hd, rfl⟩, ?_⟩
    have lw : (strPairs (waysOf d)).length = (waysOf d).length := by
      unfold strPairs
      rw [List.length_map]
    refine ⟨fun i σ H' => (∃ v2 v3, σ = [some (.ref y), some (.str room), v2, v3]) ∧ Same H H' ∧ ∀ q' ∈ (waysOf d).take i, q'.1 ≠ room, ⟨⟨none, none, rfl⟩, Same.refl _, fun _ h => by simp at h⟩, fun σ2 H3 hw => ?_, fun i u v σ2 H3 pt hi hw npt => ?_⟩
    · obtain ⟨⟨v2, v3, rfl⟩, s3, no⟩ := hw
      rw [lw, List.take_length] at no
      have e2 : (waysOf d).find? (fun q => decide (q.1 = room)) = none := List.find?_eq_none.mpr fun q' hq' => by simpa using no q' hq'
      rw [e2] at q
      exact q _ s3
    · obtain ⟨⟨v2, v3, rfl⟩, s3, no⟩ := hw
      have hj2 : ∃ q', (waysOf d)[i]? = some q' ∧ u = .str q'.1 ∧ v = .str q'.2 := by
        unfold strPairs at hi
        rw [List.getElem?_map] at hi
        cases eq1 : (waysOf d)[i]? with
        | none =>
          rw [eq1] at hi
          cases hi
        | some q' =>
          rw [eq1] at hi
          cases hi
          exact ⟨q', rfl, rfl, rfl⟩
      obtain ⟨q', hq', rfl, rfl⟩ := hj2
      have s4 := s3.trans (same_new (o := .tup [.str q'.1, .str q'.2]) npt)
      refine ⟨.str q'.1, rfl, .str room, rfl, q'.1, room, rfl, rfl, _, rfl, ite2 (fun e => ?_) (fun e => ?_)⟩
      · refine ⟨.str q'.2, rfl, ?_⟩
        have e2 : (waysOf d).find? (fun q => decide (q.1 = room)) = some q' := by
          have hlt := List.getElem?_eq_some_iff.mp hq'
          rw [List.find?_eq_some_iff_getElem]
          refine ⟨e, i, hlt.1, hlt.2, fun j hj => ?_⟩
          have hjl : j < (waysOf d).length := by have := hlt.1; omega
          have := no (waysOf d)[j] (List.mem_take_iff_getElem.mpr ⟨j, by omega, rfl⟩)
          simpa using this
        rw [e2] at q
        exact q _ s4
      · refine ⟨⟨_, _, rfl⟩, s4, fun q2 hq2 => ?_⟩
        rw [take_next1 hq'] at hq2
        rcases List.mem_append.mp hq2 with h | h
        · exact no q2 h
        · rw [List.mem_singleton.mp h]
          exact fun z => e (decide_eq_true z)
/-! ### Walk.__init__ -/
def spWIn (K : PySem.W.Frag) (CD CP CB CL CW : Addr) : Sp := fun vs H Q _ => ∃ (y dy x z : Addr) (b : BldD) (n : Str) (p : PersonD) (ls : List Str), vs = [.ref y, .ref x, .str n, .ref z] ∧ H y = some (.ins CW dy []) ∧ BldAt K CD CP CB H x b ∧ b.people.lookup n = some p ∧ LkAt CL H z ls ∧ ls.length ≤ 1000 ∧ (∀ z ∈ ls, z ∈ b.doors.map (·.1)) ∧
  ∀ H' py l1 l2, But y H H' → H l1 = none → H l2 = none → WkIn K CD CP CB CL CW H' y b p ls dy x py z l1 l2 [] [p.a] → Q .non H'
abbrev nWIn : List Str := ["self", "building", "name", "locks", "person"]
theorem scWIn : FnScope nWIn ["self", "building", "name", "locks"] (defScope s_Walk___init__) := ⟨rfl, rfl, rfl, by decide +kernel, rfl, by decide +kernel, by decide +kernel⟩
theorem ok_wIn {f : Addr} {fd : FuncData} (F : Fun K "__init__" "Walk.__init__" s_Walk___init__ f fd) (T : OwnC K mg CB "Building" bldF) (TW : OwnC K mg CW "Walk" wkF) (TP : PersT P w K mg base CP) (GB : Fn P w K mg base 1 "check_building" ["building"] (spChkB CB)) (MP : Mt P w K mg base 2 CB "person" ["self", "name"] (spPersOf K CD CP CB))
    (GL : Fn P w K mg base 3 "check_locks" ["building", "locks"] (spChk K CD CP CB CL)) : FnOk P w K mg base CX0 4 f fd ["self", "building", "name", "locks"] (spWIn K CD CP CB CL CW) := by
  refine F.ok scWIn (fun vs H Q E h => ?_) (fun cdv A outer s H vs Q E hr h => ?_)
  · obtain ⟨y, dy, x, z, b, n, p, ls, rfl, _⟩ := h
    rfl
  · obtain ⟨y, dy, x, z, b, n, p, ls, rfl, hy, hb, hn, hz, few, sub, q⟩ := h
    have hr1 := hr.mono (show 1 ≤ 3 by decide)
    have hr2 := hr.mono (show 2 ≤ 3 by decide)
    have nK := TW.nK
    have one : (1 : Nat) ≤ sizeLine := by rw [sizeLine_eq]; decide
    refine ⟨_, (pss_cons (ps_expr (pe_fn GB hr1 (by rfl) (pa_cons (pv 1) pa_nil)))
      (pss_cons (ps_set (i := 4) scWIn.nd rfl (.inl rfl) (pe_mt MP hr2 T.cl (pv 1) (pa_cons (pv 2) pa_nil)))
      (pss_cons (ps_expr (pe_fn GL hr (by rfl) (pa_cons (pv 1) (pa_cons (pv 3) pa_nil))))
      (pss_cons (ps_fld (pv 0) (pv 1) rfl)
      (pss_cons (ps_fld (pv 0) (pv 4) rfl)
      (pss_cons (ps_fld (pv 0) (pv 3) rfl)
      (pss_cons (ps_fld (pv 0) (pe_lst pa_nil) rfl)
      (pss_one (ps_fld (pv 0) (pe_lst (pa_cons (pe_pr TP.start hr2 TP.c.cl (pv 4) rfl) pa_nil)) rfl))))))))), ?_⟩
    obtain ⟨⟨dx, r, k, dn, dd, pn, pd, ok, od, op, kvs, ds, ps, I⟩, bok⟩ := id hb
    refine ⟨.ref x, rfl, x, dx, _, rfl, I.ob, ?_⟩
    refine ⟨.ref x, rfl, x, dx, _, rfl, I.ob, rfl, .str n, rfl, x, b, n, p, rfl, hb, hn, fun H1 py s1 hpy => ?_⟩
    refine ⟨.ref x, rfl, .ref z, rfl, x, z, b, ls, rfl, hb.same s1, hz.same s1, few, sub, fun H2 s2 => ?_⟩
    have s12 := s1.trans s2
    have hy2 := s12 _ _ hy
    have hpy2 := hpy.same s2
    obtain ⟨⟨dpy, t1, t2, t3, h0, h1, h2, h3⟩, pok⟩ := id hpy2
    have npy : py ≠ y := fun e => by
      rw [e, hy2] at h0
      cases h0
    refine ⟨.ref x, rfl, .ref y, rfl, y, CW, dy, [], rfl, hy2, TW.cl, nK _ (by simp), by show 0 < 1000; decide, ?_⟩
    refine ⟨.ref py, rfl, .ref y, rfl, y, CW, dy, _, rfl, upd_same, TW.cl, nK _ (by simp), by show 1 < 1000; decide, ?_⟩
    refine ⟨.ref z, rfl, .ref y, rfl, y, CW, dy, _, rfl, upd_same, TW.cl, nK _ (by simp), by show 2 < 1000; decide, ?_⟩
    have b3 : But y H2 (upd (upd (upd H2 y (.ins CW dy (putF "kept_building" (.ref x) []))) y (.ins CW dy (putF "kept_person" (.ref py) (putF "kept_building" (.ref x) [])))) y (.ins CW dy (putF "kept_locks" (.ref z) (putF "kept_person" (.ref py) (putF "kept_building" (.ref x) []))))) := (But.put.trans But.put).trans But.put
    have e3 : (upd (upd (upd H2 y (.ins CW dy (putF "kept_building" (.ref x) []))) y (.ins CW dy (putF "kept_person" (.ref py) (putF "kept_building" (.ref x) [])))) y (.ins CW dy (putF "kept_locks" (.ref z) (putF "kept_person" (.ref py) (putF "kept_building" (.ref x) []))))) y = some (.ins CW dy (putF "kept_locks" (.ref z) (putF "kept_person" (.ref py) (putF "kept_building" (.ref x) [])))) := upd_same
    generalize (upd (upd (upd H2 y (.ins CW dy (putF "kept_building" (.ref x) []))) y (.ins CW dy (putF "kept_person" (.ref py) (putF "kept_building" (.ref x) [])))) y (.ins CW dy (putF "kept_locks" (.ref z) (putF "kept_person" (.ref py) (putF "kept_building" (.ref x) []))))) = H3 at b3 e3
    refine ⟨Nat.zero_le _, fun l1 nl1 => ?_⟩
    have ny1 : l1 ≠ y := fun e => by rw [e, e3] at nl1; cases nl1
    refine ⟨.ref y, rfl, y, CW, dy, _, rfl, by rw [upd_ne (Ne.symm ny1)]; exact e3, TW.cl, nK _ (by simp), by show 3 < 1000; decide, ?_⟩
    have b4 : But y H2 (upd (upd H3 l1 (.lst [])) y (.ins CW dy (putF "kept_passed" (.ref l1) (putF "kept_locks" (.ref z) (putF "kept_person" (.ref py) (putF "kept_building" (.ref x) [])))))) := (b3.trans (But.new nl1)).trans But.put
    have e4 : (upd (upd H3 l1 (.lst [])) y (.ins CW dy (putF "kept_passed" (.ref l1) (putF "kept_locks" (.ref z) (putF "kept_person" (.ref py) (putF "kept_building" (.ref x) [])))))) y = some (.ins CW dy (putF "kept_passed" (.ref l1) (putF "kept_locks" (.ref z) (putF "kept_person" (.ref py) (putF "kept_building" (.ref x) []))))) := upd_same
    have el1 : (upd (upd H3 l1 (.lst [])) y (.ins CW dy (putF "kept_passed" (.ref l1) (putF "kept_locks" (.ref z) (putF "kept_person" (.ref py) (putF "kept_building" (.ref x) [])))))) l1 = some (.lst []) := by rw [upd_ne ny1]; exact upd_same
    generalize (upd (upd H3 l1 (.lst [])) y (.ins CW dy (putF "kept_passed" (.ref l1) (putF "kept_locks" (.ref z) (putF "kept_person" (.ref py) (putF "kept_building" (.ref x) [])))))) = H4 at b4 e4 el1
    have h04 := b4 _ _ h0 npy
    refine ⟨.ref py, rfl, py, dpy, _, rfl, h04, py, dpy, _, _, rfl, h04, (look_person p.a t1 t2 t3).1, one, fun l2 nl2 => ?_⟩
    have ny2 : l2 ≠ y := fun e => by rw [e, e4] at nl2; cases nl2
    have n12 : l1 ≠ l2 := fun e => by rw [← e, el1] at nl2; cases nl2
    refine ⟨.ref y, rfl, y, CW, dy, _, rfl, by rw [upd_ne (Ne.symm ny2)]; exact e4, TW.cl, nK _ (by simp), by show 4 < 1000; decide, ?_⟩
    have b5 : But y H (upd (upd H4 l2 (.lst [.str p.a])) y (.ins CW dy (putF "kept_stops" (.ref l2) (putF "kept_passed" (.ref l1) (putF "kept_locks" (.ref z) (putF "kept_person" (.ref py) (putF "kept_building" (.ref x) []))))))) := (((But.of s12).trans b4).trans (But.new nl2)).trans But.put
    have bH2 : But y H2 (upd (upd H4 l2 (.lst [.str p.a])) y (.ins CW dy (putF "kept_stops" (.ref l2) (putF "kept_passed" (.ref l1) (putF "kept_locks" (.ref z) (putF "kept_person" (.ref py) (putF "kept_building" (.ref x) []))))))) := (b4.trans (But.new nl2)).trans But.put
    have none_of : ∀ {l : Addr}, l ≠ y → H4 l = none → H l = none := fun {l} hl h => by
      cases e : H l with
      | none => rfl
      | some o =>
        have := (((But.of s12).trans b4)) _ _ e hl
        rw [h] at this
        cases this
    have none_1 : H l1 = none := by
      cases e : H l1 with
      | none => rfl
      | some o =>
        have := ((But.of s12).trans b3) _ _ e ny1
        rw [nl1] at this
        cases this
    refine q _ py l1 l2 b5 none_1 (none_of ny2 nl2) ⟨upd_same, ?_, ?_, ?_, ?_, ?_, n12⟩
    · exact (hb.same s12).ni (NI.of bH2 hy2)
    · exact hpy2.ni (NI.of bH2 hy2)
    · exact (hz.same s12).ni (NI.of bH2 hy2)
    · rw [upd_ne ny1, upd_ne n12]
      exact el1
    · rw [upd_ne ny2]
      exact upd_same
/-! ### room, passed, visited -/
def spWRoom (K : PySem.W.Frag) (CD CP CB CL CW : Addr) : Sp := fun vs H Q _ => ∃ (y : Addr) (b : BldD) (p : PersonD) (ls : List Str) (dy x py z l1 l2 : Addr) (passed stops : List Str), vs = [.ref y] ∧ WkIn K CD CP CB CL CW H y b p ls dy x py z l1 l2 passed stops ∧ stops ≠ [] ∧ Q (.str (stops.getLast?.getD ⟨#[]⟩)) H
theorem scWRoom : FnScope ["self"] ["self"] (defScope s_Walk_room) := ⟨rfl, rfl, rfl, by decide +kernel, rfl, by decide +kernel, by decide +kernel⟩
theorem ok_wRoom {f : Addr} {fd : FuncData} {k : Nat} (F : Fun K "room" "Walk.room" s_Walk_room f fd) (TW : OwnC K mg CW "Walk" wkF) : FnOk P w K mg base CX0 (k + 1) f fd ["self"] (spWRoom K CD CP CB CL CW) := by
  refine F.ok scWRoom (fun vs H Q E h => ?_) (fun cdv A outer s H vs Q E hr h => ?_)
  · obtain ⟨y, b, p, ls, dy, x, py, z, l1, l2, passed, stops, rfl, _⟩ := h
    rfl
  · obtain ⟨y, b, p, ls, dy, x, py, z, l1, l2, passed, stops, rfl, W, ne, q⟩ := h
    refine ⟨_, pss_one (ps_ret (pe_ix ix_list (pe_fld (pv 0) rfl) (pe_un un_neg pe_int) (fun _ _ => rfl))), ?_⟩
    exact ⟨.ref y, rfl, y, CW, dy, _, _, rfl, W.ob, TW.cl, TW.nK _ (by simp), (look_wk x py z l1 l2).2.2.2.2, 1, rfl, l2, _, -1, _, rfl, rfl, .inl (.inl W.sto), atI_end ne, q⟩
def spWPassed (K : PySem.W.Frag) (CD CP CB CL CW : Addr) : Sp := fun vs H Q _ => ∃ (y : Addr) (b : BldD) (p : PersonD) (ls : List Str) (dy x py z l1 l2 : Addr) (passed stops : List Str), vs = [.ref y] ∧ WkIn K CD CP CB CL CW H y b p ls dy x py z l1 l2 passed stops ∧ ∀ m, H m = none → Q (.ref m) (upd H m (.lst (passed.map V.str)))
theorem scWPassed : FnScope ["self"] ["self"] (defScope s_Walk_passed) := ⟨rfl, rfl, rfl, by decide +kernel, rfl, by decide +kernel, by decide +kernel⟩
theorem ok_wPassed {f : Addr} {fd : FuncData} {k : Nat} (F : Fun K "passed" "Walk.passed" s_Walk_passed f fd) (B : Blt mg) (TW : OwnC K mg CW "Walk" wkF) : FnOk P w K mg base CX0 (k + 1) f fd ["self"] (spWPassed K CD CP CB CL CW) := by
  refine F.ok scWPassed (fun vs H Q E h => ?_) (fun cdv A outer s H vs Q E hr h => ?_)
  · obtain ⟨y, b, p, ls, dy, x, py, z, l1, l2, passed, stops, rfl, _⟩ := h
    rfl
  · obtain ⟨y, b, p, ls, dy, x, py, z, l1, l2, passed, stops, rfl, W, q⟩ := h
    refine ⟨_, pss_one (ps_ret (pe_callTy call_list_of (by rfl) B.lst PyProof.Rows.boot_list (pa_cons (pe_fld (pv 0) rfl) pa_nil))), ?_⟩
    exact ⟨.ref y, rfl, y, CW, dy, _, _, rfl, W.ob, TW.cl, TW.nK _ (by simp), (look_wk x py z l1 l2).2.2.2.1, l1, _, rfl, .inl (.inl (.inl W.pas)), q⟩
def spWVis (K : PySem.W.Frag) (CD CP CB CL CW : Addr) : Sp := fun vs H Q _ => ∃ (y : Addr) (b : BldD) (p : PersonD) (ls : List Str) (dy x py z l1 l2 : Addr) (passed stops : List Str), vs = [.ref y] ∧ WkIn K CD CP CB CL CW H y b p ls dy x py z l1 l2 passed stops ∧ ∀ H' m, Same H H' → H m = none → H' m = some (.lst ((b.rooms.filter fun r => decide (r ∈ stops)).map V.str)) → Q (.ref m) H'
abbrev nWVis : List Str := ["self", "room"]
theorem scWVis : FnScope nWVis ["self"] (defScope s_Walk_visited) := ⟨rfl, rfl, rfl, by decide +kernel, rfl, by decide +kernel, by decide +kernel⟩
theorem ok_wVis {f : Addr} {fd : FuncData} (F : Fun K "visited" "Walk.visited" s_Walk_visited f fd) (T : OwnC K mg CB "Building" bldF) (TW : OwnC K mg CW "Walk" wkF) (PR : Pr P w K mg base 1 CB "rooms" (getSp CB "kept_rooms")) : FnOk P w K mg base CX0 3 f fd ["self"] (spWVis K CD CP CB CL CW) := by
  refine F.ok scWVis (fun vs H Q E h => ?_) (fun cdv A outer s H vs Q E hr h => ?_)
  · obtain ⟨y, b, p, ls, dy, x, py, z, l1, l2, passed, stops, rfl, _⟩ := h
    rfl
  · obtain ⟨y, b, p, ls, dy, x, py, z, l1, l2, passed, stops, rfl, W, q⟩ := h
    refine ⟨_, (pss_one (ps_ret (pe_lc (own := [("room", 1)]) (g := (gName 1)) (tt := (tTest (tOp (rIn K false) (tVar 1) (tFld K (tVar 0) "kept_stops")))) (te := (tVar 1)) rfl scWVis.nd  (pi_tup (pe_pr PR hr T.cl (pe_fld (pv 0) rfl) rfl)) (blkOk_by (N := nWVis) (sc := defScope s_Walk_visited) (by decide +kernel)) (fun _ _ _ _ _ => (pg_name (i := 1) scWVis.nd rfl (Or.inl rfl))) (fun _ _ _ _ _ => (pts_one (pt_cmpR (r := (rIn K false)) op_in_seq (pv 1) (pe_fld (pv 0) rfl) rfl))) (fun _ _ _ _ _ => (pv 1))))), ?_⟩
    obtain ⟨⟨dx, r, k, dn, dd, pn, pd, ok, od, op, kvs, ds, ps, I⟩, bok⟩ := W.bld
    refine ⟨.ref y, rfl, y, CW, dy, _, _, rfl, W.ob, TW.cl, TW.nK _ (by simp), (look_wk x py z l1 l2).1, x, dx, _, rfl, I.ob, x, dx, _, _, rfl, I.ob, (look_bld r k dn dd pn pd).1, r, rfl, ⟨_, I.rooms⟩, fun D nD => ?_⟩
    refine lc_mf (walk_tup (xs := b.rooms.map V.str)) b.rooms (fun r => decide (r ∈ stops)) V.str (by rw [List.length_map]) nD (by have := bok.r6; omega) (fun H' s' => Same.tup s' I.rooms) (fun i rm v H2 H3 Kt Kf hrm s2 hY kt kf => ?_) (fun H2 s2 eD => q _ D s2 nD eD)
    obtain ⟨rfl, hx⟩ := hY
    rw [List.getElem?_map, hrm] at hx
    cases hx
    refine ⟨rfl, .str rm, rfl, .ref y, rfl, y, CW, dy, _, _, rfl, s2 _ _ W.ob, TW.cl, TW.nK _ (by simp), (look_wk x py z l1 l2).2.2.2.2, l2, _, rfl, .inl (.inl (.inl (s2 _ _ W.sto))), rfl, Lk.flat_strs _, _, rfl, ?_⟩
    rw [inV_str]
    exact ite2 (fun e => ⟨.str rm, rfl, kt e _ (Same.refl _)⟩) (fun e => kf (Bool.eq_false_iff.mpr e) _ (Same.refl _))
/-! ### next_room -/
def spNext (K : PySem.W.Frag) (CD CP CB CL CW : Addr) : Sp := fun vs H Q _ => ∃ (y : Addr) (b : BldD) (p : PersonD) (ls : List Str) (dy x py z l1 l2 : Addr) (passed stops : List Str) (n : Str) (d : DoorD), vs = [.ref y, .str n] ∧ WkIn K CD CP CB CL CW H y b p ls dy x py z l1 l2 passed stops ∧ stops ≠ [] ∧ b.doors.lookup n = some d ∧ ∀ H', Same H H' → Q (oV (nextOf b p ls stops (n, d))) H'
abbrev nNext : List Str := ["self", "name"]
theorem scNextR : FnScope nNext ["self", "name"] (defScope s_Walk_next_room) := ⟨rfl, rfl, rfl, by decide +kernel, rfl, by decide +kernel, by decide +kernel⟩
theorem ok_nextR {f : Addr} {fd : FuncData} (F : Fun K "next_room" "Walk.next_room" s_Walk_next_room f fd) (T : OwnC K mg CB "Building" bldF) (TW : OwnC K mg CW "Walk" wkF) (GT : Fn P w K mg base 4 "lets_through" ["building", "person", "locks", "rooms", "name"] (spThru K CD CP CB CL)) (GB : Fn P w K mg base 3 "room_behind" ["door", "room"] (spBeh CD))
    (MD : Mt P w K mg base 2 CB "door" ["self", "name"] (spDoorOf K CD CP CB)) (PR : Pr P w K mg base 1 CW "room" (spWRoom K CD CP CB CL CW)) : FnOk P w K mg base CX0 5 f fd ["self", "name"] (spNext K CD CP CB CL CW) := by
  refine F.ok scNextR (fun vs H Q E h => ?_) (fun cdv A outer s H vs Q E hr h => ?_)
  · obtain ⟨y, b, p, ls, dy, x, py, z, l1, l2, passed, stops, n, d, rfl, _⟩ := h
    rfl
  · obtain ⟨y, b, p, ls, dy, x, py, z, l1, l2, passed, stops, n, d, rfl, W, ne, hd, q⟩ := h
    have hr2 := hr.mono (show 2 ≤ 4 by decide)
    have hr3 := hr.mono (show 3 ≤ 4 by decide)
    refine ⟨_, (pss_cons (ps_if (pt_not (pt_val (pe_fn GT hr (by rfl) (pa_cons (pe_fld (pv 0) rfl) (pa_cons (pe_fld (pv 0) rfl) (pa_cons (pe_fld (pv 0) rfl) (pa_cons (pe_fld (pv 0) rfl) (pa_cons (pv 1) pa_nil)))))))) (pss_one (ps_ret pe_non)) pss_nil)
      (pss_one (ps_ret (pe_fn GB hr3 (by rfl) (pa_cons (pe_mt MD hr2 T.cl (pe_fld (pv 0) rfl) (pa_cons (pv 1) pa_nil)) (pa_cons (pe_pr PR hr2 TW.cl (pv 0) rfl) pa_nil)))))), ?_⟩
    obtain ⟨f1, f2, f3, f4, f5⟩ := look_wk x py z l1 l2
    have nK := TW.nK
    obtain ⟨⟨dx, r, k, dn, dd, pn, pd, ok, od, op, kvs, ds, ps, I⟩, bok⟩ := W.bld
    refine ⟨.ref y, rfl, y, CW, dy, _, _, rfl, W.ob, TW.cl, nK _ (by simp), f1, .ref y, rfl, y, CW, dy, _, _, rfl, W.ob, TW.cl, nK _ (by simp), f2, .ref y, rfl, y, CW, dy, _, _, rfl, W.ob, TW.cl, nK _ (by simp), f3, .ref y, rfl, y, CW, dy, _, _, rfl, W.ob, TW.cl, nK _ (by simp), f5, .str n, rfl,
      x, py, z, l2, b, p, ls, stops, n, d, rfl, W.bld, W.per, W.lk, .inl (.inl W.sto), hd, fun H1 s1 => ⟨_, rfl, ?_⟩⟩
    unfold nextOf at q
    by_cases hp : passOf ls (heldOf b p stops) (n, d) = true
    · rw [hp]
      rw [if_pos hp] at q
      refine iteF ?_
      have W1 := W.same s1
      refine ⟨.ref y, rfl, y, CW, dy, _, _, rfl, W1.ob, TW.cl, nK _ (by simp), f1, x, dx, _, rfl, s1 _ _ I.ob, rfl, .str n, rfl, x, b, n, d, rfl, W1.bld, hd, fun H2 yd s2 hyd => ?_⟩
      have W2 := W1.same s2
      exact ⟨.ref y, rfl, y, dy, _, rfl, W2.ob, y, b, p, ls, dy, x, py, z, l1, l2, passed, stops, rfl, W2, ne, yd, d, _, rfl, hyd, fun H3 s3 => q _ (s1.trans (s2.trans s3))⟩
    · rw [Bool.eq_false_iff.mpr hp]
      rw [if_neg hp] at q
      exact iteT (q _ s1)
end
end Lk
set_option Elab.async false
set_option linter.all false
set_option maxRecDepth 100000
set_option maxHeartbeats 4000000
namespace Lk
open PySem PySem.Spec PyProof.Rows L2 TxS LkO LkG
/-- an exception's class -/
structure ExC (K : PySem.W.Frag) (mg : Str → Option Value) (C : Addr) (x : Str) : Prop where
  g : mg x = some (.ref C)
  x : PySem.W.excIn K C [.type "ValueError", .type "Exception", .type "BaseException", .type "object"] "ValueError.__new__" = true
  k : PySem.W.keepIn K (.ref C) = true
  b : PySem.W.subIn K (.ref C) (.type "BaseException") = some true
  t : PySem.W.typeIn K (.ref C) = some (.type "type")
  e : PySem.W.exmOne K (.ref C) (.ref C) = some true
/-- all but two lists stays -/
def But2 (l1 l2 : Addr) (H H' : Hp) : Prop := ∀ b o, H b = some o → b ≠ l1 → b ≠ l2 → H' b = some o
theorem But2.nx {l1 l2 : Addr} {H H' : Hp} {xs ys : List V} (b : But2 l1 l2 H H') (h1 : H l1 = some (.lst xs)) (h2 : H l2 = some (.lst ys)) : NX H H' := fun a o e n => b a o e (fun z => by rw [z, h1] at e; exact n.1 _ (Option.some.inj e).symm) (fun z => by rw [z, h2] at e; exact n.1 _ (Option.some.inj e).symm)
theorem WkIn.moved {K : PySem.W.Frag} {CD CP CB CL CW : Addr} {H H' : Hp} {y : Addr} {b : BldD} {p : PersonD} {ls : List Str} {dy x py z l1 l2 : Addr} {passed stops passed' stops' : List Str} (h : WkIn K CD CP CB CL CW H y b p ls dy x py z l1 l2 passed stops) (b2 : But2 l1 l2 H H') (e1 : H' l1 = some (.lst (passed'.map V.str))) (e2 : H' l2 = some (.lst (stops'.map V.str))) :
    WkIn K CD CP CB CL CW H' y b p ls dy x py z l1 l2 passed' stops' := by
  have nx := b2.nx h.pas h.sto
  exact ⟨nx _ _ h.ob st_ins, h.bld.nx nx, h.per.nx nx, h.lk.nx nx, e1, e2, h.ne⟩
section
variable {P : Program} {w : World} {K : PySem.W.Frag} {mg : Str → Option Value} {base : Heap} {CD CP CB CL CW CN : Addr}
/-! ### go -/
def spGo (K : PySem.W.Frag) (CD CP CB CL CW : Addr) : Sp := fun vs H Q _ => ∃ (y : Addr) (b : BldD) (p : PersonD) (ls : List Str) (dy x py z l1 l2 : Addr) (passed stops : List Str) (n : Str) (d : DoorD) (r : Str), vs = [.ref y, .str n] ∧ WkIn K CD CP CB CL CW H y b p ls dy x py z l1 l2 passed stops ∧ stops ≠ [] ∧ passed.length ≤ 1000 ∧ stops.length ≤ 1000 ∧ b.doors.lookup n = some d ∧ nextOf b p ls stops (n, d) = some r ∧
  ∀ H', But2 l1 l2 H H' → WkIn K CD CP CB CL CW H' y b p ls dy x py z l1 l2 (passed ++ [n]) (stops ++ [r]) → Q (.str r) H'
abbrev nGo : List Str := ["self", "name", "room"]
theorem scGo : FnScope nGo ["self", "name"] (defScope s_Walk_go) := ⟨rfl, rfl, rfl, by decide +kernel, rfl, by decide +kernel, by decide +kernel⟩
theorem ok_go {f : Addr} {fd : FuncData} (F : Fun K "go" "Walk.go" s_Walk_go f fd) (TW : OwnC K mg CW "Walk" wkF) (MN : Mt P w K mg base 5 CW "next_room" ["self", "name"] (spNext K CD CP CB CL CW)) : FnOk P w K mg base CX0 6 f fd ["self", "name"] (spGo K CD CP CB CL CW) := by
  refine F.ok scGo (fun vs H Q E h => ?_) (fun cdv A outer s H vs Q E hr h => ?_)
  · obtain ⟨y, b, p, ls, dy, x, py, z, l1, l2, passed, stops, n, d, r, rfl, _⟩ := h
    rfl
  · obtain ⟨y, b, p, ls, dy, x, py, z, l1, l2, passed, stops, n, d, r, rfl, W, ne, lp, lst, hd, hr', q⟩ := h
    refine ⟨_, (pss_cons (ps_set (i := 2) scGo.nd rfl (.inl rfl) (pe_mt MN hr TW.cl (pv 0) (pa_cons (pv 1) pa_nil)))
      (pss_cons (ps_if (pt_cmp (pc_isN (pv 2))) (pss_one ps_never) pss_nil)
      (pss_cons (ps_expr (pe_bm PySem.F.plainAttrs_list PySem.F.slot_list_append PySem.F.type_list_append mt_append (pe_fld (pv 0) rfl) (pa_cons (pv 1) pa_nil)))
      (pss_cons (ps_expr (pe_bm PySem.F.plainAttrs_list PySem.F.slot_list_append PySem.F.type_list_append mt_append (pe_fld (pv 0) rfl) (pa_cons (pv 2) pa_nil)))
      (pss_one (ps_ret (pv 2))))))), ?_⟩
    obtain ⟨f1, f2, f3, f4, f5⟩ := look_wk x py z l1 l2
    have nK := TW.nK
    refine ⟨.ref y, rfl, y, dy, _, rfl, W.ob, rfl, .str n, rfl, y, b, p, ls, dy, x, py, z, l1, l2, passed, stops, n, d, rfl, W, ne, hd, fun H1 s1 => ?_⟩
    rw [hr']
    have W1 := W.same s1
    refine ⟨.str r, rfl, false, rfl, iteF ?_⟩
    refine ⟨.ref y, rfl, y, CW, dy, _, _, rfl, W1.ob, TW.cl, nK _ (by simp), f4, .inl ⟨rfl, _, .inl (.inl W1.pas)⟩, .str n, rfl, l1, _, _, rfl, rfl, W1.pas, by rw [List.length_map, sizeLine_eq]; omega, ?_⟩
    have nx2 : NX H1 (upd H1 l1 (.lst (passed.map V.str ++ [.str n]))) := NX.put W1.pas
    have o2 := nx2 _ _ W1.ob st_ins
    have st2 : (upd H1 l1 (.lst (passed.map V.str ++ [.str n]))) l2 = some (.lst (stops.map V.str)) := by rw [upd_ne (Ne.symm W.ne)]; exact W1.sto
    refine ⟨.ref y, rfl, y, CW, dy, _, _, rfl, o2, TW.cl, nK _ (by simp), f5, .inl ⟨rfl, _, .inl (.inl st2)⟩, .str r, rfl, l2, _, _, rfl, rfl, st2, by rw [List.length_map, sizeLine_eq]; omega, ?_⟩
    have bb : But2 l1 l2 H (upd (upd H1 l1 (.lst (passed.map V.str ++ [.str n]))) l2 (.lst (stops.map V.str ++ [.str r]))) := fun c o e n1 n2 => by
      rw [upd_ne n2, upd_ne n1]
      exact s1 _ _ e
    refine ⟨.str r, rfl, q _ bb (W.moved bb ?_ ?_)⟩
    · rw [upd_ne W.ne, upd_same, List.map_append]
      rfl
    · rw [upd_same, List.map_append]
      rfl
/-- where there is no way -/
def spGoX (K : PySem.W.Frag) (CD CP CB CL CW CN : Addr) : Sp := fun vs H Q E => ∃ (y : Addr) (b : BldD) (p : PersonD) (ls : List Str) (dy x py z l1 l2 : Addr) (passed stops : List Str) (n : Str) (d : DoorD), vs = [.ref y, .str n] ∧ WkIn K CD CP CB CL CW H y b p ls dy x py z l1 l2 passed stops ∧ stops ≠ [] ∧ b.doors.lookup n = some d ∧ nextOf b p ls stops (n, d) = none ∧
  ∀ H', Same H H' → E (.ref CN) none H'
theorem ok_goX {f : Addr} {fd : FuncData} (F : Fun K "go" "Walk.go" s_Walk_go f fd) (TW : OwnC K mg CW "Walk" wkF) (TN : ExC K mg CN "NoWay") (MN : Mt P w K mg base 5 CW "next_room" ["self", "name"] (spNext K CD CP CB CL CW)) : FnOk P w K mg base (L2.CX P w) 6 f fd ["self", "name"] (spGoX K CD CP CB CL CW CN) := by
  refine Fun.okX F scGo (fun vs H Q E h => ?_) (fun cdv A outer s H vs Q E hr h => ?_)
  · obtain ⟨y, b, p, ls, dy, x, py, z, l1, l2, passed, stops, n, d, rfl, _⟩ := h
    rfl
  · obtain ⟨y, b, p, ls, dy, x, py, z, l1, l2, passed, stops, n, d, rfl, W, ne, hd, hn, q⟩ := h
    refine ⟨_, pss_cons (ps_set (i := 2) scGo.nd rfl (.inl rfl) (pe_mt MN hr TW.cl (pv 0) (pa_cons (pv 1) pa_nil)))
      (pss_cons (ps_if (pt_cmp (pc_isN (pv 2))) (pss_one (ps_raise rfl (takes_of rfl rfl rfl rfl) (pmk_own PySem.F.excBase_ValueError TN.x TN.g TN.k (raises_own TN.b TN.t) rfl))) pss_nil)
      (pss_cons ps_never (pss_cons ps_never (pss_one ps_never)))), ?_⟩
    refine ⟨.ref y, rfl, y, dy, _, rfl, W.ob, rfl, .str n, rfl, y, b, p, ls, dy, x, py, z, l1, l2, passed, stops, n, d, rfl, W, ne, hd, fun H1 s1 => ?_⟩
    rw [hn]
    exact ⟨.non, rfl, true, rfl, iteT (q _ s1)⟩
/-! ### back -/
def spBack (K : PySem.W.Frag) (CD CP CB CL CW : Addr) : Sp := fun vs H Q _ => ∃ (y : Addr) (b : BldD) (p : PersonD) (ls : List Str) (dy x py z l1 l2 : Addr) (passed stops : List Str) (n r : Str), vs = [.ref y] ∧ WkIn K CD CP CB CL CW H y b p ls dy x py z l1 l2 (passed ++ [n]) (stops ++ [r]) ∧ (∀ z ∈ passed ++ [n], isNm z = true) ∧
  ∀ H', But2 l1 l2 H H' → WkIn K CD CP CB CL CW H' y b p ls dy x py z l1 l2 passed stops → Q (.str n) H'
theorem scBack : FnScope ["self"] ["self"] (defScope s_Walk_back) := ⟨rfl, rfl, rfl, by decide +kernel, rfl, by decide +kernel, by decide +kernel⟩
theorem ok_back {f : Addr} {fd : FuncData} {k : Nat} (F : Fun K "back" "Walk.back" s_Walk_back f fd) (TW : OwnC K mg CW "Walk" wkF) : FnOk P w K mg base CX0 (k + 1) f fd ["self"] (spBack K CD CP CB CL CW) := by
  refine F.ok scBack (fun vs H Q E h => ?_) (fun cdv A outer s H vs Q E hr h => ?_)
  · obtain ⟨y, b, p, ls, dy, x, py, z, l1, l2, passed, stops, n, r, rfl, _⟩ := h
    rfl
  · obtain ⟨y, b, p, ls, dy, x, py, z, l1, l2, passed, stops, n, r, rfl, W, nm, q⟩ := h
    refine ⟨_, pss_cons (ps_if (pt_cmpR (op_eqD hr.units) (pe_fld (pv 0) rfl) (pe_lst pa_nil) (nomark _)) (pss_one ps_never) pss_nil)
      (pss_cons (ps_expr (pe_bm0 PySem.F.plainAttrs_list PySem.F.slot_list_pop PySem.F.type_list_pop mt_pop (pe_fld (pv 0) rfl)))
      (pss_one (ps_ret (pe_bm0 PySem.F.plainAttrs_list PySem.F.slot_list_pop PySem.F.type_list_pop mt_pop (pe_fld (pv 0) rfl))))), ?_⟩
    obtain ⟨f1, f2, f3, f4, f5⟩ := look_wk x py z l1 l2
    have nK := TW.nK
    refine ⟨.ref y, rfl, y, CW, dy, _, _, rfl, W.ob, TW.cl, nK _ (by simp), f4, Nat.zero_le _, fun pe npe => ⟨_, _, .lst (.inl (.inl (same_new npe _ _ W.pas))) (dp_strs _), .lst (.inl (.inl upd_same)) .nil, shaped_strsL fun z hz => nm_ok (nm z hz), by decide +kernel, _, rfl, ?_⟩⟩
    have s1 := same_new (o := .lst []) npe
    have en : PyData.eqv (.list ((passed ++ [n]).map PyData.str)) (.list []) = false := by
      cases passed <;> simp [PyData.eqv, PyData.eqvAll]
    rw [en]
    refine iteF ?_
    have W1 := W.same s1
    generalize (upd H pe (.lst [])) = H1 at s1 W1
    refine ⟨.ref y, rfl, y, CW, dy, _, _, rfl, W1.ob, TW.cl, nK _ (by simp), f5, .inl ⟨rfl, _, .inl (.inl W1.sto)⟩, l2, _, .str r, rfl, rfl, W1.sto, by simp, ?_⟩
    have nx2 : NX H1 (upd H1 l2 (.lst ((stops ++ [r]).map V.str).dropLast)) := NX.put W1.sto
    have o2 := nx2 _ _ W1.ob st_ins
    have st2 : (upd H1 l2 (.lst ((stops ++ [r]).map V.str).dropLast)) l1 = some (.lst ((passed ++ [n]).map V.str)) := by rw [upd_ne W.ne]; exact W1.pas
    refine ⟨.ref y, rfl, y, CW, dy, _, _, rfl, o2, TW.cl, nK _ (by simp), f4, .inl ⟨rfl, _, .inl (.inl st2)⟩, l1, _, .str n, rfl, rfl, st2, by simp, ?_⟩
    have bb : But2 l1 l2 H (upd (upd H1 l2 (.lst ((stops ++ [r]).map V.str).dropLast)) l1 (.lst ((passed ++ [n]).map V.str).dropLast)) := fun c o e n1 n2 => by
      rw [upd_ne n1, upd_ne n2]
      exact s1 _ _ e
    refine q _ bb (W.moved bb ?_ ?_)
    · rw [upd_same]
      simp
    · rw [upd_ne (Ne.symm W.ne), upd_same]
      simp
/-! ### in, len, bool -/
def spWHas (K : PySem.W.Frag) (CD CP CB CL CW : Addr) : Sp := fun vs H Q _ => ∃ (y : Addr) (b : BldD) (p : PersonD) (ls : List Str) (dy x py z l1 l2 : Addr) (passed stops : List Str) (key : Str), vs = [.ref y, .str key] ∧ WkIn K CD CP CB CL CW H y b p ls dy x py z l1 l2 passed stops ∧ key ∈ b.keys.map (·.1) ∧ ∀ H', Same H H' → Q (.bl (decide (key ∈ heldOf b p stops))) H'
theorem scWHas : FnScope ["self", "key"] ["self", "key"] (defScope s_Walk___contains__) := ⟨rfl, rfl, rfl, by decide +kernel, rfl, by decide +kernel, by decide +kernel⟩
abbrev nWHas : List Str := ["self", "key"]
theorem ok_wHas {f : Addr} {fd : FuncData} (F : Fun K "__contains__" "Walk.__contains__" s_Walk___contains__ f fd) (T : OwnC K mg CB "Building" bldF) (TW : OwnC K mg CW "Walk" wkF) (GN : Fn P w K mg base 1 "is_name" ["value"] spName) (PK : Pr P w K mg base 1 CB "key_rooms" (spKeyRooms K CD CP CB)) (GH : Fn P w K mg base 3 "keys_held" ["building", "person", "rooms"] (spHeld K CD CP CB)) :
    FnOk P w K mg base CX0 4 f fd ["self", "key"] (spWHas K CD CP CB CL CW) := by
  refine F.ok scWHas (fun vs H Q E h => ?_) (fun cdv A outer s H vs Q E hr h => ?_)
  · obtain ⟨y, b, p, ls, dy, x, py, z, l1, l2, passed, stops, key, rfl, _⟩ := h
    rfl
  · obtain ⟨y, b, p, ls, dy, x, py, z, l1, l2, passed, stops, key, rfl, W, hk, q⟩ := h
    have hr1 := hr.mono (show 1 ≤ 3 by decide)
    have hr2 := hr.mono (show 2 ≤ 3 by decide)
    refine ⟨_, (pss_cons (ps_if (PW.pt (pw_or (pt_not (pt_val (pe_fn GN hr1 (by rfl) (pa_cons (pv 1) pa_nil)))) (pw_or1 (pt_cmp (pc_dnotin (hu_of hr) (pv 1) (pe_pr PK hr2 T.cl (pe_fld (pv 0) rfl) rfl)) rfl)))) (pss_one ps_never) pss_nil)
      (pss_one (ps_ret (pe_cmpR (r := (rIn K false)) op_in_seq (pv 1) (pe_fn GH hr (by rfl) (pa_cons (pe_fld (pv 0) rfl) (pa_cons (pe_fld (pv 0) rfl) (pa_cons (pe_fld (pv 0) rfl) pa_nil)))) rfl)))), ?_⟩
    obtain ⟨f1, f2, f3, f4, f5⟩ := look_wk x py z l1 l2
    have nK := TW.nK
    obtain ⟨⟨dx, r, k, dn, dd, pn, pd, ok, od, op, kvs, ds, ps, I⟩, bok⟩ := W.bld
    have nm : isNm key = true := by
      obtain ⟨q', hq', rfl⟩ := List.mem_map.mp hk
      exact (bok.keys q' hq').1
    refine ⟨.str key, rfl, key, rfl, nm_line nm, fun H1 s1 => ⟨true, by rw [nm], iteF ?_⟩⟩
    have W1 := W.same s1
    refine ⟨.str key, rfl, .ref y, rfl, y, CW, dy, _, _, rfl, W1.ob, TW.cl, nK _ (by simp), f1, x, dx, _, rfl, s1 _ _ I.ob, x, b, rfl, W1.bld, fun kd kkvs ktab nkd => ?_⟩
    have s2 := same_new (o := .dK kkvs) nkd
    have hs : ∃ room, (sortKeys b.keys).lookup key = some room := by
      rw [sortKeys_look]
      exact look_name hk
    obtain ⟨room, hroom⟩ := hs
    obtain ⟨v, hv, _⟩ := ktab.val hroom
    refine ⟨kd, _, rfl, .inl ⟨kkvs, .inr key, .inl upd_same, rfl, rfl⟩, false, by rw [hv]; rfl, iteF ?_⟩
    have W2 := W1.same s2
    refine ⟨.str key, rfl, .ref y, rfl, y, CW, dy, _, _, rfl, W2.ob, TW.cl, nK _ (by simp), f1, .ref y, rfl, y, CW, dy, _, _, rfl, W2.ob, TW.cl, nK _ (by simp), f2, .ref y, rfl, y, CW, dy, _, _, rfl, W2.ob, TW.cl, nK _ (by simp), f5, x, py, l2, b, p, stops, rfl, W2.bld, W2.per, .inl (.inl W2.sto), fun H3 m s3 em => ?_⟩
    refine ⟨m, _, rfl, .inl (.inl (.inl em)), rfl, Lk.flat_strs _, ?_⟩
    rw [inV_str]
    exact q _ (s1.trans (s2.trans s3))
def spWLen (K : PySem.W.Frag) (CD CP CB CL CW : Addr) : Sp := fun vs H Q _ => ∃ (y : Addr) (b : BldD) (p : PersonD) (ls : List Str) (dy x py z l1 l2 : Addr) (passed stops : List Str), vs = [.ref y] ∧ WkIn K CD CP CB CL CW H y b p ls dy x py z l1 l2 passed stops ∧ Q (.int (passed.length : Nat)) H
theorem scWLen : FnScope ["self"] ["self"] (defScope s_Walk___len__) := ⟨rfl, rfl, rfl, by decide +kernel, rfl, by decide +kernel, by decide +kernel⟩
theorem ok_wLen {f : Addr} {fd : FuncData} {k : Nat} (F : Fun K "__len__" "Walk.__len__" s_Walk___len__ f fd) (B : Blt mg) (TW : OwnC K mg CW "Walk" wkF) : FnOk P w K mg base CX0 (k + 1) f fd ["self"] (spWLen K CD CP CB CL CW) := by
  refine F.ok scWLen (fun vs H Q E h => ?_) (fun cdv A outer s H vs Q E hr h => ?_)
  · obtain ⟨y, b, p, ls, dy, x, py, z, l1, l2, passed, stops, rfl, _⟩ := h
    rfl
  · obtain ⟨y, b, p, ls, dy, x, py, z, l1, l2, passed, stops, rfl, W, q⟩ := h
    refine ⟨_, pss_one (ps_ret (pe_callB call_len_seq (by rfl) B.len PySem.boot_len (pa_cons (pe_fld (pv 0) rfl) pa_nil))), ?_⟩
    refine ⟨.ref y, rfl, y, CW, dy, _, _, rfl, W.ob, TW.cl, TW.nK _ (by simp), (look_wk x py z l1 l2).2.2.2.1, l1, _, rfl, .inl (.inl (.inl W.pas)), ?_⟩
    rw [List.length_map]
    exact q
def spWBool (K : PySem.W.Frag) (CD CP CB CL CW : Addr) : Sp := fun vs H Q _ => ∃ (y : Addr) (b : BldD) (p : PersonD) (ls : List Str) (dy x py z l1 l2 : Addr) (passed stops : List Str), vs = [.ref y] ∧ WkIn K CD CP CB CL CW H y b p ls dy x py z l1 l2 passed stops ∧ stops ≠ [] ∧ ∀ H', Same H H' → Q (.bl (decide (stops.getLast?.getD ⟨#[]⟩ ∈ p.needs))) H'
theorem scWBool : FnScope ["self"] ["self"] (defScope s_Walk___bool__) := ⟨rfl, rfl, rfl, by decide +kernel, rfl, by decide +kernel, by decide +kernel⟩
abbrev nWBool : List Str := ["self"]
theorem ok_wBool {f : Addr} {fd : FuncData} (F : Fun K "__bool__" "Walk.__bool__" s_Walk___bool__ f fd) (TP : PersT P w K mg base CP) (TW : OwnC K mg CW "Walk" wkF) : FnOk P w K mg base CX0 3 f fd ["self"] (spWBool K CD CP CB CL CW) := by
  refine F.ok scWBool (fun vs H Q E h => ?_) (fun cdv A outer s H vs Q E hr h => ?_)
  · obtain ⟨y, b, p, ls, dy, x, py, z, l1, l2, passed, stops, rfl, _⟩ := h
    rfl
  · obtain ⟨y, b, p, ls, dy, x, py, z, l1, l2, passed, stops, rfl, W, ne, q⟩ := h
    refine ⟨_, (pss_one (ps_ret (pe_cmpR (r := (rIn K false)) op_in_seq (pe_ix ix_list (pe_fld (pv 0) rfl) (pe_un un_neg pe_int) (fun _ _ => rfl)) (pe_pr TP.needs hr TP.c.cl (pe_fld (pv 0) rfl) rfl) rfl))), ?_⟩
    obtain ⟨f1, f2, f3, f4, f5⟩ := look_wk x py z l1 l2
    have nK := TW.nK
    obtain ⟨⟨dpy, t1, t2, t3, h0, h1, h2, h3⟩, pok⟩ := W.per
    refine ⟨.ref y, rfl, y, CW, dy, _, _, rfl, W.ob, TW.cl, nK _ (by simp), f5, 1, rfl, l2, _, -1, _, rfl, rfl, .inl (.inl W.sto), atI_end ne, .ref y, rfl, y, CW, dy, _, _, rfl, W.ob, TW.cl, nK _ (by simp), f2, py, dpy, _, rfl, h0, py, dpy, _, _, rfl, h0, (look_person p.a t1 t2 t3).2.2.1, t2, _, rfl, .inr h2, rfl, Lk.flat_strs _, ?_⟩
    rw [inV_str]
    exact q _ (Same.refl _)
end
end Lk
set_option Elab.async false
set_option linter.all false
set_option maxRecDepth 100000
set_option maxHeartbeats 4000000
namespace Lk
open PySem PySem.Spec PyProof.Rows L2 TxS LkO LkG
theorem fnR_of {P : Program} {w : World} {K : PySem.W.Frag} {mg : Str → Option Value} {base : Heap} {CX : CXT} {k : Nat} {f : Addr} {fd : FuncData} {ps : List Str} {sp : Sp} (F : FnOk P w K mg base CX k f fd ps sp) (hb : Binds K fd ps []) : FnR P w K mg base CX k f sp := fun A outer s H us vs Q E hr e0 r h => by
  have kin : K.In s.heap := e0.mod.kin.keeps fun b o e => (e0.bs b o e).1
  have hl : us.length = ps.length := by rw [← r.length]; exact F.len _ _ _ _ h
  exact F.run A outer s H ⟨us, []⟩ us vs Q E hr e0 (by simpa using hb s us kin (by simpa using hl)) r h
/-- C(..), the class in a local name -/
theorem pe_makeL {X : Cx} {CX : CXT} {k i : Nat} {f C : Addr} {fd : FuncData} {ps : List Str} {sp : Sp} {E : XK} {x : Str} {p pos : Pos} {e : Expr} {es : List Expr} {t : TA} (M : Mk X.K C f) (F : FnOk X.prog X.w X.K X.mg X.base CX k f fd ps sp) (hr : Room (k + 1) X.A) (hN : X.N[i]? = some x) (hv : Vis X.env.scope x) (hb : Binds X.K fd ps []) (hx : Passes CX X E)
    (ha : PA X (e :: es) t) (hdb : (x == ("__debug__" : Str)) = false := by decide) (hcd : (x == ("__classdict__" : Str)) = false := by decide) (he : starEach (e :: es) X.env = (false, eval e X.env) :: starEach es X.env := by rfl) (hpl : (backTo pos (starEach es X.env)).any (·.1) = false := by rfl) :
    PE X (.Call (.Name x p) (e :: es) [] pos) (fun σ H Q => σ[i]? = some (some (.ref C)) ∧ tMake C sp [] E t σ H Q) := by
  refine ⟨fun pins s σ H Q I h => ?_⟩
  obtain ⟨hs, h⟩ := h
  refine wpAny_Call_Name_kw (thn ((pe_var (i := i) hN hv hdb hcd).run pins s σ H (fun v H1 => v = .ref C ∧ tMake C sp [] E t σ H1 Q) I ⟨.ref C, hs, rfl, h⟩) fun u s1 z => ?_)
  obtain ⟨v, H1, I1, rv, rfl, h1⟩ := z
  obtain rfl : u = Value.ref C := rv
  refine PySem.W.callWith_K (h₀ := X.base) I1.ok.mod.kin M.kp (thn (ha.run pos pins s1 σ H1 _ I1 h1) fun us s2 ⟨vs, H2, I2, r, q⟩ => ⟨I2.kIn, ?_⟩) he hpl
  exact run_make M F hr hb .nil hx I2 r q
structure MkC (P : Program) (w : World) (K : PySem.W.Frag) (mg : Str → Option Value) (base : Heap) (C : Addr) (k : Nat) (ps : List Str) (sp : Sp) : Prop where
  ex : ∃ f fd, Mk K C f ∧ Binds K fd ps [] ∧ FnOk P w K mg base CX0 k f fd ps sp
/-- whether a door can be passed now -/
def canGo (b : BldD) (p : PersonD) (ls stops : List Str) (n : Str) : Bool := match b.doors.lookup n with
  | none => false
  | some d => (nextOf b p ls stops (n, d)).isSome
section
variable {P : Program} {w : World} {K : PySem.W.Frag} {mg : Str → Option Value} {base : Heap} {CD CP CB CL CW CN : Addr}
/-! ### ahead -/
def spAhead (K : PySem.W.Frag) (CD CP CB CL CW : Addr) : SpG := fun vs H Q _ => ∃ (y : Addr) (b : BldD) (p : PersonD) (ls : List Str) (dy x py z l1 l2 : Addr) (passed stops : List Str), vs = [.ref y] ∧ WkIn K CD CP CB CL CW H y b p ls dy x py z l1 l2 passed stops ∧ stops ≠ [] ∧ ∀ H', Same H H' → Q (((b.doors.map (·.1)).filter (canGo b p ls stops)).map V.str) H'
abbrev nAhead : List Str := ["self", "names", "name"]
theorem scAhead : GScope nAhead ["self"] (defScope s_Walk_ahead) := ⟨rfl, rfl, rfl, by decide +kernel, rfl, by decide +kernel, by decide +kernel⟩
theorem ok_ahead {f : Addr} {fd : FuncData} (F : Fun K "ahead" "Walk.ahead" s_Walk_ahead f fd) (T : OwnC K mg CB "Building" bldF) (TW : OwnC K mg CW "Walk" wkF) (PD : Pr P w K mg base 1 CB "doors" (spBDoors K CD CP CB)) (MN : Mt P w K mg base 5 CW "next_room" ["self", "name"] (spNext K CD CP CB CL CW)) : GFn P w K mg base 6 f fd ["self"] (spAhead K CD CP CB CL CW) := by
  obtain ⟨oc, od, kV, doc, pm, an, cdv, ct, osl, rfl, lk, hcd⟩ := F.ex
  refine gfn_of lk hcd scAhead (fun vs H Q E h => ?_) fun A outer s H vs Q E pn hr h => ?_
  · obtain ⟨y, b, p, ls, dy, x, py, z, l1, l2, passed, stops, rfl, _⟩ := h
    rfl
  · obtain ⟨y, b, p, ls, dy, x, py, z, l1, l2, passed, stops, rfl, W, ne, q⟩ := h
    have hr2 := hr.mono (show 2 ≤ 5 by decide)
    refine ⟨_, gss_cons (gs_ps (ps_setLc (i := 1) (own := [("name", 2)]) (g := (gName 2)) (tt := (tB (tNotN (tMeth CW "next_room" (spNext K CD CP CB CL CW) [] E0 (tVar 0) (tCons (tVar 2) tNil))))) (te := (tVar 2)) rfl scAhead.nd rfl rfl (sw_true rfl rfl rfl (by decide +kernel)) (pi_list (pe_pr PD hr2 T.cl (pe_fld (pv 0) rfl) rfl)) (blkOk_by (N := nAhead) (sc := defScope s_Walk_ahead) (by decide +kernel)) (fun _ _ _ _ _ => (pg_name (i := 2) scAhead.nd rfl (Or.inl rfl))) (fun _ _ _ _ _ => (pts_one (pt_cmp (pc_notN (pe_mt MN hr TW.cl (pv 0) (pa_cons (pv 2) pa_nil)))))) (fun _ _ _ _ _ => (pv 2)))) (gss_cons (LkG5.gs_for owns_gcx rfl (pi_list (pv 1)) (pg_name (i := 2) scAhead.nd rfl (Or.inl rfl)) (gss_cons (gs_yield (pv 2)) gss_nil)) gss_nil), ?_⟩
    obtain ⟨f1, f2, f3, f4, f5⟩ := look_wk x py z l1 l2
    have nK := TW.nK
    obtain ⟨⟨dx, r, k, dn, dd, pn', pd, ok, od', op, kvs, ds, ps, I⟩, bok⟩ := W.bld
    have d8 := bok.d8
    refine ⟨.ref y, rfl, y, CW, dy, _, _, rfl, W.ob, TW.cl, nK _ (by simp), f1, x, dx, _, rfl, I.ob, x, b, rfl, W.bld, fun dl ndl => ⟨dl, rfl, ⟨_, .inl (.inl upd_same)⟩, fun D nD => ?_⟩⟩
    have s1 := same_new (o := .lst ((b.doors.map (·.1)).map V.str)) ndl
    refine lc_mf (walk_list (xs := (b.doors.map fun q : Str × DoorD => q.1).map V.str)) (b.doors.map fun q : Str × DoorD => q.1) (canGo b p ls stops) V.str (by rw [List.length_map]) nD (by rw [List.length_map]; omega) (fun H' s' => .inl (.inl (s' _ _ upd_same))) (fun i n v H2 H3 Kt Kf hn s2 hY kt kf => ?_) (fun H2 s2 eD => ?_)
    · obtain ⟨rfl, hx⟩ := hY
      rw [List.getElem?_map, hn] at hx
      cases hx
      obtain ⟨d, hd, _⟩ := name_look (List.mem_of_getElem? hn) bok.dnd
      have s12 := s1.trans s2
      have W2 := W.same s12
      refine ⟨rfl, .ref y, rfl, y, dy, _, rfl, W2.ob, rfl, .str n, rfl, y, b, p, ls, dy, x, py, z, l1, l2, passed, stops, n, d, rfl, W2, ne, hd, fun H4 s4 => ?_⟩
      have ec : canGo b p ls stops n = (nextOf b p ls stops (n, d)).isSome := by
        unfold canGo
        rw [hd]
      rw [ec] at kt kf
      cases hN : nextOf b p ls stops (n, d) with
      | none =>
        rw [hN] at kf
        exact ⟨false, rfl, iteF (kf rfl _ s4)⟩
      | some rm =>
        rw [hN] at kt
        exact ⟨true, rfl, iteT ⟨.str n, rfl, kt rfl _ s4⟩⟩
    · have s12 := s1.trans s2
      refine ⟨.ref D, rfl, D, rfl, ⟨_, .inl (.inl eD)⟩, ?_⟩
      generalize eo : ((b.doors.map fun q : Str × DoorD => q.1).filter (canGo b p ls stops)) = outs at *
      have lo : outs.length ≤ 8 := by
        rw [← eo]
        refine Nat.le_trans (List.length_filter_le _ _) ?_
        rw [List.length_map]
        exact d8
      have wk := walk_list (K := K) (a := D) (xs := outs.map V.str)
      refine ⟨fun i m ys σ H' => m = outs.length - i ∧ i ≤ outs.length ∧ ys = (outs.take i).map V.str ∧ H' = H2 ∧ ∃ y2, σ = [some (.ref y), some (.ref D), y2], ⟨_, rfl, Nat.zero_le _, rfl, rfl, _, rfl⟩, ?_⟩
      rintro i m ys σ H' ⟨rfl, hi, rfl, rfl, y2, rfl⟩
      have hG : SqL K H' D (outs.map V.str) := .inl (.inl eD)
      by_cases lt : i < outs.length
      · refine .inr ⟨wk.goes i H' (by rw [List.length_map]; exact lt) hG, fun ys' σ' H'' => ys' = (outs.take (i + 1)).map V.str ∧ H'' = H' ∧ ∃ y2, σ' = [some (.ref y), some (.ref D), y2], fun ys' σ' H'' z => ⟨_, by omega, rfl, lt, z.1, z.2.1, z.2.2⟩, fun v H5 hy => ?_⟩
        obtain ⟨rfl, hx⟩ := wk.yields i H' v H5 (by rw [List.length_map]; exact lt) hG hy
        have ho : outs[i]? = some outs[i] := List.getElem?_eq_getElem lt
        rw [List.getElem?_map, ho] at hx
        cases hx
        refine ⟨by rw [List.length_map, List.length_take, sizeLine_eq]; omega, .str outs[i], rfl, ?_⟩
        refine ⟨?_, rfl, _, rfl⟩
        rw [take_next1 ho, List.map_append]
        rfl
      · have e : i = outs.length := Nat.le_antisymm hi (Nat.le_of_not_lt lt)
        subst e
        refine .inl ⟨by have := wk.stops H' hG; rw [List.length_map] at this; exact this, ?_⟩
        show Q ((outs.take outs.length).map V.str) H'
        rw [List.take_length]
        exact q _ s12
/-! ### along -/
/-- the rooms of all steps, if doors can be passed one after another -/
def wentFrom (b : BldD) (p : PersonD) (ls : List Str) : List Str → List Str → Option (List Str)
  | st, [] => some st
  | st, n :: r => match b.doors.lookup n with
    | none => none
    | some d => match nextOf b p ls st (n, d) with
      | none => none
      | some rm => wentFrom b p ls (st ++ [rm]) r
theorem went_app {b : BldD} {p : PersonD} {ls : List Str} : ∀ (xs ys st : List Str), wentFrom b p ls st (xs ++ ys) = (wentFrom b p ls st xs).bind fun st' => wentFrom b p ls st' ys
  | [], _, _ => rfl
  | n :: r, ys, st => by
    show (match b.doors.lookup n with | none => none | some d => match nextOf b p ls st (n, d) with | none => none | some rm => wentFrom b p ls (st ++ [rm]) (r ++ ys)) = (match b.doors.lookup n with | none => none | some d => match nextOf b p ls st (n, d) with | none => none | some rm => wentFrom b p ls (st ++ [rm]) r).bind _
    cases b.doors.lookup n with
    | none => rfl
    | some d =>
      show (match nextOf b p ls st (n, d) with | none => none | some rm => wentFrom b p ls (st ++ [rm]) (r ++ ys)) = (match nextOf b p ls st (n, d) with | none => none | some rm => wentFrom b p ls (st ++ [rm]) r).bind _
      cases nextOf b p ls st (n, d) with
      | none => rfl
      | some rm => exact went_app r ys _
theorem went_one {b : BldD} {p : PersonD} {ls st : List Str} {n : Str} {S : List Str} (h : wentFrom b p ls st [n] = some S) : ∃ d r, b.doors.lookup n = some d ∧ nextOf b p ls st (n, d) = some r ∧ S = st ++ [r] := by
  have h : (match b.doors.lookup n with | none => none | some d => match nextOf b p ls st (n, d) with | none => none | some rm => some (st ++ [rm])) = some S := h
  cases hd : b.doors.lookup n with
  | none =>
    rw [hd] at h
    cases h
  | some d =>
    rw [hd] at h
    have h : (match nextOf b p ls st (n, d) with | none => none | some rm => some (st ++ [rm])) = some S := h
    cases hn : nextOf b p ls st (n, d) with
    | none =>
      rw [hn] at h
      cases h
    | some r =>
      rw [hn] at h
      exact ⟨d, r, rfl, hn, (Option.some.inj h).symm⟩
theorem went_step {b : BldD} {p : PersonD} {ls st passed stops : List Str} {n r : Str} {d : DoorD} (h : wentFrom b p ls st passed = some stops) (hd : b.doors.lookup n = some d) (hn : nextOf b p ls stops (n, d) = some r) : wentFrom b p ls st (passed ++ [n]) = some (stops ++ [r]) := by
  rw [went_app, h]
  show (match b.doors.lookup n with | none => none | some d => match nextOf b p ls stops (n, d) with | none => none | some rm => some (stops ++ [rm])) = _
  rw [hd]
  show (match nextOf b p ls stops (n, d) with | none => none | some rm => some (stops ++ [rm])) = _
  rw [hn]
theorem went_last {b : BldD} {p : PersonD} {ls st passed S : List Str} {n : Str} (h : wentFrom b p ls st (passed ++ [n]) = some S) : ∃ stops d r, wentFrom b p ls st passed = some stops ∧ b.doors.lookup n = some d ∧ nextOf b p ls stops (n, d) = some r ∧ S = stops ++ [r] := by
  rw [went_app] at h
  cases hp : wentFrom b p ls st passed with
  | none =>
    rw [hp] at h
    cases h
  | some stops =>
    rw [hp] at h
    obtain ⟨d, r, h1, h2, h3⟩ := went_one h
    exact ⟨stops, d, r, rfl, h1, h2, h3⟩
theorem went_len {b : BldD} {p : PersonD} {ls : List Str} : ∀ (passed st : List Str) {stops : List Str}, wentFrom b p ls st passed = some stops → stops.length = st.length + passed.length ∧ ∀ z ∈ passed, z ∈ b.doors.map (·.1)
  | [], st, stops, h => by
    cases h
    exact ⟨rfl, fun _ z => by cases z⟩
  | n :: r, st, stops, h => by
    have h0 : wentFrom b p ls st ([n] ++ r) = some stops := h
    rw [went_app] at h0
    cases h1 : wentFrom b p ls st [n] with
    | none =>
      rw [h1] at h0
      cases h0
    | some S =>
      rw [h1] at h0
      obtain ⟨d, rm, hd, _, rfl⟩ := went_one h1
      obtain ⟨k1, k2⟩ := went_len r _ h0
      refine ⟨?_, fun z hz => ?_⟩
      · rw [k1, List.length_append, List.length_singleton, List.length_cons]
        omega
      · rcases List.mem_cons.mp hz with c | c
        · rw [c]
          exact List.mem_map.mpr ⟨_, look_mem hd, rfl⟩
        · exact k2 z c
theorem went_take {b : BldD} {p : PersonD} {ls st doors stops : List Str} (h : wentFrom b p ls st doors = some stops) {i : Nat} {n : Str} (hi : doors[i]? = some n) : ∃ sti d r, wentFrom b p ls st (doors.take i) = some sti ∧ b.doors.lookup n = some d ∧ nextOf b p ls sti (n, d) = some r ∧ wentFrom b p ls st (doors.take (i + 1)) = some (sti ++ [r]) := by
  have e := h
  rw [← List.take_append_drop (i + 1) doors, went_app] at e
  cases h1 : wentFrom b p ls st (doors.take (i + 1)) with
  | none =>
    rw [h1] at e
    cases e
  | some S =>
    rw [take_next1 hi] at h1
    obtain ⟨sti, d, r, k1, k2, k3, rfl⟩ := went_last h1
    exact ⟨sti, d, r, k1, k2, k3, rfl⟩
def spAlong (K : PySem.W.Frag) (CD CP CB CL CW : Addr) : Sp := fun vs H Q _ => ∃ (x z t : Addr) (b : BldD) (n : Str) (p : PersonD) (ls doors stops : List Str), vs = [.ref CW, .ref x, .str n, .ref z, .ref t] ∧ BldAt K CD CP CB H x b ∧ b.people.lookup n = some p ∧ LkAt CL H z ls ∧ ls.length ≤ 1000 ∧ (∀ z ∈ ls, z ∈ b.doors.map (·.1)) ∧ SqT K H t (doors.map V.str) ∧ doors.length ≤ 900 ∧ wentFrom b p ls [p.a] doors = some stops ∧
  ∀ H' y dy py l1 l2, Same H H' → WkIn K CD CP CB CL CW H' y b p ls dy x py z l1 l2 doors stops → Q (.ref y) H'
abbrev nAlong : List Str := ["cls", "building", "name", "locks", "doors", "walk", "door"]
theorem scAlong : FnScope nAlong ["cls", "building", "name", "locks", "doors"] (defScope s_Walk_along) := ⟨rfl, rfl, rfl, by decide +kernel, rfl, by decide +kernel, by decide +kernel⟩
theorem ok_along {f : Addr} {fd : FuncData} (F : Fun K "along" "Walk.along" s_Walk_along f fd) (TW : OwnC K mg CW "Walk" wkF) (MW : MkC P w K mg base CW 4 ["self", "building", "name", "locks"] (spWIn K CD CP CB CL CW)) (GT : Fn P w K mg base 4 "check_trail" ["building", "trail"] (spChkT K CD CP CB)) (MG : Mt P w K mg base 6 CW "go" ["self", "name"] (spGo K CD CP CB CL CW)) :
    FnOk P w K mg base CX0 7 f fd ["cls", "building", "name", "locks", "doors"] (spAlong K CD CP CB CL CW) := by
  obtain ⟨fW, fdW, mW, bW, FW⟩ := MW.ex
  refine F.ok scAlong (fun vs H Q E h => ?_) (fun cdv A outer s H vs Q E hr h => ?_)
  · obtain ⟨x, z, t, b, n, p, ls, doors, stops, rfl, _⟩ := h
    rfl
  · obtain ⟨x, z, t, b, n, p, ls, doors, stops, rfl, hb, hn, hz, few, sub, ht, l900, hw, q⟩ := h
    have hr4 := hr.mono (show 4 ≤ 6 by decide)
    have hr5 := hr.mono (show 5 ≤ 6 by decide)
    refine ⟨_, pss_cons (ps_set (i := 5) scAlong.nd rfl (.inl rfl) (pe_makeL (i := 0) (E := E0) mW FW hr5 rfl (.inl rfl) bW pass0 (pa_cons (pv 1) (pa_cons (pv 2) (pa_cons (pv 3) pa_nil)))))
      (pss_cons (ps_expr (pe_fn GT hr4 (by rfl) (pa_cons (pv 1) (pa_cons (pv 4) pa_nil))))
      (pss_cons (ps_for PassesOwn.never rfl (pi_tup (pv 4)) (pg_name (i := 6) scAlong.nd rfl (Or.inl rfl)) (pss_one (ps_expr (pe_mt MG hr TW.cl (pv 5) (pa_cons (pv 6) pa_nil)))))
      (pss_one (ps_ret (pv 5))))), ?_⟩
    have bok := hb.ok
    refine ⟨rfl, .ref x, rfl, .str n, rfl, .ref z, rfl, ?_⟩
    intro y dy ny ndy ney
    have sm : Same H (upd (upd H dy (.own y)) y (.ins CW dy [])) := (same_new ndy).trans (same_new (by rw [upd_ne (Ne.symm ney)]; exact ny))
    refine ⟨y, dy, x, z, b, n, p, ls, rfl, upd_same, hb.same sm, hn, hz.same sm, few, sub, fun H1 py l1 l2 bt n1 n2 W1 => ⟨rfl, ?_⟩⟩
    have s1 : Same H H1 := fun b o e => bt b o (sm b o e) (ne_of_none e ny)
    have nH : ∀ {l : Addr}, (upd (upd H dy (.own y)) y (.ins CW dy [])) l = none → H l = none := fun {l} h => was_new sm h
    refine ⟨.ref x, rfl, .ref t, rfl, x, t, b, doors, rfl, hb.same s1, Same.tup s1 ht, by omega, (went_len _ _ hw).2, fun H2 s2 => ?_⟩
    have s12 := s1.trans s2
    refine ⟨.ref t, rfl, t, rfl, ⟨_, Same.tup s12 ht⟩, for_it (walk_tup (xs := doors.map V.str)) (fun i σ H' => Same H H' ∧ ∃ (sti : List Str) (y6 : Option V), wentFrom b p ls [p.a] (doors.take i) = some sti ∧ WkIn K CD CP CB CL CW H' y b p ls dy x py z l1 l2 (doors.take i) sti ∧ σ = [some (.ref CW), some (.ref x), some (.str n), some (.ref z), some (.ref t), some (.ref y), y6])
      ⟨s12, [p.a], none, rfl, W1.same s2, rfl⟩ (fun i σ H' _ hP => Same.tup hP.1 ht) (fun i v σ H3 H4 hi hP hY => ?_) (fun σ H3 hP => ?_)⟩
    · obtain ⟨rfl, hv⟩ := hY
      obtain ⟨s3, sti, y6, hst, W3, rfl⟩ := hP
      obtain ⟨dr, hdr, rfl⟩ := at_map hv
      obtain ⟨sti', d, r, k1, k2, k3, k4⟩ := went_take hw hdr
      rw [hst] at k1
      cases k1
      obtain ⟨q1, q2⟩ := went_len _ _ hst
      have lt := List.length_take_le i doors
      have lt2 : (doors.take i).length ≤ doors.length := List.length_take_le' _ _
      refine ⟨.ref y, rfl, y, dy, _, rfl, W3.ob, rfl, .str dr, rfl, y, b, p, ls, dy, x, py, z, l1, l2, doors.take i, sti, dr, d, r, rfl, W3, (fun z => by rw [z] at q1; simp at q1; omega), by omega, by rw [q1, List.length_singleton]; omega, k2, k3, fun H5 b5 W5 => ?_⟩
      refine ⟨fun a o e => b5 a o (s3 a o e) (fun z => by rw [z, nH n1] at e; cases e) (fun z => by rw [z, nH n2] at e; cases e), sti ++ [r], _, k4, ?_, rfl⟩
      rw [take_next1 hdr]
      exact W5
    · obtain ⟨s3, sti, y6, hst, W3, rfl⟩ := hP
      rw [List.length_map, List.take_length] at hst W3
      rw [hw] at hst
      cases hst
      exact ⟨.ref y, rfl, q _ y dy py l1 l2 s3 W3⟩
end
end Lk
set_option Elab.async false
set_option linter.all false
set_option maxRecDepth 100000
set_option maxHeartbeats 2000000
/-! The law's own draws. -/
namespace Lw
open PySem PySem.Spec PyProof.Rows L2 TxS LkO Lk
section
variable {P : Program} {w : World} {K : PySem.W.Frag} {mg : Str → Option Value} {base : Heap}
/-! ### _law_cell_at -/
def spCell (K : PySem.W.Frag) : Sp := fun vs H Q _ => ∃ (a : Addr) (ns : List Int) (j : Nat), vs = [.ref a, .int j] ∧ SqL K H a (ns.map V.int) ∧ ∀ c : Int, Q (.int c) H
theorem scCell : FnScope ["_law_script", "_law_k"] ["_law_script", "_law_k"] (defScope s__law_cell_at) := ⟨rfl, rfl, rfl, by decide +kernel, rfl, by decide +kernel, by decide +kernel⟩
theorem ok_cell {f : Addr} {fd : FuncData} {k : Nat} (F : Fun K "_law_cell_at" "_law_cell_at" s__law_cell_at f fd) (mL : mg "len" = none) : FnOk P w K mg base CX0 (k + 1) f fd ["_law_script", "_law_k"] (spCell K) := by
  refine F.ok scCell (fun vs H Q E h => ?_) (fun cdv A outer s H vs Q E hr h => ?_)
  · obtain ⟨a, ns, j, rfl, _⟩ := h
    rfl
  · obtain ⟨a, ns, j, rfl, ha, q⟩ := h
    refine ⟨_, pss_cons (ps_if (pt_cmpR op_lt (pv 1) (pe_callB call_len_seq (by rfl) mL PySem.boot_len (pa_cons (pv 0) pa_nil)) (nomark _)) (pss_one (ps_ret (pe_ix ix_list (pv 0) (pv 1) (fun _ _ => rfl)))) pss_nil) (pss_one (ps_ret pe_int)), ?_⟩
    refine ⟨.int j, rfl, .ref a, rfl, a, _, rfl, .inl ha, _, _, rfl, rfl, _, rfl, ite2 (fun e => ?_) (fun e => ?_)⟩
    · have lt : j < ns.length := by
        have := of_decide_eq_true e
        rw [List.length_map] at this
        omega
      exact ⟨.ref a, rfl, .int j, rfl, a, _, j, _, rfl, rfl, ha, atI_nat (by rw [List.getElem?_map, List.getElem?_eq_getElem lt]; rfl), q _⟩
    · exact q 0
/-! ### _law_draw -/
def spDraw : Sp := fun vs H Q _ => ∃ c k b : Int, vs = [.int c, .int k, .int b] ∧ 0 < b ∧ ∀ r H', Same H H' → 0 ≤ r → r < b → Q (.int r) H'
def primes : List Int := [1000003, 1000033, 1000037, 1000039, 1000081, 1000099, 1000117, 1000121, 1000133, 1000151, 1000159, 1000171, 1000183, 1000187, 1000193, 1000199]
theorem primes_pos : ∀ p ∈ primes, 0 < p := by decide
theorem scDraw : FnScope ["_law_cell", "_law_k", "_law_below", "_law_primes"] ["_law_cell", "_law_k", "_law_below"] (defScope s__law_draw) := ⟨rfl, rfl, rfl, by decide +kernel, rfl, by decide +kernel, by decide +kernel⟩
theorem ok_draw {f : Addr} {fd : FuncData} {k : Nat} (F : Fun K "_law_draw" "_law_draw" s__law_draw f fd) : FnOk P w K mg base CX0 (k + 1) f fd ["_law_cell", "_law_k", "_law_below"] spDraw := by
  refine F.ok scDraw (fun vs H Q E h => ?_) (fun cdv A outer s H vs Q E hr h => ?_)
  · obtain ⟨c, k, b, rfl, _⟩ := h
    rfl
  · obtain ⟨c, k', b, rfl, hb, q⟩ := h
    refine ⟨_, pss_cons (ps_set (i := 3) scDraw.nd rfl (.inl rfl) (pe_tup (pa_cons pe_int (pa_cons pe_int (pa_cons pe_int (pa_cons pe_int (pa_cons pe_int (pa_cons pe_int (pa_cons pe_int (pa_cons pe_int (pa_cons pe_int (pa_cons pe_int (pa_cons pe_int (pa_cons pe_int (pa_cons pe_int (pa_cons pe_int (pa_cons pe_int (pa_cons pe_int pa_nil))))))))))))))))))
      (pss_one (ps_ret (pe_op op_mod (pe_op op_mod (pe_op op_add (pe_op op_mul (pv 0) pe_int) (pe_op op_mul (pv 1) pe_int)) (pe_ix ix_tup (pv 3) (pe_op op_mod (pv 1) pe_int) (fun _ _ => rfl))) (pv 2)))), ?_⟩
    refine ⟨by show 16 ≤ sizeLine; rw [sizeLine_eq]; decide, fun p np => ?_⟩
    have m0 : 0 ≤ k' % 16 := Int.emod_nonneg _ (by decide)
    have m1 : k' % 16 < 16 := Int.emod_lt_of_pos _ (by decide)
    have lt : (k' % 16).toNat < primes.length := by
      show (k' % 16).toNat < 16
      omega
    have at_ : atI (primes.map V.int) (k' % 16) = some (.int primes[(k' % 16).toNat]) := by
      have := atI_nat (xs := primes.map V.int) (j := (k' % 16).toNat) (v := .int primes[(k' % 16).toNat]) (by rw [List.getElem?_map, List.getElem?_eq_getElem lt]; rfl)
      rw [Int.toNat_of_nonneg m0] at this
      exact this
    refine ⟨.int c, rfl, c, 48271, rfl, rfl, .inr ⟨by decide, by decide⟩, .int k', rfl, k', 69621, rfl, rfl, .inr ⟨by decide, by decide⟩, _, _, rfl, rfl, .ref p, rfl, .int k', rfl, k', 16, rfl, rfl, (show (0 : Int) < 16 by decide), p, _, _, _, rfl, rfl, .inl (.inl upd_same), at_, _, _, rfl, rfl, primes_pos _ (List.getElem_mem lt), .int b, rfl, _, b, rfl, rfl, hb, ?_⟩
    exact q _ _ (same_new np) (Int.emod_nonneg _ (by omega)) (Int.emod_lt_of_pos _ hb)
/-! ### _law_number -/
theorem pow_small {i : Nat} (h : i ≤ 23) : ((1009 : Int) ^ i).natAbs < 2 ^ 240 := by
  rw [Int.natAbs_pow]
  refine Nat.lt_of_le_of_lt (Nat.pow_le_pow_right (by decide) h) ?_
  decide +kernel
theorem pow_pos1 (i : Nat) : 0 < (1009 : Int) ^ i := Int.pow_pos (by decide)
def spNumber : Sp := fun vs H Q _ => ∃ c k b : Int, vs = [.int c, .int k, .int b] ∧ 0 ≤ k ∧ k ≤ 1000 ∧ 0 < b ∧ ∀ r H', Same H H' → 0 ≤ r → r < b → Q (.int r) H'
theorem scNumber : FnScope ["_law_cell", "_law_k", "_law_below", "_law_power", "_law_times", "_law_remains", "_law_small"] ["_law_cell", "_law_k", "_law_below"] (defScope s__law_number) := ⟨rfl, rfl, rfl, by decide +kernel, rfl, by decide +kernel, by decide +kernel⟩
theorem ok_number {f fD : Addr} {fd fdD : FuncData} (F : Fun K "_law_number" "_law_number" s__law_number f fd) (mR : mg "range" = none)
    (GD : FnOk P w K mg base CX0 1 fD fdD ["_law_cell", "_law_k", "_law_below"] spDraw) (bD : Binds K fdD ["_law_cell", "_law_k", "_law_below"] []) (mD : mg "_law_draw" = some (.ref fD)) (kD : PySem.W.keepIn K (.ref fD) = true) :
    FnOk P w K mg base CX0 2 f fd ["_law_cell", "_law_k", "_law_below"] spNumber := by
  refine F.ok scNumber (fun vs H Q E h => ?_) (fun cdv A outer s H vs Q E hr h => ?_)
  · obtain ⟨c, k, b, rfl, _⟩ := h
    rfl
  · obtain ⟨c, k', b, rfl, k0, k1, hb, q⟩ := h
    refine ⟨_, pss_cons (ps_set (i := 3) scNumber.nd rfl (.inl rfl) pe_int)
      (pss_cons (ps_for PassesOwn.never rfl (pi_range1 (by rfl) mR (pa_cons (pe_op op_mod (pv 1) pe_int) pa_nil)) (pg_name (i := 4) scNumber.nd rfl (Or.inl rfl)) (pss_one (ps_set (i := 3) scNumber.nd rfl (.inl rfl) (pe_op op_mul (pv 3) pe_int))))
      (pss_cons (ps_set (i := 5) scNumber.nd rfl (.inl rfl) (pe_op op_fdivW (pe_op op_sub (pv 0) (pe_op op_pow pe_int pe_int)) (pv 3)))
      (pss_cons (ps_if (pt_cmpR op_gt (pv 5) pe_int (nomark _)) (pss_one (ps_ret (pe_op op_mod (pe_op op_mod (pv 5) pe_int) (pv 2)))) pss_nil)
      (pss_cons (ps_set (i := 6) scNumber.nd rfl (.inl rfl) (pe_op op_mod (pv 0) pe_int))
      (pss_one (ps_ret (pe_op op_mod (pe_call GD hr (by rfl) mD kD bD .nil pass0 (pa_cons (pe_op op_mul (pe_op op_add (pv 6) (pe_op op_mul pe_int (pv 1))) (pe_op op_add (pe_op op_add (pv 6) (pe_op op_mul pe_int (pv 1))) pe_int))
        (pa_cons (pe_op op_add (pe_op op_mod (pv 1) pe_int) pe_int) (pa_cons pe_int pa_nil)))) (pv 2)))))))), ?_⟩
    have m0 : 0 ≤ k' % 24 := Int.emod_nonneg _ (by decide)
    have m1 : k' % 24 < 24 := Int.emod_lt_of_pos _ (by decide)
    refine ⟨.int k', rfl, k', 24, rfl, rfl, (show (0 : Int) < 24 by decide), k' % 24, rfl, by omega, by omega, for_it walk_range (fun i σ H' => H' = H ∧ ∃ y4, σ = [some (.int c), some (.int k'), some (.int b), some (.int (1009 ^ i)), y4, none, none]) ⟨rfl, none, rfl⟩ (fun _ _ _ _ _ => trivial) (fun i x σ H2 H3 hi hP hY => ?_) (fun σ H2 hP => ?_)⟩
    · obtain ⟨rfl, rfl⟩ := hY
      obtain ⟨rfl, y4, rfl⟩ := hP
      refine ⟨_, rfl, _, 1009, rfl, rfl, .inr ⟨by decide, by decide⟩, rfl, some (.int (0 + (i : Int))), ?_⟩
      rw [Int.pow_succ]
      rfl
    · obtain ⟨rfl, y4, rfl⟩ := hP
      refine ⟨.int c, rfl, 10, 18, rfl, rfl, ⟨by decide, by decide, by decide⟩, c, _, rfl, rfl, _, rfl, _, _, rfl, rfl, wide_div (pow_pos1 _) (pow_small (by omega)) (by decide) (by decide), ?_⟩
      refine ⟨_, rfl, _, 0, rfl, rfl, _, rfl, ite2 (fun e => ?_) (fun e => ?_)⟩
      · exact ⟨_, rfl, _, 1009, rfl, rfl, (show (0 : Int) < 1009 by decide), .int b, rfl, _, b, rfl, rfl, hb, q _ _ (Same.refl _) (Int.emod_nonneg _ (by omega)) (Int.emod_lt_of_pos _ hb)⟩
      · refine ⟨.int c, rfl, c, 1000003, rfl, rfl, (show (0 : Int) < 1000003 by decide), ?_⟩
        have s0 : 0 ≤ c % 1000003 := Int.emod_nonneg _ (by decide)
        have s1 : c % 1000003 < 1000003 := Int.emod_lt_of_pos _ (by decide)
        refine ⟨_, rfl, _, rfl, 977, k', rfl, rfl, .inl ⟨by decide, by decide⟩, _, _, rfl, rfl, _, rfl, .int k', rfl, 31, k', rfl, rfl, .inl ⟨by decide, by decide⟩, _, _, rfl, rfl, _, 5, rfl, rfl, _, _, rfl, rfl, .inl ⟨by omega, by omega⟩, .int k', rfl, k', 9, rfl, rfl, (show (0 : Int) < 9 by decide), _, 1, rfl, rfl, _, _, _, rfl, by decide, fun r H' sm r0 r1 => ?_⟩
        exact ⟨.int b, rfl, r, b, rfl, rfl, hb, q _ _ sm (Int.emod_nonneg _ (by omega)) (Int.emod_lt_of_pos _ hb)⟩
/-! ### _law_next -/
/-- all stands as it was, but what is at st -/
def SameX (st : Addr) (H H' : Hp) : Prop := ∀ b o, H b = some o → b ≠ st → H' b = some o
theorem SameX.refl (st : Addr) (H : Hp) : SameX st H H := fun _ _ e _ => e
theorem SameX.of {st : Addr} {H H' : Hp} (s : Same H H') : SameX st H H' := fun b o e _ => s b o e
theorem SameX.trans {st : Addr} {H H1 H2 : Hp} (s : SameX st H H1) (t : SameX st H1 H2) : SameX st H H2 := fun b o e n => t b o (s b o e n) n
/-- the state at st: the script's list, two numbers -/
structure Sta (K : PySem.W.Frag) (H : Hp) (st a : Addr) (ns : List Int) (b n : Nat) : Prop where
  ob : H st = some (.lst [.ref a, .int b, .int n])
  sc : SqL K H a (ns.map V.int)
theorem Sta.sq {K : PySem.W.Frag} {H H' : Hp} {st a : Addr} {ns : List Int} {b n : Nat} (h : Sta K H st a ns b n) (s : SameX st H H') : SqL K H' a (ns.map V.int) := by
  rcases h.sc with (e | ⟨o, e⟩) | e
  · refine .inl (.inl (s _ _ e fun z => ?_))
    have q := h.ob
    rw [← z, e] at q
    have q2 := Option.some.inj q
    injection q2 with q3
    cases ns with
    | nil => cases q3
    | cons x r =>
      injection q3 with q4 _
      cases q4
  · refine .inl (.inr ⟨o, s _ _ e fun z => ?_⟩)
    have q := h.ob
    rw [← z, e] at q
    cases q
  · exact .inr e
theorem Sta.move {K : PySem.W.Frag} {H H' : Hp} {st a : Addr} {ns : List Int} {b n m : Nat} (h : Sta K H st a ns b n) (s : SameX st H H') (e : H' st = some (.lst [.ref a, .int b, .int m])) : Sta K H' st a ns b m := ⟨e, h.sq s⟩
theorem Sta.same {K : PySem.W.Frag} {H H' : Hp} {st a : Addr} {ns : List Int} {b n : Nat} (h : Sta K H st a ns b n) (s : Same H H') : Sta K H' st a ns b n := ⟨s _ _ h.ob, s.seq h.sc⟩
def spNext (K : PySem.W.Frag) : Sp := fun vs H Q _ => ∃ (st a : Addr) (ns : List Int) (b n : Nat) (m : Int), vs = [.ref st, .int m] ∧ Sta K H st a ns b n ∧ 0 < m ∧
  ∀ r H', 0 ≤ r → r < m → SameX st H H' → Sta K H' st a ns b (n + 1) → Q (.int r) H'
theorem scNext : FnScope ["_law_state", "_law_below", "_law_at", "_law_cell"] ["_law_state", "_law_below"] (defScope s__law_next) := ⟨rfl, rfl, rfl, by decide +kernel, rfl, by decide +kernel, by decide +kernel⟩
theorem ok_next {f fC fN : Addr} {fd fdC fdN : FuncData} (F : Fun K "_law_next" "_law_next" s__law_next f fd)
    (GC : FnOk P w K mg base CX0 1 fC fdC ["_law_script", "_law_k"] (spCell K)) (bC : Binds K fdC ["_law_script", "_law_k"] []) (mC : mg "_law_cell_at" = some (.ref fC)) (kC : PySem.W.keepIn K (.ref fC) = true)
    (GN : FnOk P w K mg base CX0 2 fN fdN ["_law_cell", "_law_k", "_law_below"] spNumber) (bN : Binds K fdN ["_law_cell", "_law_k", "_law_below"] []) (mN : mg "_law_number" = some (.ref fN)) (kN : PySem.W.keepIn K (.ref fN) = true) :
    FnOk P w K mg base CX0 3 f fd ["_law_state", "_law_below"] (spNext K) := by
  refine F.ok scNext (fun vs H Q E h => ?_) (fun cdv A outer s H vs Q E hr h => ?_)
  · obtain ⟨st, a, ns, b, n, m, rfl, _⟩ := h
    rfl
  · obtain ⟨st, a, ns, b, n, m, rfl, hS, hm, q⟩ := h
    refine ⟨_, pss_cons (ps_asg (pe_op op_add (pe_ix ix_list (pv 0) pe_int (fun _ _ => rfl)) pe_int) (pg_sub (pv 0) pe_int set_list))
      (pss_cons (ps_set (i := 2) scNext.nd rfl (.inl rfl) (pe_op op_fdiv (pe_ix ix_list (pv 0) pe_int (fun _ _ => rfl)) pe_int))
      (pss_cons (ps_set (i := 3) scNext.nd rfl (.inl rfl) (pe_op op_add (pe_call GC (hr.mono (by decide)) (by rfl) mC kC bC .nil pass0 (pa_cons (pe_ix ix_list (pv 0) pe_int (fun _ _ => rfl)) (pa_cons (pe_op op_add (pe_ix ix_list (pv 0) pe_int (fun _ _ => rfl)) (pv 2)) pa_nil))) (pe_op op_mul pe_int (pv 2))))
      (pss_one (ps_ret (pe_call GN hr (by rfl) mN kN bN .nil pass0 (pa_cons (pv 3) (pa_cons (pe_op op_add (pe_op op_mod (pe_ix ix_list (pv 0) pe_int (fun _ _ => rfl)) pe_int) pe_int) (pa_cons (pv 1) pa_nil)))))))), ?_⟩
    refine ⟨.ref st, rfl, st, _, 2, _, rfl, rfl, .inl (.inl hS.ob), rfl, _, 1, rfl, rfl, .ref st, rfl, st, _, 2, 2, rfl, rfl, hS.ob, rfl, ?_⟩
    have hS1 : Sta K (upd H st (.lst [.ref a, .int b, .int ((n + 1 : Nat) : Int)])) st a ns b (n + 1) := hS.move (fun x o e hx => by rw [upd_ne hx]; exact e) upd_same
    have hx1 : SameX st H (upd H st (.lst [.ref a, .int b, .int ((n + 1 : Nat) : Int)])) := fun x o e hx => by rw [upd_ne hx]; exact e
    have eL : ([V.ref a, V.int b, V.int n] : List V).set 2 (.int ((n : Int) + 1)) = [.ref a, .int b, .int ((n + 1 : Nat) : Int)] := rfl
    rw [eL]
    have at2 : atI ([V.ref a, V.int b, V.int ((n + 1 : Nat) : Int)]) 2 = some (.int ((n + 1 : Nat) : Int)) := rfl
    refine ⟨.ref st, rfl, st, _, 2, _, rfl, rfl, .inl (.inl hS1.ob), rfl, _, 12, rfl, rfl, ⟨by decide, by decide⟩, ?_⟩
    refine ⟨.ref st, rfl, st, _, 0, _, rfl, rfl, .inl (.inl hS1.ob), rfl, .ref st, rfl, st, _, 1, _, rfl, rfl, .inl (.inl hS1.ob), rfl, _, rfl, _, _, rfl, rfl, a, ns, b + (n + 1) / 12, ?_, hS1.sc, fun c => ?_⟩
    · rfl
    · have d0 : (0 : Int) ≤ ((n + 1 : Nat) : Int) / 12 := by omega
      refine ⟨_, rfl, 31, _, rfl, rfl, .inl ⟨by decide, by decide⟩, _, _, rfl, rfl, ?_⟩
      have m0 : 0 ≤ ((n + 1 : Nat) : Int) % 12 := Int.emod_nonneg _ (by decide)
      have m1 : ((n + 1 : Nat) : Int) % 12 < 12 := Int.emod_lt_of_pos _ (by decide)
      refine ⟨_, rfl, .ref st, rfl, st, _, 2, _, rfl, rfl, .inl (.inl hS1.ob), rfl, _, 12, rfl, rfl, (show (0 : Int) < 12 by decide), _, 1, rfl, rfl, .int m, rfl, _, _, m, rfl, by omega, by omega, hm, fun r H' sm r0 r1 => ?_⟩
      exact q r H' r0 r1 (hx1.trans (SameX.of sm)) (hS1.same sm)
end
end Lw
set_option Elab.async false
set_option linter.all false
set_option maxRecDepth 100000
set_option maxHeartbeats 2000000
namespace Lw
open PySem PySem.Spec PyProof.Rows L2 TxS LkO Lk
/-- some state of draws at st -/
def StE (K : PySem.W.Frag) (H : Hp) (st sc : Addr) : Prop := ∃ ns b n, Sta K H st sc ns b n
/-- numbers were drawn, objects were made -/
structure Mv (K : PySem.W.Frag) (st sc : Addr) (H H' : Hp) : Prop where
  sx : SameX st H H'
  se : StE K H' st sc
theorem StE.ne {K : PySem.W.Frag} {H : Hp} {st sc a : Addr} {o : HO} (h : StE K H st sc) (ha : H a = some o) (d : ∀ x y z, o ≠ .lst [.ref x, .int y, .int z]) : a ≠ st := fun e => by
  obtain ⟨ns, b, n, hS⟩ := h
  rw [e, hS.ob] at ha
  cases ha
  exact d _ _ _ rfl
theorem StE.same {K : PySem.W.Frag} {H H' : Hp} {st sc : Addr} (h : StE K H st sc) (s : Same H H') : StE K H' st sc := by
  obtain ⟨ns, b, n, hS⟩ := h
  exact ⟨ns, b, n, hS.same s⟩
theorem Mv.refl {K : PySem.W.Frag} {st sc : Addr} {H : Hp} (h : StE K H st sc) : Mv K st sc H H := ⟨SameX.refl _ _, h⟩
theorem Mv.of {K : PySem.W.Frag} {st sc : Addr} {H H' : Hp} (h : StE K H st sc) (s : Same H H') : Mv K st sc H H' := ⟨SameX.of s, h.same s⟩
theorem Mv.trans {K : PySem.W.Frag} {st sc : Addr} {H H1 H2 : Hp} (a : Mv K st sc H H1) (b : Mv K st sc H1 H2) : Mv K st sc H H2 := ⟨a.sx.trans b.sx, b.se⟩
theorem Mv.more {K : PySem.W.Frag} {st sc : Addr} {H H1 H2 : Hp} (a : Mv K st sc H H1) (s : Same H1 H2) : Mv K st sc H H2 := a.trans (Mv.of a.se s)
theorem Mv.at_ {K : PySem.W.Frag} {st sc a : Addr} {H H' : Hp} {o : HO} (m : Mv K st sc H H') (h : StE K H st sc) (ha : H a = some o) (d : ∀ x y z, o ≠ .lst [.ref x, .int y, .int z]) : H' a = some o := m.sx _ _ ha (h.ne ha d)
theorem Mv.tup {K : PySem.W.Frag} {st sc a : Addr} {H H' : Hp} {xs : List V} (m : Mv K st sc H H') (h : StE K H st sc) (ha : SqT K H a xs) : SqT K H' a xs := by
  rcases ha with (e | ⟨o, e⟩) | e
  · exact .inl (.inl (m.at_ h e fun _ _ _ z => by cases z))
  · exact .inl (.inr ⟨o, m.at_ h e fun _ _ _ z => by cases z⟩)
  · exact .inr e
theorem Mv.lst {K : PySem.W.Frag} {st sc a : Addr} {H H' : Hp} {xs : List V} (m : Mv K st sc H H') (h : StE K H st sc) (nx : ∀ x y z, xs ≠ [.ref x, .int y, .int z]) (ha : SqL K H a xs) : SqL K H' a xs := by
  rcases ha with (e | ⟨o, e⟩) | e
  · exact .inl (.inl (m.at_ h e fun x y z q => nx x y z (HO.lst.inj q)))
  · exact .inl (.inr ⟨o, m.at_ h e fun _ _ _ z => by cases z⟩)
  · exact .inr e
theorem strs_no (zs : List Str) : ∀ x y z, zs.map V.str ≠ [.ref x, .int y, .int z] := fun x y z e => by
  cases zs with
  | nil => cases e
  | cons a r =>
    injection e with e1 _
    cases e1
theorem Mv.fresh {K : PySem.W.Frag} {st sc a : Addr} {H H' : Hp} (m : Mv K st sc H H') (h : StE K H st sc) (n : H' a = none) : H a = none := by
  cases e : H a with
  | none => rfl
  | some o =>
    by_cases q : a = st
    · subst q
      obtain ⟨_, _, _, hS⟩ := m.se
      rw [hS.ob] at n
      cases n
    · have := m.sx _ _ e q
      rw [n] at this
      cases this
/-- what is new is not the state -/
theorem Mv.new {K : PySem.W.Frag} {st sc p : Addr} {H H' : Hp} {o : HO} (m : Mv K st sc H H') (h : StE K H st sc) (n : H p = none) : Mv K st sc H (upd H' p o) := by
  have np : p ≠ st := fun e => by
    obtain ⟨_, _, _, hS⟩ := h
    rw [e, hS.ob] at n
    cases n
  have sx : SameX st H (upd H' p o) := fun b u e hb => by
    rw [upd_ne (ne_of_none e n)]
    exact m.sx _ _ e hb
  obtain ⟨ns, b, k, hS⟩ := h
  obtain ⟨ns', b', k', hS'⟩ := m.se
  exact ⟨sx, ns, b', k', ⟨by rw [upd_ne np.symm]; exact hS'.ob, hS.sq sx⟩⟩
section
variable {P : Program} {w : World} {K : PySem.W.Frag} {mg : Str → Option Value} {base : Heap}
def spNx (K : PySem.W.Frag) : Sp := fun vs H Q _ => ∃ (st sc : Addr) (m : Int), vs = [.ref st, .int m] ∧ StE K H st sc ∧ 0 < m ∧ ∀ r H', 0 ≤ r → r < m → Mv K st sc H H' → Q (.int r) H'
theorem ok_nx {f : Addr} {fd : FuncData} {k : Nat} (F : FnOk P w K mg base CX0 k f fd ["_law_state", "_law_below"] (spNext K)) : FnOk P w K mg base CX0 k f fd ["_law_state", "_law_below"] (spNx K) :=
  FnOk.weak F fun vs H Q E ⟨st, sc, m, e, ⟨ns, b, n, hS⟩, hm, q⟩ => ⟨st, sc, ns, b, n, m, e, hS, hm, fun r H' r0 r1 sx hS' => q r H' r0 r1 ⟨sx, ns, b, n + 1, hS'⟩⟩
/-! ### _law_pick -/
theorem scPick : FnScope ["_law_state", "_law_things"] ["_law_state", "_law_things"] (defScope s__law_pick) := ⟨rfl, rfl, rfl, by decide +kernel, rfl, by decide +kernel, by decide +kernel⟩
def spPickT (K : PySem.W.Frag) : Sp := fun vs H Q _ => ∃ (st sc t : Addr) (xs : List V), vs = [.ref st, .ref t] ∧ StE K H st sc ∧ SqT K H t xs ∧ xs ≠ [] ∧ ∀ v H', v ∈ xs → Mv K st sc H H' → Q v H'
def spPickL (K : PySem.W.Frag) : Sp := fun vs H Q _ => ∃ (st sc t : Addr) (xs : List V), vs = [.ref st, .ref t] ∧ StE K H st sc ∧ SqL K H t xs ∧ (∀ x y z, xs ≠ [.ref x, .int y, .int z]) ∧ xs ≠ [] ∧ ∀ v H', v ∈ xs → Mv K st sc H H' → Q v H'
theorem at_in {xs : List V} {r : Int} (h0 : 0 ≤ r) (h1 : r < xs.length) : ∃ v, atI xs r = some v ∧ v ∈ xs := by
  have lt : r.toNat < xs.length := by omega
  refine ⟨xs[r.toNat], ?_, List.getElem_mem lt⟩
  have := atI_nat (xs := xs) (j := r.toNat) (v := xs[r.toNat]) (List.getElem?_eq_getElem lt)
  rw [Int.toNat_of_nonneg h0] at this
  exact this
theorem ok_pickT {f : Addr} {fd : FuncData} (F : Fun K "_law_pick" "_law_pick" s__law_pick f fd) (B : Blt mg) (GX : Fn P w K mg base 3 "_law_next" ["_law_state", "_law_below"] (spNx K)) : FnOk P w K mg base CX0 4 f fd ["_law_state", "_law_things"] (spPickT K) := by
  refine F.ok scPick (fun vs H Q E h => ?_) (fun cdv A outer s H vs Q E hr h => ?_)
  · obtain ⟨st, sc, t, xs, rfl, _⟩ := h
    rfl
  · obtain ⟨st, sc, t, xs, rfl, hS, ht, ne, q⟩ := h
    refine ⟨_, pss_one (ps_ret (pe_ix ix_tup (pv 1) (pe_fn GX hr (by rfl) (pa_cons (pv 0) (pa_cons (pe_callB call_len_seq (by rfl) B.len PySem.boot_len (pa_cons (pv 1) pa_nil)) pa_nil))) (fun _ _ => rfl))), ?_⟩
    have pos : 0 < xs.length := List.length_pos_iff.mpr ne
    refine ⟨.ref t, rfl, .ref st, rfl, .ref t, rfl, t, _, rfl, .inr ht, st, sc, _, rfl, hS, by omega, fun r H1 r0 r1 m1 => ?_⟩
    obtain ⟨v, hv, hm⟩ := at_in r0 r1
    exact ⟨t, xs, r, v, rfl, rfl, m1.tup hS ht, hv, q v H1 hm m1⟩
theorem ok_pickL {f : Addr} {fd : FuncData} (F : Fun K "_law_pick" "_law_pick" s__law_pick f fd) (B : Blt mg) (GX : Fn P w K mg base 3 "_law_next" ["_law_state", "_law_below"] (spNx K)) : FnOk P w K mg base CX0 4 f fd ["_law_state", "_law_things"] (spPickL K) := by
  refine F.ok scPick (fun vs H Q E h => ?_) (fun cdv A outer s H vs Q E hr h => ?_)
  · obtain ⟨st, sc, t, xs, rfl, _⟩ := h
    rfl
  · obtain ⟨st, sc, t, xs, rfl, hS, ht, nx, ne, q⟩ := h
    refine ⟨_, pss_one (ps_ret (pe_ix ix_list (pv 1) (pe_fn GX hr (by rfl) (pa_cons (pv 0) (pa_cons (pe_callB call_len_seq (by rfl) B.len PySem.boot_len (pa_cons (pv 1) pa_nil)) pa_nil))) (fun _ _ => rfl))), ?_⟩
    have pos : 0 < xs.length := List.length_pos_iff.mpr ne
    refine ⟨.ref t, rfl, .ref st, rfl, .ref t, rfl, t, _, rfl, .inl ht, st, sc, _, rfl, hS, by omega, fun r H1 r0 r1 m1 => ?_⟩
    obtain ⟨v, hv, hm⟩ := at_in r0 r1
    exact ⟨t, xs, r, v, rfl, rfl, m1.lst hS nx ht, hv, q v H1 hm m1⟩
/-! ### _law_some -/
theorem scSome : FnScope ["_law_state", "_law_things", "_law_odds", "_law_one"] ["_law_state", "_law_things", "_law_odds"] (defScope s__law_some) := ⟨rfl, rfl, rfl, by decide +kernel, rfl, by decide +kernel, by decide +kernel⟩
/-- a turn that draws whether the item is kept -/
theorem lc_some {J : It} {n : Nat} {G : Hp → Prop} {Y : Nat → Hp → V → Hp → Prop} (wk : Walk J n G Y) {st sc D : Addr} {H1 : Hp} {zs : List Str} {tg od : V} {m : Int} (eo : od = .int m) (hm : 0 < m) {Qd : Hp → Prop} (hn : n = zs.length) (few : zs.length ≤ 1000) (hS : StE K H1 st sc) (nD : H1 D = none) (hG : ∀ H', Mv K st sc H1 H' → G H')
    (hY : ∀ i H x H', Y i H x H' → H' = H ∧ ∃ z, zs[i]? = some z ∧ x = .str z) (hd : ∀ H2 (ys : List Str), ys.Sublist zs → Mv K st sc H1 H2 → H2 D = some (.lst (ys.map V.str)) → Qd H2) :
    ∃ W : Nat → Nat → Hp → Prop, (∃ m, W 0 m (upd H1 D (.lst []))) ∧ ∀ i m H, W i m H → (J.stop i H ∧ Qd H) ∨ (J.go i H ∧ ∃ Nx : Hp → Prop, (∀ H', Nx H' → ∃ m', m' < m ∧ W (i + 1) m' H') ∧
      ∀ x H', J.yld i H x H' → gName 3 x (wipe [some (.ref st), some tg, some od, none] [3]) H' fun σ2 H2 => wipe σ2 [3] = wipe [some (.ref st), some tg, some od, none] [3] ∧ tTest (tOp rEq (tCall (spNx K) [] E0 (tCons (tVar 0) (tCons (tVar 2) tNil))) (tC (.int 0))) σ2 H2 fun b H3 =>
        if b = true then tVar 3 σ2 H3 fun y H4 => ∃ acc, H4 D = some (.lst acc) ∧ acc.length < sizeLine ∧ Nx (upd H4 D (.lst (acc ++ [y]))) else Nx H3) := by
  refine lc_it wk (fun i H' => ∃ ys : List Str, ys.Sublist (zs.take i) ∧ Mv K st sc H1 H' ∧ H' D = some (.lst (ys.map V.str))) ⟨[], List.nil_sublist _, (Mv.refl hS).new hS nD, upd_same⟩ (fun i H' _ hP => by obtain ⟨_, _, z, _⟩ := hP; exact hG H' z) (fun i x H2 H3 hi hP hy => ?_) (fun H2 hP => ?_)
  · obtain ⟨rfl, z, hz, rfl⟩ := hY i _ _ _ hy
    obtain ⟨ys, sub, mv, eD⟩ := hP
    subst eo
    refine ⟨rfl, .ref st, rfl, .int m, rfl, st, sc, m, rfl, mv.se, hm, fun r H4 r0 r1 m4 => ⟨rfl, _, rfl, ?_⟩⟩
    have eD4 : H4 D = some (.lst (ys.map V.str)) := m4.at_ mv.se eD fun x y z e => strs_no ys x y z (HO.lst.inj e)
    have l1 : ys.length ≤ 1000 := Nat.le_trans sub.length_le (by rw [List.length_take]; omega)
    refine ite2 (fun t => ?_) (fun t => ?_)
    · refine ⟨.str z, rfl, _, eD4, by rw [List.length_map]; exact small1000 l1, ys ++ [z], ?_, (mv.trans m4).new hS nD, by rw [upd_same, List.map_append]; rfl⟩
      rw [take_next1 hz]
      exact sub.append (List.Sublist.refl _)
    · refine ⟨ys, ?_, mv.trans m4, eD4⟩
      rw [take_next1 hz]
      exact sub.trans (List.sublist_append_left _ _)
  · obtain ⟨ys, sub, mv, eD⟩ := hP
    rw [hn, List.take_length] at sub
    exact hd H2 ys sub mv eD
def spSomeT (K : PySem.W.Frag) : Sp := fun vs H Q _ => ∃ (st sc t : Addr) (zs : List Str) (m : Int), vs = [.ref st, .ref t, .int m] ∧ StE K H st sc ∧ SqT K H t (zs.map V.str) ∧ zs.length ≤ 1000 ∧ 0 < m ∧ ∀ H' p (ys : List Str), ys.Sublist zs → Mv K st sc H H' → H p = none → H' p = some (.tup (ys.map V.str)) → Q (.ref p) H'
def spSomeL (K : PySem.W.Frag) : Sp := fun vs H Q _ => ∃ (st sc t : Addr) (zs : List Str) (m : Int), vs = [.ref st, .ref t, .int m] ∧ StE K H st sc ∧ SqL K H t (zs.map V.str) ∧ zs.length ≤ 1000 ∧ 0 < m ∧ ∀ H' p (ys : List Str), ys.Sublist zs → Mv K st sc H H' → H p = none → H' p = some (.tup (ys.map V.str)) → Q (.ref p) H'
theorem ok_someT {f : Addr} {fd : FuncData} (F : Fun K "_law_some" "_law_some" s__law_some f fd) (B : Blt mg) (GX : Fn P w K mg base 3 "_law_next" ["_law_state", "_law_below"] (spNx K)) : FnOk P w K mg base CX0 4 f fd ["_law_state", "_law_things", "_law_odds"] (spSomeT K) := by
  refine F.ok scSome (fun vs H Q E h => ?_) (fun cdv A outer s H vs Q E hr h => ?_)
  · obtain ⟨st, sc, t, zs, m, rfl, _⟩ := h
    rfl
  · obtain ⟨st, sc, t, zs, m, rfl, hS, ht, few, hm, q⟩ := h
    refine ⟨_, pss_one (ps_ret (pe_callTy call_tuple_of (by rfl) B.tup PyProof.Rows.boot_tuple (pa_cons (pe_lc (own := [("_law_one", 3)]) (g := gName 3) (tt := tTest (tOp rEq (tCall (spNx K) [] E0 (tCons (tVar 0) (tCons (tVar 2) tNil))) (tC (.int 0)))) (te := tVar 3) rfl scSome.nd (pi_tup (pv 1)) (blkOk_by (N := ["_law_state", "_law_things", "_law_odds", "_law_one"]) (sc := defScope s__law_some) (by decide +kernel))
      (fun _ _ _ _ _ => pg_name (i := 3) scSome.nd rfl (Or.inl rfl)) (fun _ _ _ _ _ => pts_one (pt_cmpR op_eq (pe_fn GX hr (by rfl) (pa_cons (pv 0) (pa_cons (pv 2) pa_nil))) pe_int (nomark _))) (fun _ _ _ _ _ => pv 3)) pa_nil))), ?_⟩
    refine ⟨.ref t, rfl, t, rfl, ⟨_, ht⟩, fun D nD => lc_some (walk_tup (xs := zs.map V.str)) rfl hm (by rw [List.length_map]) few hS nD (fun H' z => z.tup hS ht) (fun i H x H' z => ?_) (fun H2 ys sub mv eD => ?_)⟩
    · obtain ⟨e, hx⟩ := z
      obtain ⟨y, hy, rfl⟩ := at_map hx
      exact ⟨e, y, hy, rfl⟩
    · refine ⟨D, _, rfl, .inl ⟨.inl (.inl eD), fun p np => q _ p ys sub (mv.more (same_new np)) (mv.fresh hS np) upd_same⟩⟩
theorem ok_someL {f : Addr} {fd : FuncData} (F : Fun K "_law_some" "_law_some" s__law_some f fd) (B : Blt mg) (GX : Fn P w K mg base 3 "_law_next" ["_law_state", "_law_below"] (spNx K)) : FnOk P w K mg base CX0 4 f fd ["_law_state", "_law_things", "_law_odds"] (spSomeL K) := by
  refine F.ok scSome (fun vs H Q E h => ?_) (fun cdv A outer s H vs Q E hr h => ?_)
  · obtain ⟨st, sc, t, zs, m, rfl, _⟩ := h
    rfl
  · obtain ⟨st, sc, t, zs, m, rfl, hS, ht, few, hm, q⟩ := h
    refine ⟨_, pss_one (ps_ret (pe_callTy call_tuple_of (by rfl) B.tup PyProof.Rows.boot_tuple (pa_cons (pe_lc (own := [("_law_one", 3)]) (g := gName 3) (tt := tTest (tOp rEq (tCall (spNx K) [] E0 (tCons (tVar 0) (tCons (tVar 2) tNil))) (tC (.int 0)))) (te := tVar 3) rfl scSome.nd (pi_list (pv 1)) (blkOk_by (N := ["_law_state", "_law_things", "_law_odds", "_law_one"]) (sc := defScope s__law_some) (by decide +kernel))
      (fun _ _ _ _ _ => pg_name (i := 3) scSome.nd rfl (Or.inl rfl)) (fun _ _ _ _ _ => pts_one (pt_cmpR op_eq (pe_fn GX hr (by rfl) (pa_cons (pv 0) (pa_cons (pv 2) pa_nil))) pe_int (nomark _))) (fun _ _ _ _ _ => pv 3)) pa_nil))), ?_⟩
    refine ⟨.ref t, rfl, t, rfl, ⟨_, ht⟩, fun D nD => lc_some (walk_list (xs := zs.map V.str)) rfl hm (by rw [List.length_map]) few hS nD (fun H' z => z.lst hS (strs_no zs) ht) (fun i H x H' z => ?_) (fun H2 ys sub mv eD => ?_)⟩
    · obtain ⟨e, hx⟩ := z
      obtain ⟨y, hy, rfl⟩ := at_map hx
      exact ⟨e, y, hy, rfl⟩
    · refine ⟨D, _, rfl, .inl ⟨.inl (.inl eD), fun p np => q _ p ys sub (mv.more (same_new np)) (mv.fresh hS np) upd_same⟩⟩
end
end Lw
set_option Elab.async false
set_option linter.all false
set_option maxRecDepth 100000
set_option maxHeartbeats 4000000
namespace Lw
open PySem PySem.Spec PyProof.Rows L2 TxS LkO Lk
def rooms5 : List Str := ["hall", "den", "attic", "vault", "yard"]
def tools2 : List Str := ["iron", "brass"]
def names6 : List Str := ["front", "b", "a", "gate", "stair", "cellar"]
def folk3 : List Str := ["bob", "ann", "cy"]
theorem nm5 : ∀ z ∈ rooms5, isNm z = true := by decide +kernel
theorem nm2 : ∀ z ∈ tools2, isNm z = true := by decide +kernel
theorem nm6 : ∀ z ∈ names6, isNm z = true := by decide +kernel
theorem nm3 : ∀ z ∈ folk3, isNm z = true := by decide +kernel
theorem nd5 : rooms5.Nodup := by decide +kernel
theorem nd2 : tools2.Nodup := by decide +kernel
theorem nd6 : names6.Nodup := by decide +kernel
theorem nd3 : folk3.Nodup := by decide +kernel
theorem no25 : ∀ z ∈ tools2, z ∉ rooms5 := by decide +kernel
theorem cut_take (xs : List V) (n : Nat) : cutV xs none (some (n : Int)) = xs.take n := by
  unfold cutV
  rw [HT.sIx_none, HT.sIx_nat, List.drop_zero, Nat.sub_zero]
  by_cases h : n ≤ xs.length
  · rw [Nat.min_eq_left h]
  · rw [Nat.min_eq_right (by omega), List.take_of_length_le (Nat.le_refl _), List.take_of_length_le (by omega)]
/-! ### what was drawn -/
def TT (H H' : Hp) : Prop := ∀ a xs, H a = some (.tup xs) → H' a = some (.tup xs)
theorem TT.refl (H : Hp) : TT H H := fun _ _ e => e
theorem TT.of {H H' : Hp} (s : Same H H') : TT H H' := fun a xs e => s _ _ e
theorem TT.mv {K : PySem.W.Frag} {st sc : Addr} {H H' : Hp} (h : StE K H st sc) (m : Mv K st sc H H') : TT H H' := fun a xs e => m.at_ h e fun _ _ _ z => by cases z
theorem TT.trans {H H1 H2 : Hp} (a : TT H H1) (b : TT H1 H2) : TT H H2 := fun c xs e => b c xs (a c xs e)
theorem TT.put {H : Hp} {d : Addr} {kvs : List (Key × V)} {o : HO} (h : H d = some (.dK kvs)) : TT H (upd H d o) := fun a xs e => by
  rw [upd_ne (ne_of e h (by intro z; cases z))]
  exact e
def rowD (H : Hp) : V → DoorD → Prop := fun v d => ∃ t, v = .ref t ∧ H t = some (.tup [.str d.a, .str d.b, oV d.key, .bl d.both, .int d.cost])
def rowP (H : Hp) : V → PersonD → Prop := fun v p => ∃ t t1 t2 t3, v = .ref t ∧ H t = some (.tup [.str p.a, .ref t1, .ref t2, .ref t3]) ∧ H t1 = some (.tup (p.carried.map V.str)) ∧ H t2 = some (.tup (p.needs.map V.str)) ∧ H t3 = some (.tup (p.shuns.map V.str))
theorem rowD.tt {H H' : Hp} (t : TT H H') (v : V) (d : DoorD) (h : rowD H v d) : rowD H' v d := let ⟨a, e, z⟩ := h; ⟨a, e, t _ _ z⟩
theorem rowP.tt {H H' : Hp} (t : TT H H') (v : V) (d : PersonD) (h : rowP H v d) : rowP H' v d := let ⟨a, t1, t2, t3, e, z, z1, z2, z3⟩ := h; ⟨a, t1, t2, t3, e, t _ _ z, t _ _ z1, t _ _ z2, t _ _ z3⟩
structure DrIn (H : Hp) (a : Addr) (b : BldD) (r k dd pd : Addr) (ok od op : Obj) (kvs ds ps : List (Key × V)) : Prop where
  ob : H a = some (.tup [.ref r, .ref k, .ref dd, .ref pd])
  rooms : H r = some (.tup (b.rooms.map V.str))
  keys : H k = some (.frz ok (.dK kvs))
  keysT : Tab keyR kvs b.keys
  doors : H dd = some (.frz od (.dK ds))
  doorsT : Tab (rowD H) ds b.doors
  people : H pd = some (.frz op (.dK ps))
  peopleT : Tab (rowP H) ps b.people
structure DrAt (H : Hp) (a : Addr) (b : BldD) : Prop where
  ob : ∃ r k dd pd ok od op kvs ds ps, DrIn H a b r k dd pd ok od op kvs ds ps
  ok : b.ok
theorem DrIn.same {H H' : Hp} {a : Addr} {b : BldD} {r k dd pd : Addr} {ok od op : Obj} {kvs ds ps : List (Key × V)} (h : DrIn H a b r k dd pd ok od op kvs ds ps) (s : Same H H') : DrIn H' a b r k dd pd ok od op kvs ds ps :=
  ⟨s _ _ h.ob, s _ _ h.rooms, s _ _ h.keys, h.keysT, s _ _ h.doors, h.doorsT.mono (rowD.tt (TT.of s)), s _ _ h.people, h.peopleT.mono (rowP.tt (TT.of s))⟩
theorem DrAt.same {H H' : Hp} {a : Addr} {b : BldD} (h : DrAt H a b) (s : Same H H') : DrAt H' a b := by
  obtain ⟨⟨r, k, dd, pd, ok, od, op, kvs, ds, ps, i⟩, z⟩ := h
  exact ⟨⟨r, k, dd, pd, ok, od, op, kvs, ds, ps, i.same s⟩, z⟩
theorem DrIn.mv {K : PySem.W.Frag} {st sc : Addr} {H H' : Hp} {a : Addr} {b : BldD} {r k dd pd : Addr} {ok od op : Obj} {kvs ds ps : List (Key × V)} (h : DrIn H a b r k dd pd ok od op kvs ds ps) (hS : StE K H st sc) (m : Mv K st sc H H') : DrIn H' a b r k dd pd ok od op kvs ds ps :=
  have t := TT.mv hS m
  ⟨t _ _ h.ob, t _ _ h.rooms, m.at_ hS h.keys (fun _ _ _ z => by cases z), h.keysT, m.at_ hS h.doors (fun _ _ _ z => by cases z), h.doorsT.mono (rowD.tt t), m.at_ hS h.people (fun _ _ _ z => by cases z), h.peopleT.mono (rowP.tt t)⟩
theorem DrAt.mv {K : PySem.W.Frag} {st sc : Addr} {H H' : Hp} {a : Addr} {b : BldD} (h : DrAt H a b) (hS : StE K H st sc) (m : Mv K st sc H H') : DrAt H' a b := by
  obtain ⟨⟨r, k, dd, pd, ok, od, op, kvs, ds, ps, i⟩, z⟩ := h
  exact ⟨⟨r, k, dd, pd, ok, od, op, kvs, ds, ps, i.mv hS m⟩, z⟩
theorem Tab.snoc {α : Type} {R : V → α → Prop} {kvs : List (Key × V)} {l : List (Str × α)} {n : Str} {v : V} {a : α} (t : Tab R kvs l) (h : R v a) : Tab R (kvs ++ [(.inr n, v)]) (l ++ [(n, a)]) := Paired.snoc t ⟨rfl, h⟩
theorem tab_no {α : Type} {R : V → α → Prop} {kvs : List (Key × V)} {l : List (Str × α)} {n : Str} (t : Tab R kvs l) (h : n ∉ l.map (·.1)) : (Sum.inr n : Key) ∉ kvs.map (·.1) := fun e => by
  rw [t.keys] at e
  obtain ⟨m, hm, q⟩ := List.mem_map.mp e
  exact h (by rw [← Sum.inr.inj q]; exact hm)
theorem take_new {l : List Str} (nd : l.Nodup) {i : Nat} {z : Str} (h : l[i]? = some z) : z ∉ l.take i := fun hm => by
  have nd2 : (l.take (i + 1)).Nodup := nd.sublist (List.take_sublist _ _)
  rw [take_next1 h, List.nodup_append] at nd2
  exact nd2.2.2 z hm z (by simp) rfl
/-- a slice of a tuple, whichever object it is -/
def rSlB : V → Option Int → Option Int → Hp → VK → Prop := fun x lo hi H Q => ∃ a xs, x = .ref a ∧ H a = some (.tup xs) ∧ ∀ p H', Same H H' → H' p = some (.tup (cutV xs lo hi)) → Q (.ref p) H'
theorem sl_tupB {X : Cx} : SlR X rSlB := by
  intro pins s σ H x v vl vu lo hi sl Q I rx hs pl pu h
  obtain ⟨a, xs, rfl, ha, q⟩ := h
  refine sl_tupA pins s σ H _ v vl vu lo hi sl Q I rx hs pl pu ⟨a, xs, rfl, .inl (.inl ha), fun e => q a H (Same.refl H) ?_, fun _ p np => q p _ (same_new np) upd_same⟩
  unfold cutV
  rw [e.1, e.2, List.drop_zero, Nat.sub_zero, List.take_length]
  exact ha
theorem turn_ne {n s t : Int} (hn : n = 3 ∨ n = 4 ∨ n = 5) (s0 : 0 ≤ s) (s1 : s < n) (t0 : 1 ≤ t) (t1 : t < n) : 0 ≤ (s + t) % n ∧ (s + t) % n < n ∧ (s + t) % n ≠ s := by
  rcases hn with rfl | rfl | rfl <;> omega
theorem at_str {rs : List Str} {i : Int} (h0 : 0 ≤ i) (h1 : i < rs.length) : ∃ z, z ∈ rs ∧ rs[i.toNat]? = some z ∧ atI (rs.map V.str) i = some (.str z) := by
  have lt : i.toNat < rs.length := by omega
  refine ⟨rs[i.toNat], List.getElem_mem lt, List.getElem?_eq_getElem lt, ?_⟩
  have := atI_nat (xs := rs.map V.str) (j := i.toNat) (v := .str rs[i.toNat]) (by rw [List.getElem?_map, List.getElem?_eq_getElem lt]; rfl)
  rw [Int.toNat_of_nonneg h0] at this
  exact this
theorem nodup_at {rs : List Str} (nd : rs.Nodup) {i j : Nat} {x y : Str} (hx : rs[i]? = some x) (hy : rs[j]? = some y) (ne : i ≠ j) : x ≠ y := fun e => by
  subst e
  obtain ⟨hi, e1⟩ := List.getElem?_eq_some_iff.mp hx
  obtain ⟨hj, e2⟩ := List.getElem?_eq_some_iff.mp hy
  have pw := List.pairwise_iff_getElem.mp nd
  rcases Nat.lt_or_gt_of_ne ne with z | z
  · exact pw i j hi hj z (e1.trans e2.symm)
  · exact pw j i hj hi z (e2.trans e1.symm)
theorem are_sub {ys zs : List Str} (s : ys.Sublist zs) (nm : ∀ z ∈ zs, isNm z = true) (nd : zs.Nodup) : areNm ys = true := by
  unfold areNm
  rw [Bool.and_eq_true]
  exact ⟨List.all_eq_true.mpr fun z hz => nm z (s.subset hz), decide_eq_true (nd.sublist s)⟩
section
variable {P : Program} {w : World} {K : PySem.W.Frag} {mg : Str → Option Value} {base : Heap}
def spDrawn (K : PySem.W.Frag) : Sp := fun vs H Q _ => ∃ (st sc : Addr) (mo : Int), vs = [.ref st, .int mo] ∧ 2 ≤ mo ∧ mo ≤ 6 ∧ StE K H st sc ∧ ∀ H' t b, b.rooms.length ≤ 5 → Mv K st sc H H' → DrAt H' t b → Q (.ref t) H'
abbrev nDrawn : List Str := ["_law_state", "_law_most", "_law_rooms", "_law_keys", "_law_tool", "_law_doors", "_law_name", "_law_start", "_law_step", "_law_end", "_law_twice", "_law_people", "_law_wants", "_law_bans", "_law_room"]
theorem scDrawn : FnScope nDrawn ["_law_state", "_law_most"] (defScope s__law_drawn) := ⟨rfl, rfl, rfl, by decide +kernel, rfl, by decide +kernel, by decide +kernel⟩
theorem ok_drawn {f : Addr} {fd : FuncData} (F : Fun K "_law_drawn" "_law_drawn" s__law_drawn f fd) (B : Blt mg) (GX : Fn P w K mg base 3 "_law_next" ["_law_state", "_law_below"] (spNx K)) (GT : Fn P w K mg base 4 "_law_pick" ["_law_state", "_law_things"] (spPickT K)) (GL : Fn P w K mg base 4 "_law_pick" ["_law_state", "_law_things"] (spPickL K))
    (ST : Fn P w K mg base 4 "_law_some" ["_law_state", "_law_things", "_law_odds"] (spSomeT K)) (SL : Fn P w K mg base 4 "_law_some" ["_law_state", "_law_things", "_law_odds"] (spSomeL K)) : FnOk P w K mg base CX0 5 f fd ["_law_state", "_law_most"] (spDrawn K) := by
  refine F.ok scDrawn (fun vs H Q E h => ?_) (fun cdv A outer s H vs Q E hr h => ?_)
  · obtain ⟨st, sc, mo, rfl, _⟩ := h
    rfl
  · obtain ⟨st, sc, mo, rfl, mo2, mo6, hS, q⟩ := h
    have hr3 := hr.mono (show 3 ≤ 4 by decide)
    refine ⟨_, pss_cons (ps_set (i := 2) scDrawn.nd rfl (.inl rfl) (pe_slice sl_tupB (pe_tup (pa_cons pe_str (pa_cons pe_str (pa_cons pe_str (pa_cons pe_str (pa_cons pe_str pa_nil)))))) po_none (po_some (pe_op op_add pe_int (pe_fn GX hr3 (by rfl) (pa_cons (pv 0) (pa_cons pe_int pa_nil)))))))
      (pss_cons (ps_set (i := 3) scDrawn.nd rfl (.inl rfl) pe_dnewK)
      (pss_cons (ps_for PassesOwn.never rfl (pi_list (pe_slice sl_list (pe_lst (pa_cons pe_str (pa_cons pe_str pa_nil))) po_none (po_some (pe_fn GX hr3 (by rfl) (pa_cons (pv 0) (pa_cons pe_int pa_nil)))))) (pg_name (i := 4) scDrawn.nd rfl (Or.inl rfl))
        (pss_one (ps_asg (pe_fn GT hr (by rfl) (pa_cons (pv 0) (pa_cons (pv 2) pa_nil))) (pg_sub (pv 3) (pv 4) (set_dict (hu_of hr))))))
      (pss_cons (ps_set (i := 5) scDrawn.nd rfl (.inl rfl) pe_dnewK)
      (pss_cons (ps_for PassesOwn.never rfl (pi_list (pe_slice sl_list (pe_lst (pa_cons pe_str (pa_cons pe_str (pa_cons pe_str (pa_cons pe_str (pa_cons pe_str (pa_cons pe_str pa_nil))))))) po_none (po_some (pe_op op_add pe_int (pe_fn GX hr3 (by rfl) (pa_cons (pv 0) (pa_cons (pe_op op_sub (pv 1) pe_int) pa_nil))))))) (pg_name (i := 6) scDrawn.nd rfl (Or.inl rfl))
        (pss_cons (ps_par (i := 7) (j := 8) rfl scDrawn.nd rfl rfl (by decide) rfl rfl (pa_cons (pe_fn GX hr3 (by rfl) (pa_cons (pv 0) (pa_cons (pe_callB call_len_seq (by rfl) B.len PySem.boot_len (pa_cons (pv 2) pa_nil)) pa_nil))) (pa_cons (pe_op op_add pe_int (pe_fn GX hr3 (by rfl) (pa_cons (pv 0) (pa_cons (pe_op op_sub (pe_callB call_len_seq (by rfl) B.len PySem.boot_len (pa_cons (pv 2) pa_nil)) pe_int) pa_nil)))) pa_nil)) rfl)
        (pss_cons (ps_set (i := 4) scDrawn.nd rfl (.inl rfl) (pe_fn GL hr (by rfl) (pa_cons (pv 0) (pa_cons (pe_op op_cat (pe_lst (pa_cons pe_non (pa_cons pe_non pa_nil))) (pe_callTy (call_listD rfl) (by rfl) B.lst PyProof.Rows.boot_list (pa_cons (pv 3) pa_nil))) pa_nil))))
        (pss_cons (ps_par (i := 9) (j := 10) rfl scDrawn.nd rfl rfl (by decide) rfl rfl (pa_cons (pe_ix ix_tup (pv 2) (pe_op op_mod (pe_op op_add (pv 7) (pv 8)) (pe_callB call_len_seq (by rfl) B.len PySem.boot_len (pa_cons (pv 2) pa_nil))) (fun _ _ => rfl)) (pa_cons (pe_cmpR op_eq (pe_fn GX hr3 (by rfl) (pa_cons (pv 0) (pa_cons pe_int pa_nil))) pe_int (nomark _)) pa_nil)) rfl)
        (pss_one (ps_asg (pe_tup (pa_cons (pe_ix ix_tup (pv 2) (pv 7) (fun _ _ => rfl)) (pa_cons (pv 9) (pa_cons (pv 4) (pa_cons (pv 10) (pa_cons (pe_op op_add pe_int (pe_fn GX hr3 (by rfl) (pa_cons (pv 0) (pa_cons pe_int pa_nil)))) pa_nil)))))) (pg_sub (pv 5) (pv 6) (set_dict (hu_of hr)))))))))
      (pss_cons (ps_set (i := 11) scDrawn.nd rfl (.inl rfl) pe_dnewK)
      (pss_cons (ps_for PassesOwn.never rfl (pi_list (pe_slice sl_list (pe_lst (pa_cons pe_str (pa_cons pe_str (pa_cons pe_str pa_nil)))) po_none (po_some (pe_op op_add pe_int (pe_fn GX hr3 (by rfl) (pa_cons (pv 0) (pa_cons pe_int pa_nil))))))) (pg_name (i := 6) scDrawn.nd rfl (Or.inl rfl))
        (pss_cons (ps_set (i := 12) scDrawn.nd rfl (.inr rfl) (pe_fn ST hr (by rfl) (pa_cons (pv 0) (pa_cons (pv 2) (pa_cons pe_int pa_nil)))))
        (pss_cons (ps_set (i := 13) scDrawn.nd rfl (.inl rfl) (pe_callTy call_tuple_of (by rfl) B.tup PyProof.Rows.boot_tuple (pa_cons (pe_lc (own := [("_law_room", 14)]) (g := gName 14) (tt := tTest (tOp (rIn K true) (tVar 14) (tVar 12))) (te := tVar 14) rfl scDrawn.nd (pi_tup (pe_fn ST hr (by rfl) (pa_cons (pv 0) (pa_cons (pv 2) (pa_cons pe_int pa_nil))))) (blkOk_by (N := nDrawn) (sc := defScope s__law_drawn) (by decide +kernel))
          (fun _ _ _ _ _ => pg_name (i := 14) scDrawn.nd rfl (Or.inl rfl)) (fun _ _ _ _ _ => pts_one (pt_cmpR op_notIn_seq (pv 14) (pv 12) rfl)) (fun _ _ _ _ _ => pv 14)) pa_nil)))
        (pss_one (ps_asg (pe_tup (pa_cons (pe_fn GT hr (by rfl) (pa_cons (pv 0) (pa_cons (pv 2) pa_nil))) (pa_cons (pe_fn SL hr (by rfl) (pa_cons (pv 0) (pa_cons (pe_callTy (call_listD rfl) (by rfl) B.lst PyProof.Rows.boot_list (pa_cons (pv 3) pa_nil)) (pa_cons pe_int pa_nil)))) (pa_cons (pv 12) (pa_cons (pv 13) pa_nil))))) (pg_sub (pv 11) (pv 6) (set_dict (hu_of hr))))))))
      (pss_one (ps_frz (ps_frz (ps_frz (ps_ret (pe_tup (pa_cons (pv 2) (pa_cons (pv 3) (pa_cons (pv 5) (pa_cons (pv 11) pa_nil)))))))))))))))), ?_⟩
    -- the rooms
    refine ⟨by show 5 ≤ sizeLine; rw [sizeLine_eq]; decide, fun p5 np5 => ?_⟩
    have mA := Mv.of hS (same_new (o := .tup (rooms5.map V.str)) np5)
    refine ⟨.ref st, rfl, st, sc, 3, rfl, mA.se, by decide, fun n0 H1 n00 n01 m1 => ⟨3, n0, rfl, rfl, _, rfl, p5, rooms5.map V.str, rfl, m1.at_ mA.se upd_same (fun _ _ _ z => by cases z), fun r H2 s2 e2 => ?_⟩⟩
    have mB := (mA.trans m1).more s2
    obtain ⟨n5, hn5, hb5⟩ : ∃ n5 : Nat, (3 + n0 : Int) = (n5 : Int) ∧ (n5 = 3 ∨ n5 = 4 ∨ n5 = 5) := ⟨(3 + n0).toNat, by omega, by omega⟩
    rw [hn5, cut_take, ← List.map_take] at e2
    generalize ers : rooms5.take n5 = rs at e2
    have lrs : rs.length = n5 := by
      rw [← ers, List.length_take]
      show min n5 5 = n5
      omega
    have ndr : rs.Nodup := by rw [← ers]; exact nd5.sublist (List.take_sublist _ _)
    have sub5 : ∀ z ∈ rs, z ∈ rooms5 := fun z hz => by rw [← ers] at hz; exact List.mem_of_mem_take hz
    have nmr : ∀ z ∈ rs, isNm z = true := fun z hz => nm5 z (sub5 z hz)
    have ner : rs.map V.str ≠ [] := fun e => by
      have := congrArg List.length e
      rw [List.length_map, lrs] at this
      simp at this
      omega
    -- the keys
    intro k nk
    have nHk : H k = none := mB.fresh hS nk
    have mC : Mv K st sc H (upd H2 k (.dK [])) := mB.new hS nHk
    have er3 : (upd H2 k (.dK [])) r = some (.tup (rs.map V.str)) := by rw [upd_ne (ne_of_none e2 nk)]; exact e2
    refine ⟨by show 2 ≤ sizeLine; rw [sizeLine_eq]; decide, fun p2 np2 => ?_⟩
    have mD := mC.more (same_new (o := .lst (tools2.map V.str)) np2)
    refine ⟨.ref st, rfl, st, sc, 3, rfl, mD.se, by decide, fun t0 H4 t00 t01 m4 => ⟨t0, rfl, p2, tools2.map V.str, rfl, m4.lst mD.se (strs_no _) (.inl (.inl upd_same)), fun tl ntl => ?_⟩⟩
    obtain ⟨tn, htn⟩ : ∃ tn : Nat, t0 = (tn : Int) := ⟨t0.toNat, by omega⟩
    rw [htn, cut_take, ← List.map_take]
    generalize ets : tools2.take tn = ts
    have ndt : ts.Nodup := by rw [← ets]; exact nd2.sublist (List.take_sublist _ _)
    have sub2 : ∀ z ∈ ts, z ∈ tools2 := fun z hz => by rw [← ets] at hz; exact List.mem_of_mem_take hz
    have lts : ts.length ≤ 2 := by rw [← ets, List.length_take]; exact Nat.min_le_right _ _
    have mE : Mv K st sc H H4 := mD.trans m4
    have er4 : H4 r = some (.tup (rs.map V.str)) := TT.mv mD.se m4 _ _ (same_new np2 _ _ er3)
    have ek4 : H4 k = some (.dK []) := m4.at_ mD.se (same_new np2 _ _ upd_same) fun _ _ _ z => by cases z
    refine ⟨tl, rfl, ⟨_, .inl (.inl upd_same)⟩, for_it (walk_list (xs := ts.map V.str)) (fun i σ H' => ∃ kvs keys y4, Mv K st sc H H' ∧ H' r = some (.tup (rs.map V.str)) ∧ H' tl = some (.lst (ts.map V.str)) ∧ H' k = some (.dK kvs) ∧ Tab keyR kvs keys ∧ keys.map (·.1) = ts.take i ∧ (∀ q ∈ keys, q.2 ∈ rs) ∧
      σ = [some (.ref st), some (.int mo), some (.ref r), some (.ref k), y4, none, none, none, none, none, none, none, none, none, none]) ?_ (fun i σ H' _ hP => by obtain ⟨_, _, _, _, _, z, _⟩ := hP; exact .inl (.inl z)) (fun i v σ H5 H6 hi hP hY => ?_) (fun σ H5 hP => ?_)⟩
    · exact ⟨[], [], none, mE.more (same_new ntl), same_new ntl _ _ er4, upd_same, same_new ntl _ _ ek4, .nil, by simp, (fun _ z => by cases z), rfl⟩
    · obtain ⟨rfl, hv⟩ := hY
      obtain ⟨kvs, keys, y4, m, er, etl, ek, tab, names, inr, rfl⟩ := hP
      obtain ⟨z, hz, rfl⟩ := at_map hv
      refine ⟨.ref st, rfl, .ref r, rfl, st, sc, r, rs.map V.str, rfl, m.se, .inl (.inl er), ner, fun v H7 hv7 m7 => ?_⟩
      obtain ⟨room, hroom, rfl⟩ := List.mem_map.mp hv7
      have ek7 : H7 k = some (.dK kvs) := m7.at_ m.se ek fun _ _ _ z => by cases z
      have new : z ∉ keys.map (·.1) := by rw [names]; exact take_new ndt hz
      have lk : kvs.length ≤ 2 := by
        rw [tab.len, ← List.length_map (f := (·.1)), names, List.length_take]
        omega
      refine ⟨.ref k, rfl, .str z, rfl, k, _, rfl, .inl ⟨kvs, .inr z, ek7, rfl, by rw [sizeLine_eq]; omega, rfl⟩, kvs ++ [(.inr z, .str room)], keys ++ [(z, room)], some (.str z), (m.trans m7).new hS nHk, ?_, ?_, ?_, Lw.Tab.snoc tab rfl, ?_, fun q hq => ?_, rfl⟩
      · rw [upd_ne (ne_of (TT.mv m.se m7 _ _ er) ek7 (by intro z; cases z))]
        exact TT.mv m.se m7 _ _ er
      · have : H7 tl = some (.lst (ts.map V.str)) := m7.at_ m.se etl fun x y z e => strs_no ts x y z (HO.lst.inj e)
        rw [upd_ne (ne_of this ek7 (by intro z; cases z))]
        exact this
      · rw [upd_same, putK_new (tab_no tab new)]
      · rw [List.map_append, names, take_next1 hz]
        rfl
      · rcases List.mem_append.mp hq with u | u
        · exact inr q u
        · rw [List.mem_singleton.mp u]
          exact hroom
    · -- the doors
      obtain ⟨kvs, keys, y4, m, er, etl, ek, tab, names, inr, rfl⟩ := hP
      rw [List.length_map, List.take_length] at names
      have kst : ∀ q ∈ keys, q.1 ∈ ts := fun q hq => by rw [← names]; exact List.mem_map_of_mem hq
      have lk : keys.length ≤ 2 := by
        rw [← List.length_map (f := (·.1)), names]
        exact lts
      have ndk : (keys.map (·.1)).Nodup := by rw [names]; exact ndt
      have nmk : ∀ z ∈ keys.map (·.1), isNm z = true := fun z hz => by rw [names] at hz; exact nm2 z (sub2 z hz)
      intro dd ndd
      have nHd : H dd = none := m.fresh hS ndd
      have nkd : k ≠ dd := ne_of_none ek ndd
      have m6 : Mv K st sc H (upd H5 dd (.dK [])) := m.new hS nHd
      refine ⟨by show 6 ≤ sizeLine; rw [sizeLine_eq]; decide, fun p6 np6 => ?_⟩
      have m7 := m6.more (same_new (o := .lst (names6.map V.str)) np6)
      refine ⟨.ref st, rfl, .int mo, rfl, mo, 1, rfl, rfl, st, sc, _, rfl, m7.se, by omega, fun u0 H8 u00 u01 m8 => ⟨2, u0, rfl, rfl, _, rfl, p6, names6.map V.str, rfl, m8.lst m7.se (strs_no _) (.inl (.inl upd_same)), fun nl nnl => ?_⟩⟩
      obtain ⟨un, hun, hub⟩ : ∃ un : Nat, (2 + u0 : Int) = (un : Int) ∧ 2 ≤ un ∧ un ≤ 6 := ⟨(2 + u0).toNat, by omega, by omega⟩
      rw [hun, cut_take, ← List.map_take]
      generalize ens : names6.take un = ns
      have ndn : ns.Nodup := by rw [← ens]; exact nd6.sublist (List.take_sublist _ _)
      have nmn : ∀ z ∈ ns, isNm z = true := fun z hz => by rw [← ens] at hz; exact nm6 z (List.mem_of_mem_take hz)
      have lns : ns.length = un := by
        rw [← ens, List.length_take]
        show min un 6 = un
        omega
      have keep7 : ∀ a o, (∀ x y z, o ≠ HO.lst [.ref x, .int y, .int z]) → H5 a = some o → H8 a = some o := fun a o d e => m8.at_ m7.se (same_new np6 _ _ (by rw [upd_ne (ne_of_none e ndd)]; exact e)) d
      have er8 := keep7 _ _ (fun _ _ _ z => by cases z) er
      have ek8 := keep7 _ _ (fun _ _ _ z => by cases z) ek
      have ed8 : H8 dd = some (.dK []) := m8.at_ m7.se (same_new np6 _ _ upd_same) fun _ _ _ z => by cases z
      refine ⟨nl, rfl, ⟨_, .inl (.inl upd_same)⟩, for_it (walk_list (xs := ns.map V.str)) (fun i σ H' => ∃ ds doors y4 y6 y7 y8 y9 y10, Mv K st sc H H' ∧ H' r = some (.tup (rs.map V.str)) ∧ H' nl = some (.lst (ns.map V.str)) ∧ H' k = some (.dK kvs) ∧ H' dd = some (.dK ds) ∧ Tab (rowD H') ds doors ∧ doors.map (·.1) = ns.take i ∧
        (∀ q ∈ doors, q.2.ok ∧ q.2.a ∈ rs ∧ q.2.b ∈ rs ∧ ∀ z, q.2.key = some z → z ∈ keys.map (·.1)) ∧ σ = [some (.ref st), some (.int mo), some (.ref r), some (.ref k), y4, some (.ref dd), y6, y7, y8, y9, y10, none, none, none, none]) ?_ (fun i σ H' _ hP => by obtain ⟨_, _, _, _, _, _, _, _, _, _, z, _⟩ := hP; exact .inl (.inl z)) (fun i v σ H9 H10 hi hP hY => ?_) (fun σ H9 hP => ?_)⟩
      · exact ⟨[], [], y4, none, none, none, none, none, (m7.trans m8).more (same_new nnl), same_new nnl _ _ er8, upd_same, same_new nnl _ _ ek8, same_new nnl _ _ ed8, .nil, by simp, (fun _ z => by cases z), rfl⟩
      · obtain ⟨rfl, hv⟩ := hY
        obtain ⟨ds, doors, y4', y6, y7, y8, y9, y10, m9, er9, en9, ek9, ed9, tabD, namesD, okD, rfl⟩ := hP
        obtain ⟨nm, hnm, rfl⟩ := at_map hv
        have hrs : (rs.length : Int) = 3 ∨ (rs.length : Int) = 4 ∨ (rs.length : Int) = 5 := by rw [lrs]; omega
        have sqr : ∀ {Hx : Hp}, TT H10 Hx → SqT K Hx r (rs.map V.str) := fun t => .inl (.inl (t _ _ er9))
        -- start, step
        refine ⟨.ref st, rfl, .ref r, rfl, r, _, rfl, .inr (sqr (TT.refl _)), st, sc, _, rfl, m9.se, by rw [List.length_map]; omega, fun a0 Ha a00 a01 ma => ?_⟩
        have ta := TT.mv m9.se ma
        refine ⟨.ref st, rfl, .ref r, rfl, r, _, rfl, .inr (sqr ta), _, 1, rfl, rfl, st, sc, _, rfl, ma.se, by rw [List.length_map]; omega, fun b0 Hb b00 b01 mb => ⟨1, b0, rfl, rfl, _, _, rfl, ?_⟩⟩
        have mab := ma.trans mb
        have tb := ta.trans (TT.mv ma.se mb)
        rw [List.length_map] at a01 b01
        have kb : Hb k = some (.dK kvs) := mab.at_ m9.se ek9 fun _ _ _ z => by cases z
        -- the key
        refine ⟨.ref st, rfl, by show 2 ≤ sizeLine; rw [sizeLine_eq]; decide, fun l1 nl1 => ⟨.ref k, rfl, k, kvs, rfl, .inl (same_new nl1 _ _ kb), fun l2 nl2 => ⟨l1, l2, _, _, rfl, rfl, same_new nl2 _ _ upd_same, upd_same, ?_, fun l3 nl3 => ?_⟩⟩⟩
        · rw [tab.kV, List.length_map, List.length_map, sizeLine_eq]
          show 2 + keys.length ≤ _
          omega
        rw [tab.kV]
        have sm3 : Same Hb (upd (upd (upd Hb l1 (.lst [.non, .non])) l2 (.lst ((keys.map (·.1)).map V.str))) l3 (.lst ([.non, .non] ++ (keys.map (·.1)).map V.str))) := by
          exact (same_new (o := .lst [.non, .non]) nl1).trans ((same_new (o := .lst ((keys.map (·.1)).map V.str)) nl2).trans (same_new (by rw [← tab.kV]; exact nl3)))
        have mc := mab.more sm3
        refine ⟨st, sc, l3, _, rfl, mc.se, .inl (.inl upd_same), (fun x y z e => by cases e), by simp, fun kv Hc hkv m10 => ?_⟩
        obtain ⟨key, ekey, hkey⟩ : ∃ key : Option Str, kv = oV key ∧ ∀ z, key = some z → z ∈ keys.map (·.1) := by
          rcases List.mem_append.mp hkv with z | z
          · refine ⟨none, ?_, fun z h => by cases h⟩
            simp only [List.mem_cons, List.not_mem_nil, or_false, or_self] at z
            exact z
          · obtain ⟨u, hu, rfl⟩ := List.mem_map.mp z
            exact ⟨some u, rfl, fun z h => by cases h; exact hu⟩
        subst ekey
        have md := mc.trans m10
        have td := (tb.trans (TT.of sm3)).trans (TT.mv mc.se m10)
        -- the end
        obtain ⟨i0, i1, ine⟩ := turn_ne hrs a00 a01 (t := 1 + b0) (by omega) (by omega)
        obtain ⟨ze, hze, gze, aze⟩ := at_str i0 i1
        refine ⟨.ref r, rfl, .int a0, rfl, .int (1 + b0), rfl, a0, 1 + b0, rfl, rfl, .ref r, rfl, r, _, rfl, .inr (sqr td), a0 + (1 + b0), _, rfl, rfl, (by rw [List.length_map]; omega), r, _, _, .str ze, rfl, rfl, sqr td, (by rw [List.length_map]; exact aze), ?_⟩
        refine ⟨.ref st, rfl, st, sc, 2, rfl, md.se, by decide, fun c0 He c00 c01 m11 => ⟨rfl, _, _, rfl, ?_⟩⟩
        have me := md.trans m11
        have te := td.trans (TT.mv md.se m11)
        -- the row
        obtain ⟨zs, hzs, gzs, azs⟩ := at_str a00 a01
        refine ⟨.ref r, rfl, .int a0, rfl, r, _, a0, .str zs, rfl, rfl, sqr te, azs, .str ze, rfl, oV key, rfl, _, rfl, .ref st, rfl, st, sc, 4, rfl, me.se, by decide, fun w0 Hf w00 w01 m12 => ⟨1, w0, rfl, rfl, by show 5 ≤ sizeLine; rw [sizeLine_eq]; decide, fun tp ntp => ?_⟩⟩
        have mf := me.trans m12
        have tf := te.trans (TT.mv me.se m12)
        have edf : Hf dd = some (.dK ds) := mf.at_ m9.se ed9 fun _ _ _ z => by cases z
        have new : nm ∉ doors.map (·.1) := by rw [namesD]; exact take_new ndn hnm
        have ld : ds.length ≤ 6 := by
          rw [tabD.len, ← List.length_map (f := (·.1)), namesD, List.length_take]
          omega
        have mg := mf.more (same_new (o := .tup [.str zs, .str ze, oV key, .bl (decide (V.int c0 = V.int 0)), .int (1 + w0)]) ntp)
        have tg := tf.trans (TT.of (same_new (o := .tup [.str zs, .str ze, oV key, .bl (decide (V.int c0 = V.int 0)), .int (1 + w0)]) ntp))
        have edg : (upd Hf tp (.tup [.str zs, .str ze, oV key, .bl (decide (V.int c0 = V.int 0)), .int (1 + w0)])) dd = some (.dK ds) := same_new ntp _ _ edf
        have tz := tg.trans (TT.put (o := .dK (putK ds (.inr nm) (.ref tp))) edg)
        have dok : DoorD.ok ⟨zs, ze, key, decide (V.int c0 = V.int 0), 1 + w0⟩ := ⟨nmr zs hzs, nmr ze hze, nodup_at ndr gzs gze (by omega), fun z h => nmk z (hkey z h), by show 1 ≤ 1 + w0; omega, by show 1 + w0 ≤ 9; omega⟩
        refine ⟨.ref dd, rfl, .str nm, rfl, dd, _, rfl, .inl ⟨ds, .inr nm, edg, rfl, by rw [sizeLine_eq]; omega, rfl⟩, ds ++ [(.inr nm, .ref tp)], doors ++ [(nm, ⟨zs, ze, key, decide (V.int c0 = V.int 0), 1 + w0⟩)], some (oV key), some (.str nm), some (.int a0), some (.int (1 + b0)), some (.str ze), some (.bl (decide (V.int c0 = V.int 0))), (m9.trans mg).new hS nHd, tz _ _ er9, ?_, ?_, ?_, ?_, ?_, fun q hq => ?_, rfl⟩
        · have e1 := mg.at_ m9.se en9 fun x y z e => strs_no ns x y z (HO.lst.inj e)
          rw [upd_ne (ne_of e1 edg (by intro z; cases z))]
          exact e1
        · have e1 := mg.at_ m9.se ek9 fun _ _ _ z => by cases z
          rw [upd_ne]
          · exact e1
          · exact nkd
        · rw [upd_same, putK_new (tab_no tabD new)]
        · exact Lw.Tab.snoc (tabD.mono (rowD.tt tz)) ⟨tp, rfl, by rw [upd_ne (ne_of (upd_same (H := Hf) (a := tp) (o := .tup [.str zs, .str ze, oV key, .bl (decide (V.int c0 = V.int 0)), .int (1 + w0)])) edg (by intro z; cases z))]; exact upd_same⟩
        · rw [List.map_append, namesD, take_next1 hnm]
          rfl
        · rcases List.mem_append.mp hq with u | u
          · exact okD q u
          · rw [List.mem_singleton.mp u]
            exact ⟨dok, hzs, hze, hkey⟩
      · -- the people
        obtain ⟨ds, doors, y4', y6, y7, y8, y9, y10, m9, er9, en9, ek9, ed9, tabD, namesD, okD, rfl⟩ := hP
        rw [List.length_map, List.take_length] at namesD
        intro pd npd
        have nHp : H pd = none := m9.fresh hS npd
        have m10 : Mv K st sc H (upd H9 pd (.dK [])) := m9.new hS nHp
        refine ⟨by show 3 ≤ sizeLine; rw [sizeLine_eq]; decide, fun p3 np3 => ?_⟩
        have m11 := m10.more (same_new (o := .lst (folk3.map V.str)) np3)
        refine ⟨.ref st, rfl, st, sc, _, rfl, m11.se, by decide, fun f0 H12 f00 f01 m12 => ⟨1, f0, rfl, rfl, _, rfl, p3, folk3.map V.str, rfl, m12.lst m11.se (strs_no _) (.inl (.inl upd_same)), fun fl nfl => ?_⟩⟩
        obtain ⟨fn, hfn, hfb⟩ : ∃ fn : Nat, (1 + f0 : Int) = (fn : Int) ∧ 1 ≤ fn ∧ fn ≤ 3 := ⟨(1 + f0).toNat, by omega, by omega⟩
        rw [hfn, cut_take, ← List.map_take]
        generalize efs : folk3.take fn = fs
        have ndf : fs.Nodup := by rw [← efs]; exact nd3.sublist (List.take_sublist _ _)
        have nmf : ∀ z ∈ fs, isNm z = true := fun z hz => by rw [← efs] at hz; exact nm3 z (List.mem_of_mem_take hz)
        have lfs : fs.length = fn := by
          rw [← efs, List.length_take]
          show min fn 3 = fn
          omega
        have keep : ∀ a o, (∀ x y z, o ≠ HO.lst [.ref x, .int y, .int z]) → H9 a = some o → H12 a = some o := fun a o d e => m12.at_ m11.se (same_new np3 _ _ (by rw [upd_ne (ne_of_none e npd)]; exact e)) d
        have tt12 : TT H9 H12 := fun a xs e => keep a _ (fun _ _ _ z => by cases z) e
        have ep12 : H12 pd = some (.dK []) := m12.at_ m11.se (same_new np3 _ _ upd_same) fun _ _ _ z => by cases z
        have ndp : dd ≠ pd := ne_of_none ed9 npd
        have nkp : k ≠ pd := ne_of_none ek9 npd
        refine ⟨fl, rfl, ⟨_, .inl (.inl upd_same)⟩, for_it (walk_list (xs := fs.map V.str)) (fun i σ H' => ∃ ps people y4 y6 y7 y8 y9 y10 y12 y13, Mv K st sc H H' ∧ H' r = some (.tup (rs.map V.str)) ∧ H' fl = some (.lst (fs.map V.str)) ∧ H' k = some (.dK kvs) ∧ H' dd = some (.dK ds) ∧ Tab (rowD H') ds doors ∧ H' pd = some (.dK ps) ∧ Tab (rowP H') ps people ∧ people.map (·.1) = fs.take i ∧
          (∀ q ∈ people, q.2.ok ∧ q.2.a ∈ rs ∧ (∀ z ∈ q.2.carried, z ∈ keys.map (·.1)) ∧ (∀ z ∈ q.2.needs, z ∈ rs) ∧ ∀ z ∈ q.2.shuns, z ∈ rs) ∧ σ = [some (.ref st), some (.int mo), some (.ref r), some (.ref k), y4, some (.ref dd), y6, y7, y8, y9, y10, some (.ref pd), y12, y13, none]) ?_ (fun i σ H' _ hP => by obtain ⟨_, _, _, _, _, _, _, _, _, _, _, _, z, _⟩ := hP; exact .inl (.inl z)) (fun i v σ H14 H15 hi hP hY => ?_) (fun σ H14 hP => ?_)⟩
        · exact ⟨[], [], y4', y6, y7, y8, y9, y10, none, none, (m11.trans m12).more (same_new nfl), same_new nfl _ _ (tt12 _ _ er9), upd_same, same_new nfl _ _ (keep _ _ (fun _ _ _ z => by cases z) ek9), same_new nfl _ _ (keep _ _ (fun _ _ _ z => by cases z) ed9), tabD.mono (rowD.tt (tt12.trans (TT.of (same_new nfl)))), same_new nfl _ _ ep12, .nil, by simp, (fun _ z => by cases z), rfl⟩
        · obtain ⟨rfl, hv⟩ := hY
          obtain ⟨ps, people, y4, y6, y7, y8, y9, y10, y12, y13, ma, era, efa, eka, eda, tDa, epa, tPa, nPa, okP, rfl⟩ := hP
          obtain ⟨nm, hnm, rfl⟩ := at_map hv
          have l1000 : rs.length ≤ 1000 := by rw [lrs]; omega
          -- wants
          refine ⟨.ref st, rfl, .ref r, rfl, st, sc, r, rs, 3, rfl, ma.se, .inl (.inl era), l1000, by decide, fun Hb tw ws subw mb ntw etw => ?_⟩
          have tb := TT.mv ma.se mb
          -- bans
          refine ⟨.ref st, rfl, .ref r, rfl, st, sc, r, rs, 4, rfl, mb.se, .inl (.inl (tb _ _ era)), l1000, by decide, fun Hc tc cs subc mc ntc etc => ?_⟩
          have tc' := TT.mv mb.se mc
          have etw2 := tc' _ _ etw
          have lcs : cs.length ≤ 1000 := Nat.le_trans subc.length_le l1000
          refine ⟨tc, rfl, ⟨_, .inl (.inl etc)⟩, fun D nD => lc_mf (walk_tup (xs := cs.map V.str)) cs (fun z => !decide (z ∈ ws)) V.str (by rw [List.length_map]) nD lcs (fun H' s' => .inl (.inl (s' _ _ etc))) (fun i u v H7 H8 Kt Kf hz s7 hY kt kf => ?_) (fun H7 s7 eD => ?_)⟩
          · obtain ⟨rfl, hx⟩ := hY
            rw [List.getElem?_map, hz] at hx
            cases hx
            refine ⟨rfl, .str u, rfl, .ref tw, rfl, tw, _, rfl, .inr (.inl (.inl (s7 _ _ etw2))), rfl, Lk.flat_strs ws, _, rfl, ?_⟩
            rw [inV_str]
            refine ite2 (fun t2 => ?_) (fun t2 => ?_)
            · exact ⟨.str u, rfl, kt t2 _ (Same.refl _)⟩
            · exact kf (Bool.eq_false_iff.mpr t2) _ (Same.refl _)
          · refine ⟨D, _, rfl, .inl ⟨.inl (.inl eD), fun tbn ntbn => ?_⟩⟩
            have md := (mc.more s7).more (same_new (o := .tup ((cs.filter fun z => !decide (z ∈ ws)).map V.str)) ntbn)
            have mbd := mb.trans md
            have td : TT Hc _ := TT.of (s7.trans (same_new (o := .tup ((cs.filter fun z => !decide (z ∈ ws)).map V.str)) ntbn))
            have tad := tb.trans (tc'.trans td)
            -- the row
            refine ⟨.ref st, rfl, .ref r, rfl, st, sc, r, rs.map V.str, rfl, mbd.se, .inl (.inl (tad _ _ era)), ner, fun vs0 He hv0 me => ?_⟩
            obtain ⟨zs, hzs, rfl⟩ := List.mem_map.mp hv0
            have mae := mbd.trans me
            have tae := tad.trans (TT.mv mbd.se me)
            have eke : He k = some (.dK kvs) := mae.at_ ma.se eka fun _ _ _ z => by cases z
            refine ⟨.ref st, rfl, .ref k, rfl, k, kvs, rfl, .inl eke, fun l2 nl2 => ?_⟩
            rw [tab.kV]
            have mf := mae.more (same_new (o := .lst ((keys.map (·.1)).map V.str)) nl2)
            refine ⟨st, sc, l2, keys.map (·.1), 4, rfl, mf.se, .inl (.inl upd_same), by rw [List.length_map]; omega, by decide, fun Hg tg gs subg mg ntg etg => ?_⟩
            have mag := mf.trans mg
            have tag := (tae.trans (TT.of (same_new (o := .lst ((keys.map (·.1)).map V.str)) nl2))).trans (TT.mv mf.se mg)
            have tcg : TT He Hg := (TT.of (same_new (o := .lst ((keys.map (·.1)).map V.str)) nl2)).trans (TT.mv mf.se mg)
            have twg : TT Hb Hg := (tc'.trans td).trans ((TT.mv mbd.se me).trans tcg)
            refine ⟨.ref tw, rfl, .ref tbn, rfl, by show 4 ≤ sizeLine; rw [sizeLine_eq]; decide, fun tp ntp => ?_⟩
            have epg : Hg pd = some (.dK ps) := mag.at_ ma.se epa fun _ _ _ z => by cases z
            have edg : Hg dd = some (.dK ds) := mag.at_ ma.se eda fun _ _ _ z => by cases z
            have ekg : Hg k = some (.dK kvs) := mag.at_ ma.se eka fun _ _ _ z => by cases z
            have new : nm ∉ people.map (·.1) := by rw [nPa]; exact take_new ndf hnm
            have lp : ps.length ≤ 3 := by
              rw [tPa.len, ← List.length_map (f := (·.1)), nPa, List.length_take]
              omega
            generalize eo : HO.tup [.str zs, .ref tg, .ref tw, .ref tbn] = row
            have eph : (upd Hg tp row) pd = some (.dK ps) := same_new ntp _ _ epg
            have tz : TT H15 (upd (upd Hg tp row) pd (.dK (putK ps (.inr nm) (.ref tp)))) := (tag.trans (TT.of (same_new ntp))).trans (TT.put eph)
            have tgz : TT Hg (upd (upd Hg tp row) pd (.dK (putK ps (.inr nm) (.ref tp)))) := (TT.of (same_new ntp)).trans (TT.put eph)
            have subb : (cs.filter fun z => !decide (z ∈ ws)).Sublist rs := List.filter_sublist.trans subc
            have lw : ∀ {ys : List Str}, ys.Sublist rs → ys.length ≤ 100 := fun s => Nat.le_trans s.length_le (by rw [lrs]; omega)
            have pok : PersonD.ok ⟨zs, gs, ws, cs.filter fun z => !decide (z ∈ ws)⟩ := ⟨nmr zs hzs, are_sub subg nmk ndk, are_sub subw nmr ndr, are_sub subb nmr ndr, fun z hz hs => (by
              have := (List.mem_filter.mp hs).2
              simp at this
              exact this hz), Nat.le_trans subg.length_le (by rw [List.length_map]; omega), lw subw, lw subb⟩
            refine ⟨.ref pd, rfl, .str nm, rfl, pd, _, rfl, .inl ⟨ps, .inr nm, eph, rfl, by rw [sizeLine_eq]; omega, rfl⟩, ps ++ [(.inr nm, .ref tp)], people ++ [(nm, ⟨zs, gs, ws, cs.filter fun z => !decide (z ∈ ws)⟩)], y4, some (.str nm), y7, y8, y9, y10, some (.ref tw), some (.ref tbn), ((ma.trans mag).more (same_new ntp)).new hS nHp, tz _ _ era, ?_, ?_, ?_, tDa.mono (rowD.tt tz), ?_, ?_, ?_, fun q hq => ?_, rfl⟩
            · have e1 := (mag.more (same_new (o := row) ntp)).at_ ma.se efa fun x y z e => strs_no fs x y z (HO.lst.inj e)
              rw [upd_ne (ne_of e1 eph (by intro z; cases z))]
              exact e1
            · rw [upd_ne nkp]
              exact same_new ntp _ _ ekg
            · rw [upd_ne ndp]
              exact same_new ntp _ _ edg
            · rw [upd_same, putK_new (tab_no tPa new)]
            · refine Lw.Tab.snoc (tPa.mono (rowP.tt tz)) ⟨tp, tg, tw, tbn, rfl, ?_, tgz _ _ etg, (twg.trans tgz) _ _ etw, ?_⟩
              · subst eo
                exact TT.put eph _ _ upd_same
              · exact ((TT.mv mbd.se me).trans (tcg.trans tgz)) _ _ upd_same
            · rw [List.map_append, nPa, take_next1 hnm]
              rfl
            · rcases List.mem_append.mp hq with u | u
              · exact okP q u
              · rw [List.mem_singleton.mp u]
                exact ⟨pok, hzs, fun z hz => subg.subset hz, fun z hz => subw.subset hz, fun z hz => subb.subset hz⟩
        · obtain ⟨ps, people, y4, y6, y7, y8, y9, y10, y12, y13, ma, era, efa, eka, eda, tDa, epa, tPa, nPa, okP, rfl⟩ := hP
          rw [List.length_map, List.take_length] at nPa
          have nrk : r ≠ k := ne_of era eka (by intro z; cases z)
          have nrd : r ≠ dd := ne_of era eda (by intro z; cases z)
          have nrp : r ≠ pd := ne_of era epa (by intro z; cases z)
          refine ⟨k, _, eka, trivial, fun ok => ⟨dd, .dK ds, (by rw [upd_ne nkd.symm]; exact eda), trivial, fun od => ⟨pd, .dK ps, (by rw [upd_ne ndp.symm, upd_ne nkp.symm]; exact epa), trivial, fun op => ?_⟩⟩⟩
          refine ⟨.ref r, rfl, .ref k, rfl, .ref dd, rfl, .ref pd, rfl, by show 4 ≤ sizeLine; rw [sizeLine_eq]; decide, fun t nt => ?_⟩
          have tz : TT H14 (upd (upd (upd H14 k (.frz ok (.dK kvs))) dd (.frz od (.dK ds))) pd (.frz op (.dK ps))) := (TT.put eka).trans ((TT.put (by rw [upd_ne nkd.symm]; exact eda)).trans (TT.put (by rw [upd_ne ndp.symm, upd_ne nkp.symm]; exact epa)))
          have mz : Mv K st sc H (upd (upd (upd H14 k (.frz ok (.dK kvs))) dd (.frz od (.dK ds))) pd (.frz op (.dK ps))) := ((ma.new hS nHk).new hS nHd).new hS nHp
          have t2 := tz.trans (TT.of (same_new (o := .tup [.ref r, .ref k, .ref dd, .ref pd]) nt))
          refine q _ t ⟨rs, keys, doors, people⟩ (by show rs.length ≤ 5; omega) (mz.more (same_new nt)) ⟨⟨r, k, dd, pd, ok, od, op, kvs, ds, ps, upd_same, t2 _ _ era, ?_, tab, ?_, tDa.mono (rowD.tt t2), ?_, tPa.mono (rowP.tt t2)⟩, ?_⟩
          · refine same_new nt _ _ ?_
            rw [upd_ne nkp, upd_ne nkd]
            exact upd_same
          · refine same_new nt _ _ ?_
            rw [upd_ne ndp]
            exact upd_same
          · exact same_new nt _ _ upd_same
          · refine ⟨are_sub (List.Sublist.refl _) nmr ndr, by show 2 ≤ rs.length; omega, by show rs.length ≤ 6; omega, by show keys.length ≤ 3; omega, ndk, fun q hq => ⟨nmk _ (List.mem_map_of_mem hq), fun h => no25 _ (sub2 _ (kst q hq)) (sub5 _ h), inr q hq⟩, ?_, ?_, ?_, fun q hq => ?_, ?_, ?_, ?_, fun q hq => ?_⟩
            · show 1 ≤ doors.length
              rw [← List.length_map (f := (·.1)), namesD]
              omega
            · show doors.length ≤ 8
              rw [← List.length_map (f := (·.1)), namesD]
              omega
            · show (doors.map (·.1)).Nodup
              rw [namesD]
              exact ndn
            · obtain ⟨a1, a2, a3, a4⟩ := okD q hq
              exact ⟨nmn _ (by rw [← namesD]; exact List.mem_map_of_mem hq), a1, a2, a3, a4⟩
            · show 1 ≤ people.length
              rw [← List.length_map (f := (·.1)), nPa]
              omega
            · show people.length ≤ 4
              rw [← List.length_map (f := (·.1)), nPa]
              omega
            · show (people.map (·.1)).Nodup
              rw [nPa]
              exact ndf
            · obtain ⟨a1, a2, a3, a4, a5⟩ := okP q hq
              exact ⟨nmf _ (by rw [← nPa]; exact List.mem_map_of_mem hq), a1, a2, a3, a4, a5⟩
end
end Lw
set_option Elab.async false
set_option linter.all false
set_option maxRecDepth 100000
set_option maxHeartbeats 2000000
/-! t[::-1] of a tuple; d != d of dicts that may be frozen. -/
namespace Lk
open PySem PySem.Spec PyProof.Rows L2 TxS LkO
theorem back_pick (xs : Array Value) : (List.range xs.size).filterMap (fun (k : Nat) => xs[((xs.size : Int) - 1 + (k : Int) * (-1)).toNat]?) = xs.toList.reverse := by
  have e1 : (List.range xs.size).filterMap (fun (k : Nat) => xs[((xs.size : Int) - 1 + (k : Int) * (-1)).toNat]?) = (List.range xs.size).filterMap (fun (k : Nat) => some ((xs.toList.reverse)[k]?.getD Value.none)) := by
    have go : ∀ (l : List Nat) (f g : Nat → Option Value), (∀ k ∈ l, f k = g k) → l.filterMap f = l.filterMap g := fun l f g h => by
      induction l with
      | nil => rfl
      | cons a r ih => rw [List.filterMap_cons, List.filterMap_cons, h a List.mem_cons_self, ih fun k hk => h k (List.mem_cons_of_mem _ hk)]
    refine go _ _ _ fun k hk => ?_
    have hk := List.mem_range.mp hk
    have hi : ((xs.size : Int) - 1 + (k : Int) * (-1)).toNat = xs.size - 1 - k := by omega
    have hl : xs.size - 1 - k < xs.size := by omega
    rw [hi, Array.getElem?_eq_getElem hl, List.getElem?_reverse (by rw [Array.length_toList]; exact hk), Array.length_toList, Array.getElem?_toList, Array.getElem?_eq_getElem hl]
    rfl
  rw [e1, List.filterMap_eq_map']
  refine List.ext_getElem (by simp) fun i h1 h2 => ?_
  rw [List.getElem_map, List.getElem_range, List.getElem?_eq_getElem h2]
  rfl
section
variable {prog : Program} {w : World} {A : Around} {E : Value → Shared → Prop} {s : Shared}
theorem back_applied {sl : Addr} {vl vu vs : Value} {n : Nat} {Q : Int × Int × Nat → Shared → Prop} (hs : s.heap.IsSliceOf sl vl vu vs) (pl : IsPart vl none) (pu : IsPart vu none) (ps : IsPart vs (some (-1)))
    (h : Q ((n : Int) - 1, -1, n) s) : wpAny (model prog w) A (Builtin.Slice.sliceApplied (.ref sl) (pure (n : Int))) Q E s := by
  obtain ⟨os, hos, hcs, hds⟩ := id hs
  unfold Builtin.Slice.sliceApplied Builtin.Slice.sliceFields
  refine wpAny_bind (wpAny_bind (wpAny_field hos hds (x := vl) rfl (wpAny_bind (wpAny_field hos hds (x := vu) rfl (wpAny_bind (wpAny_field hos hds (x := vs) rfl (wpAny_pure ?_)))))))
  refine wpAny_bind (HT.slicePart_ ps ?_)
  show wpAny _ _ (if ((-1 : Int) == 0) = true then _ else _) _ _ s
  rw [if_neg (by decide)]
  refine wpAny_bind (HT.slicePart_ pl (wpAny_bind (HT.slicePart_ pu (wpAny_bind (wpAny_pure ?_)))))
  show wpAny _ _ (match Builtin.Slice.sliceAdjust none none (-1) (n : Int) with | (lo, hi) => pure (lo, (-1 : Int), Builtin.Slice.slicePlaces lo hi (-1))) _ _ s
  have e1 : Builtin.Slice.sliceAdjust none none (-1) (n : Int) = ((n : Int) - 1, -1) := by
    unfold Builtin.Slice.sliceAdjust
    simp
  rw [e1]
  have e2 : Builtin.Slice.slicePlaces ((n : Int) - 1) (-1) (-1) = n := by
    unfold Builtin.Slice.slicePlaces
    rw [if_neg (by decide)]
    by_cases z : n = 0
    · subst z
      rfl
    · rw [if_pos (by omega), show (-(-1) : Int) = 1 from rfl, Int.ediv_one]
      omega
  show wpAny _ _ (pure ((n : Int) - 1, (-1 : Int), Builtin.Slice.slicePlaces ((n : Int) - 1) (-1) (-1))) _ _ s
  rw [e2]
  exact wpAny_pure h
theorem get_back {t sl : Addr} {items : Array Value} {vl vu vs : Value} {Q : Value → Shared → Prop} (ht : IsTup s.heap t items) (hs : s.heap.IsSliceOf sl vl vu vs) (pl : IsPart vl none) (pu : IsPart vu none) (ps : IsPart vs (some (-1)))
    (h : Q (.ref s.heap.objs.size) { s with heap := s.heap.push { cls := .type "tuple", data := .seq items.toList.reverse.toArray } }) (hsz : items.size ≤ sizeLine) : wpAny (model prog w) A (getItem (.ref t) (.ref sl)) Q E s := by
  obtain ⟨os, hos, hcs, hds⟩ := id hs
  have ty : s.TypeIs (.ref sl) "slice" := ⟨os, hos, hcs⟩
  have fits : sizeOk (.seq items.toList.reverse.toArray) := by
    show items.toList.reverse.toArray.size ≤ sizeLine
    rw [List.size_toArray, List.length_reverse, Array.length_toList]
    exact hsz
  unfold getItem
  try with_reducible refine wpAny_holding ?_
  first | refine wpAny_bind (wpAny_pure ?_) | skip
  refine wpAny_bind (wpAny_sequenceKey ht.typeIs (by decide) ?_)
  refine wpAny_bind (wpAny_callSpecial?_slot (name := Str.ofString "__getitem__") ht.typeIs PyProof.Rows.slot_tuple_getitem (wpAny_call_entry PyProof.Rows.slot_tuple_getitem ht.typeIs entry_tuple_getitem ?_ (args_tuple_getitem _ _)))
  show wpAny _ _ (Builtin.Tuple.tupleItemsOf (.ref t) >>= _) _ _ s
  refine wpAny_bind (tupleItemsOf_ ht ?_)
  refine wpAny_bind (wpAny_typeOf ty ?_)
  rw [if_pos (by decide)]
  refine wpAny_bind (back_applied (n := items.size) hs pl pu ps ?_)
  have no : ¬ ((((items.size : Int) - 1) == 0 && (-1 : Int) == 1 && items.size == items.size) = true) := by
    rw [show ((-1 : Int) == 1) = false from rfl, Bool.and_false, Bool.false_and]
    exact Bool.false_ne_true
  show wpAny _ _ (if (((items.size : Int) - 1) == 0 && (-1 : Int) == 1 && items.size == items.size) = true then _ else _) _ _ s
  rw [if_neg no, back_pick]
  first
    | exact wpAny_bind (m := Builtin.Tuple.tupleExact _) (wpAny_newObj_type (wpAny_pure ⟨_, rfl, wpAny_pure h⟩) fits)
    | exact wpAny_bind (m := Builtin.Tuple.tupleExact _) (wpAny_newObj_type (wpAny_bind (wpAny_pure (wpAny_pure ⟨_, rfl, wpAny_pure h⟩))) fits)
    | exact wpAny_bind (wpAny_bind (m := Builtin.Tuple.tupleExact _) (wpAny_newObj_type (wpAny_pure (wpAny_pure ⟨_, rfl, wpAny_pure h⟩)) fits))
    | exact wpAny_bind (wpAny_bind (m := Builtin.Tuple.tupleExact _) (wpAny_newObj_type (wpAny_pure ⟨_, rfl, wpAny_pure h⟩) fits))
end
/-- t[::-1] -/
def tRevT (K : PySem.W.Frag) (te : TE) : TE := fun σ H Q => te σ H fun x H1 => ∃ a xs, x = .ref a ∧ SqT K H1 a xs ∧ ∀ p, H1 p = none → Q (.ref p) (upd H1 p (.tup xs.reverse))
theorem pe_revT {X : Cx} {e : Expr} {te : TE} {k : Nat} {p1 p2 p3 pos : Pos} (he : PE X e te) : PE X (.Subscript e (.Slice none none (some (.UnaryOp .USub (.Constant (.int 1) k p1) p2)) p3) pos) (tRevT X.K te) := by
  refine ⟨fun pins s σ H Q I h => Subscript_ (thn (he.run pins s σ H _ I h) fun v s1 z => ?_)⟩
  obtain ⟨x, H1, I1, r1, a, xs, rfl, hx, q⟩ := z
  cases r1
  have step : PO X (some (.UnaryOp .USub (.Constant (.int 1) k p1) p2)) (tPart (tUn (rU fun i => .int (-i)) (tC (.int 1)))) := po_some (pe_un un_neg pe_int)
  refine wpAny_Slice (thn (po_none.run pins s1 σ H1 (fun o H2 => o = none ∧ H2 = H1) I1 ⟨rfl, rfl⟩) fun vl s2 z2 => ?_)
  obtain ⟨l, H2, I2, pl, rfl, rfl⟩ := z2
  refine thn (po_none.run pins s2 σ H2 (fun o H3 => o = none ∧ H3 = H2) I2 ⟨rfl, rfl⟩) fun vu s3 z3 => ?_
  obtain ⟨u, H3, I3, pu, rfl, rfl⟩ := z3
  refine thn (step.run pins s3 σ H3 (fun o H4 => o = some (-1) ∧ H4 = H3) I3 ⟨1, rfl, -1, rfl, rfl, rfl⟩) fun vs s4 z4 => ?_
  obtain ⟨o, H4, I4, ps, rfl, rfl⟩ := z4
  have I5 : Inv X pins σ H4 { s4 with heap := s4.heap.push { cls := .type "slice", data := .fields #[vl, vu, vs] } } := I4.kept (t' := s4.toks) fun b ob w => Heap.get?_push_of_some _ w
  obtain ⟨its, r, ht, hz⟩ := I5.tuple hx
  have hl := r.length
  show wpAny (model X.prog X.w) X.A (subscriptTail e (.Slice none none (some (.UnaryOp .USub (.Constant (.int 1) k p1) p2)) p3) (.ref a) (.ref s4.heap.objs.size)) (EP X pins σ Q) X.xe _
  refine tail_any (ops := [.ref a, .ref s4.heap.objs.size]) ht.typeIs PyProof.Rows.slot_tuple_getitem.lookup ?_ (by with_unfolding_all rfl)
  refine get_back ht (Heap.IsSliceOf.new _ vl vu vs) pl pu ps ?_ (by rw [List.size_toArray]; omega)
  refine ⟨.ref _, _, I5.laid (t' := s4.toks) (o := .tup xs.reverse) (fun b ob w => Heap.get?_push_of_some _ w) (Nat.le_refl _) ?_, rfl, q _ (I5.hok.fresh (Nat.le_refl _))⟩
  exact ⟨by rw [List.length_reverse]; exact hz, _, r.reverse, ⟨_, Heap.get?_push_size _ rfl, rfl, 0, by simp⟩⟩
/-- d != e: no -/
def rNeDR : R2 := fun x y H Q => ∃ a b ks ls, x = .ref a ∧ y = .ref b ∧ Rd H a (.dK ks) ∧ Rd H b (.dK ls) ∧ ks.length = ls.length ∧ (∀ p ∈ ks, valV ls p.1 = some p.2 ∧ flatB p.2 = true) ∧ Q (.bl false) H
theorem op_neDR {X : Cx} (hu : X.A.units < cLine) : OpR X (compareOp .NotEq) rNeDR := by
  intro pins s σ H x y v u Q I rx ry h
  obtain ⟨a, b, ks, ls, rfl, rfl, ea, eb, len, each, q⟩ := h
  cases rx
  cases ry
  obtain ⟨_, ya, va, ra, da⟩ := dk_rd I.hok ea
  obtain ⟨_, yb, vb, rb, db⟩ := dk_rd I.hok eb
  have hl : va.length = vb.length := by rw [← ra.length, ← rb.length, len]
  exact PySem.W.keq_ne (knd := mixKind X.prog X.w) (r := true) ya yb da db hu (fun _ => hits_all rb ra each) (fin_bl I q (by simp [hl]))
end Lk
set_option Elab.async false
set_option linter.all false
set_option maxRecDepth 100000
set_option maxHeartbeats 4000000
namespace Lw
open PySem PySem.Spec PyProof.Rows L2 TxS LkO Lk
/-- C(..) by keywords -/
structure MkW (P : Program) (w : World) (K : PySem.W.Frag) (mg : Str → Option Value) (base : Heap) (k : Nat) (C : Addr) (x : Str) (ps ks : List Str) (n : Nat) (sp : Sp) : Prop where
  ex : ∃ f fd, Mk K C f ∧ mg x = some (.ref C) ∧ KBn K fd ps (n + 1) ks (fun us ws => us ++ ws) (fun vs zs => vs ++ zs) ∧ FnOk P w K mg base CX0 k f fd ps sp
structure MkP (P : Program) (w : World) (K : PySem.W.Frag) (mg : Str → Option Value) (base : Heap) (k : Nat) (C : Addr) (x : Str) (ps : List Str) (sp : Sp) : Prop where
  ex : ∃ f fd, Mk K C f ∧ mg x = some (.ref C) ∧ Binds K fd ps [] ∧ FnOk P w K mg base CX0 k f fd ps sp
/-- what is no dict stays -/
def Nd (H H' : Hp) : Prop := ∀ a o, H a = some o → (∀ kvs, o ≠ .dK kvs) → H' a = some o
theorem Nd.refl (H : Hp) : Nd H H := fun _ _ e _ => e
theorem Nd.of {H H' : Hp} (s : Same H H') : Nd H H' := fun a o e _ => s a o e
theorem Nd.trans {H H1 H2 : Hp} (a : Nd H H1) (b : Nd H1 H2) : Nd H H2 := fun c o e d => b c o (a c o e d) d
theorem Nd.put {H : Hp} {d : Addr} {kvs : List (Key × V)} {o : HO} (h : H d = some (.dK kvs)) : Nd H (upd H d o) := fun a u e nd => by
  rw [upd_ne (ne_of e h (nd kvs))]
  exact e
theorem Nd.tup {K : PySem.W.Frag} {H H' : Hp} {a : Addr} {xs : List V} (n : Nd H H') (h : SqT K H a xs) : SqT K H' a xs := by
  rcases h with (e | ⟨o, e⟩) | e
  · exact .inl (.inl (n _ _ e fun _ z => by cases z))
  · exact .inl (.inr ⟨o, n _ _ e fun _ z => by cases z⟩)
  · exact .inr e
theorem Nd.door {C : Addr} {H H' : Hp} (n : Nd H H') (v : V) (d : DoorD) (h : doorR C H v d) : doorR C H' v d := by
  obtain ⟨x, e, ⟨dx, hx⟩, ok⟩ := h
  exact ⟨x, e, ⟨dx, n _ _ hx (fun _ z => by cases z)⟩, ok⟩
theorem Nd.pers {K : PySem.W.Frag} {C : Addr} {H H' : Hp} (n : Nd H H') (v : V) (d : PersonD) (h : persR K C H v d) : persR K C H' v d := by
  obtain ⟨x, e, ⟨dx, t1, t2, t3, hx, h1, h2, h3⟩, ok⟩ := h
  exact ⟨x, e, ⟨dx, t1, t2, t3, n _ _ hx (fun _ z => by cases z), n.tup h1, n.tup h2, n.tup h3⟩, ok⟩
theorem take_all {α : Type} {l : List α} : l.take l.length = l := List.take_length
theorem nodup_take {α : Type} {l : List (Str × α)} (nd : (l.map (·.1)).Nodup) {i : Nat} {q : Str × α} (h : l[i]? = some q) : q.1 ∉ (l.take i).map (·.1) := by
  have := take_new nd (i := i) (z := q.1) (by rw [List.getElem?_map, h]; rfl)
  rw [← List.map_take] at this
  exact this
section
variable {P : Program} {w : World} {K : PySem.W.Frag} {mg : Str → Option Value} {base : Heap} {CD CP CB CL : Addr}
def spBuilt (K : PySem.W.Frag) (CD CP CB : Addr) : Sp := fun vs H Q _ => ∃ (t : Addr) (b : BldD), vs = [.ref t] ∧ DrAt H t b ∧ ∀ H' x, Same H H' → BldAt K CD CP CB H' x b → Q (.ref x) H'
abbrev nBuilt : List Str := ["_law_drawn_here", "_law_rooms", "_law_keys", "_law_doors", "_law_people", "_law_shaped", "_law_folk", "_law_name", "_law_start", "_law_end", "_law_tool", "_law_twice", "_law_worth", "_law_held_here", "_law_wants", "_law_bans"]
theorem scBuilt : FnScope nBuilt ["_law_drawn_here"] (defScope s__law_building) := ⟨rfl, rfl, rfl, by decide +kernel, rfl, by decide +kernel, by decide +kernel⟩
theorem ok_built {f : Addr} {fd : FuncData} (F : Fun K "_law_building" "_law_building" s__law_building f fd) (MD : MkW P w K mg base 3 CD "Door" ["self", "start", "end", "key", "both", "cost"] ["key", "both", "cost"] 2 (spDoor CD)) (MP : MkW P w K mg base 3 CP "Person" ["self", "start", "carried", "needs", "shuns"] ["carried", "needs", "shuns"] 1 (spPerson K CP))
    (MB : MkP P w K mg base 5 CB "Building" ["self", "rooms", "keys", "doors", "people"] (spBld K CD CP CB)) : FnOk P w K mg base CX0 7 f fd ["_law_drawn_here"] (spBuilt K CD CP CB) := by
  obtain ⟨fD, fdD, mkD, gD, kbD, FD⟩ := MD.ex
  obtain ⟨fP, fdP, mkP, gP, kbP, FP⟩ := MP.ex
  obtain ⟨fB, fdB, mkB, gB, bB, FB⟩ := MB.ex
  refine F.ok scBuilt (fun vs H Q E h => ?_) (fun cdv A outer s H vs Q E hr h => ?_)
  · obtain ⟨t, b, rfl, _⟩ := h
    rfl
  · obtain ⟨t, b, rfl, ⟨⟨r, k, dd, pd, ok, od, op, kvs, ds, ps, I⟩, bok⟩, q⟩ := h
    have hr4 := hr.mono (show 4 ≤ 6 by decide)
    have hu := hu_of hr
    refine ⟨_, pss_cons (ps_asg (pv 0) (pg_tup rfl (pgs_cons (pg_name (i := 1) scBuilt.nd rfl (Or.inl rfl)) (pgs_cons (pg_name (i := 2) scBuilt.nd rfl (Or.inl rfl)) (pgs_cons (pg_name (i := 3) scBuilt.nd rfl (Or.inl rfl)) (pgs_cons (pg_name (i := 4) scBuilt.nd rfl (Or.inl rfl)) pgs_nil))))))
      (pss_cons (ps_par (i := 5) (j := 6) rfl scBuilt.nd rfl rfl (by decide) rfl rfl (pa_cons pe_dnewK (pa_cons pe_dnewK pa_nil)) rfl)
      (pss_cons (ps_for PassesOwn.never rfl (pi_keys (pv 3)) (pg_name (i := 7) scBuilt.nd rfl (Or.inl rfl))
        (pss_cons (ps_asg (pe_dget hu (pv 3) (pv 7) (fun _ _ => rfl)) (pg_tup rfl (pgs_cons (pg_name (i := 8) scBuilt.nd rfl (Or.inl rfl)) (pgs_cons (pg_name (i := 9) scBuilt.nd rfl (Or.inl rfl)) (pgs_cons (pg_name (i := 10) scBuilt.nd rfl (Or.inl rfl)) (pgs_cons (pg_name (i := 11) scBuilt.nd rfl (Or.inl rfl)) (pgs_cons (pg_name (i := 12) scBuilt.nd rfl (Or.inl rfl)) pgs_nil)))))))
        (pss_one (ps_asg (pe_makeK (n := 2) (E := E0) mkD FD hr4 (by rfl) gD kbD pass0 (pa_cons (pv 8) (pa_cons (pv 9) pa_nil)) (pk_cons (pv 10) (pk_cons (pv 11) (pk_cons (pv 12) pk_nil)))) (pg_sub (pv 5) (pv 7) (set_dict hu))))))
      (pss_cons (ps_for PassesOwn.never rfl (pi_keys (pv 4)) (pg_name (i := 7) scBuilt.nd rfl (Or.inl rfl))
        (pss_cons (ps_asg (pe_dget hu (pv 4) (pv 7) (fun _ _ => rfl)) (pg_tup rfl (pgs_cons (pg_name (i := 8) scBuilt.nd rfl (Or.inl rfl)) (pgs_cons (pg_name (i := 13) scBuilt.nd rfl (Or.inl rfl)) (pgs_cons (pg_name (i := 14) scBuilt.nd rfl (Or.inl rfl)) (pgs_cons (pg_name (i := 15) scBuilt.nd rfl (Or.inl rfl)) pgs_nil))))))
        (pss_one (ps_asg (pe_makeK (n := 1) (E := E0) mkP FP hr4 (by rfl) gP kbP pass0 (pa_cons (pv 8) pa_nil) (pk_cons (pv 13) (pk_cons (pv 14) (pk_cons (pv 15) pk_nil)))) (pg_sub (pv 6) (pv 7) (set_dict hu))))))
      (pss_one (ps_frz (ps_frz (ps_ret (pe_make (E := E0) mkB FB hr (by rfl) gB bB .nil pass0 (pa_cons (pv 1) (pa_cons (pv 2) (pa_cons (pv 5) (pa_cons (pv 6) pa_nil)))))))))))), ?_⟩
    refine ⟨.ref t, rfl, t, _, rfl, .inl (.inl I.ob), rfl, _, _, rfl, _, _, rfl, _, _, rfl, _, _, rfl, rfl, ?_⟩
    intro sh nsh fo nfo
    have nfs : sh ≠ fo := ne_of_none upd_same nfo
    have nHf : H fo = none := by
      cases e : H fo with
      | none => rfl
      | some o =>
        have := same_new (o := .dK []) nsh _ _ e
        rw [nfo] at this
        cases this
    refine ⟨_, _, rfl, ?_⟩
    have s0 : Same H (upd (upd H sh (.dK [])) fo (.dK [])) := (same_new nsh).trans (same_new nfo)
    refine ⟨.ref dd, rfl, dd, od, rfl, .inl ⟨ds, s0 _ _ I.doors, for_it (walk_keys (kvs := ds)) (fun i σ H' => Same H H' ∧ H' fo = some (.dK []) ∧ (∃ es, H' sh = some (.dK es) ∧ Tab (doorR CD H') es (b.doors.take i)) ∧
      ∃ y7 y8 y9 y10 y11 y12, σ = [some (.ref t), some (.ref r), some (.ref k), some (.ref dd), some (.ref pd), some (.ref sh), some (.ref fo), y7, y8, y9, y10, y11, y12, none, none, none]) ?_ (fun i σ H' _ hP => hP.1 _ _ I.doors) (fun i v σ H4 H5 hi hP hY => ?_) (fun σ H4 hP => ?_)⟩⟩
    · exact ⟨s0, upd_same, ⟨[], by rw [upd_ne nfs]; exact upd_same, .nil⟩, none, none, none, none, none, none, rfl⟩
    · obtain ⟨rfl, k0, v0, hv, rfl⟩ := hY
      obtain ⟨s4, efo, ⟨es, esh, tab⟩, y7, y8, y9, y10, y11, y12, rfl⟩ := hP
      have hid : i < b.doors.length := I.doorsT.len ▸ hi
      have hg : b.doors[i]? = some b.doors[i] := List.getElem?_eq_getElem hid
      generalize b.doors[i] = nd at hg
      obtain ⟨v1, hv1, _⟩ := I.doorsT.get hg
      rw [hv1] at hv
      cases hv
      have hm := List.mem_of_getElem? hg
      obtain ⟨u, hu1, ⟨tr, rfl, htr⟩⟩ := I.doorsT.val (look_at bok.dnd hm)
      refine ⟨.ref dd, rfl, .str nd.1, rfl, dd, .ref tr, rfl, .inl ⟨ds, .inr nd.1, .inr ⟨od, s4 _ _ I.doors⟩, rfl, hu1.symm⟩, tr, _, rfl, .inl (.inl (s4 _ _ htr)), rfl, _, _, rfl, _, _, rfl, _, _, rfl, _, _, rfl, _, _, rfl, rfl, ?_⟩
      refine ⟨.str nd.2.a, rfl, .str nd.2.b, rfl, oV nd.2.key, rfl, .bl nd.2.both, rfl, .int nd.2.cost, rfl, rfl, rfl, fun x dx nx ndx ne => ⟨x, dx, nd.2, rfl, upd_same, (bok.doors nd hm).2.1, fun H6 kp ex => ⟨rfl, ?_⟩⟩⟩
      have s6 : Same H5 H6 := Same.made nx ndx kp
      have esh6 := s6 _ _ esh
      have lel : es.length ≤ 8 := by
        rw [tab.len, List.length_take]
        have := bok.d8
        omega
      have nn : Nd H5 (upd H6 sh (.dK (es ++ [(.inr nd.1, .ref x)]))) := (Nd.of s6).trans (Nd.put esh6)
      refine ⟨.ref sh, rfl, .str nd.1, rfl, sh, _, rfl, .inl ⟨es, .inr nd.1, esh6, rfl, by rw [sizeLine_eq]; omega, by rw [putK_new (tab_no tab (nodup_take bok.dnd hg))]⟩, Same.up (s4.trans s6) nsh, by rw [upd_ne nfs.symm]; exact s6 _ _ efo, ⟨_, upd_same, ?_⟩, some (.str nd.1), some (.str nd.2.a), some (.str nd.2.b), some (oV nd.2.key), some (.bl nd.2.both), some (.int nd.2.cost), rfl⟩
      rw [take_next1 hg]
      exact Lw.Tab.snoc (tab.mono nn.door) ⟨x, rfl, ⟨dx, by rw [upd_ne (ne_of ex esh6 (by intro z; cases z))]; exact ex⟩, (bok.doors nd hm).2.1⟩
    · obtain ⟨s4, efo, ⟨es, esh, tab⟩, y7, y8, y9, y10, y11, y12, rfl⟩ := hP
      rw [I.doorsT.len, List.take_length] at tab
      refine ⟨.ref pd, rfl, pd, op, rfl, .inl ⟨ps, s4 _ _ I.people, for_it (walk_keys (kvs := ps)) (fun i σ H' => Same H H' ∧ (∃ es, H' sh = some (.dK es) ∧ Tab (doorR CD H') es b.doors) ∧ (∃ gs, H' fo = some (.dK gs) ∧ Tab (persR K CP H') gs (b.people.take i)) ∧
        ∃ y7 y8 y9 y10 y11 y12 y13 y14 y15, σ = [some (.ref t), some (.ref r), some (.ref k), some (.ref dd), some (.ref pd), some (.ref sh), some (.ref fo), y7, y8, y9, y10, y11, y12, y13, y14, y15]) ?_ (fun i σ H' _ hP => hP.1 _ _ I.people) (fun i v σ H5 H6 hi hP hY => ?_) (fun σ H5 hP => ?_)⟩⟩
      · exact ⟨s4, ⟨es, esh, tab⟩, ⟨[], efo, .nil⟩, y7, y8, y9, y10, y11, y12, none, none, none, rfl⟩
      · obtain ⟨rfl, k0, v0, hv, rfl⟩ := hY
        obtain ⟨s5, ⟨es, esh, tabD⟩, ⟨gs, efo, tabP⟩, y7, y8, y9, y10, y11, y12, y13, y14, y15, rfl⟩ := hP
        have hid : i < b.people.length := I.peopleT.len ▸ hi
        have hg : b.people[i]? = some b.people[i] := List.getElem?_eq_getElem hid
        generalize b.people[i] = nd at hg
        obtain ⟨v1, hv1, _⟩ := I.peopleT.get hg
        rw [hv1] at hv
        cases hv
        have hm := List.mem_of_getElem? hg
        obtain ⟨u, hu1, ⟨tr, t1, t2, t3, rfl, htr, h1, h2, h3⟩⟩ := I.peopleT.val (look_at bok.pnd hm)
        refine ⟨.ref pd, rfl, .str nd.1, rfl, pd, .ref tr, rfl, .inl ⟨ps, .inr nd.1, .inr ⟨op, s5 _ _ I.people⟩, rfl, hu1.symm⟩, tr, _, rfl, .inl (.inl (s5 _ _ htr)), rfl, _, _, rfl, _, _, rfl, _, _, rfl, _, _, rfl, rfl, ?_⟩
        refine ⟨.str nd.2.a, rfl, .ref t1, rfl, .ref t2, rfl, .ref t3, rfl, rfl, rfl, fun x dx nx ndx ne => ?_⟩
        have sm : Same H6 (upd (upd H6 dx (.own x)) x (.ins CP dx [])) := Same.up (same_new ndx) nx
        have st := s5.trans sm
        refine ⟨x, dx, t1, t2, t3, nd.2, rfl, upd_same, (bok.people nd hm).2.1, .inl (.inl (st _ _ h1)), .inl (.inl (st _ _ h2)), .inl (.inl (st _ _ h3)), fun H7 kp ex => ⟨rfl, ?_⟩⟩
        have s7 : Same H6 H7 := Same.made nx ndx kp
        have efo7 := s7 _ _ efo
        have lel : gs.length ≤ 4 := by
          rw [tabP.len, List.length_take]
          have := bok.p4
          omega
        have nn : Nd H6 (upd H7 fo (.dK (gs ++ [(.inr nd.1, .ref x)]))) := (Nd.of s7).trans (Nd.put efo7)
        have s57 := s5.trans s7
        refine ⟨.ref fo, rfl, .str nd.1, rfl, fo, _, rfl, .inl ⟨gs, .inr nd.1, efo7, rfl, by rw [sizeLine_eq]; omega, by rw [putK_new (tab_no tabP (nodup_take bok.pnd hg))]⟩, Same.up s57 nHf, ⟨es, by rw [upd_ne nfs]; exact s7 _ _ esh, tabD.mono nn.door⟩, ⟨_, upd_same, ?_⟩, some (.str nd.1), some (.str nd.2.a), y9, y10, y11, y12, some (.ref t1), some (.ref t2), some (.ref t3), rfl⟩
        rw [take_next1 hg]
        have hz : Nd H7 (upd H7 fo (.dK (gs ++ [(.inr nd.1, .ref x)]))) := Nd.put efo7
        exact Lw.Tab.snoc (tabP.mono nn.pers) ⟨x, rfl, ⟨dx, t1, t2, t3, hz _ _ ex (fun _ z => by cases z), hz.tup (.inl (.inl (s57 _ _ h1))), hz.tup (.inl (.inl (s57 _ _ h2))), hz.tup (.inl (.inl (s57 _ _ h3)))⟩, (bok.people nd hm).2.1⟩
      · obtain ⟨s5, ⟨es, esh, tabD⟩, ⟨gs, efo, tabP⟩, y7, y8, y9, y10, y11, y12, y13, y14, y15, rfl⟩ := hP
        rw [I.peopleT.len, List.take_length] at tabP
        refine ⟨sh, .dK es, esh, trivial, fun oa => ⟨fo, .dK gs, by rw [upd_ne nfs.symm]; exact efo, trivial, fun oq => ?_⟩⟩
        have n2 : Nd H5 (upd (upd H5 sh (.frz oa (.dK es))) fo (.frz oq (.dK gs))) := (Nd.put esh).trans (Nd.put (by rw [upd_ne nfs.symm]; exact efo))
        have s6 : Same H (upd (upd H5 sh (.frz oa (.dK es))) fo (.frz oq (.dK gs))) := Same.up (Same.up s5 nsh) nHf
        have e1 : (upd (upd H5 sh (.frz oa (.dK es))) fo (.frz oq (.dK gs))) sh = some (.frz oa (.dK es)) := by rw [upd_ne nfs]; exact upd_same
        refine ⟨.ref r, rfl, .ref k, rfl, .ref sh, rfl, .ref fo, rfl, fun x dx nx ndx ne => ?_⟩
        have sm : Same (upd (upd H5 sh (.frz oa (.dK es))) fo (.frz oq (.dK gs))) (upd (upd (upd (upd H5 sh (.frz oa (.dK es))) fo (.frz oq (.dK gs))) dx (.own x)) x (.ins CB dx [])) := Same.up (same_new ndx) nx
        have s7 := s6.trans sm
        refine ⟨x, dx, r, k, sh, fo, b, ok, oa, oq, kvs, es, gs, rfl, upd_same, bok, .inl (.inl (s7 _ _ I.rooms)), s7 _ _ I.keys, I.keysT, sm _ _ e1, (tabD.mono n2.door).mono (doorR.same sm), sm _ _ upd_same, (tabP.mono n2.pers).mono (persR.same sm), fun H8 kp at_ => ⟨rfl, q H8 x ?_ at_⟩⟩
        have s8 : Same (upd (upd H5 sh (.frz oa (.dK es))) fo (.frz oq (.dK gs))) H8 := Same.made nx ndx kp
        exact s6.trans s8
/-! ### _law_locks -/
structure LkT (P : Program) (w : World) (K : PySem.W.Frag) (mg : Str → Option Value) (base : Heap) (C : Addr) : Prop where
  c : LkC K mg C
  mks : ∃ f, Mk K C f ∧ FnR P w K mg base CX0 2 f (spNew C)
  or : ∃ f fd, OwnM K C f (PySem.dunder Operator.BitOr.info.2) ∧ FnOk P w K mg base CX0 4 f fd ["self", "other"] (spBin C gOr) ∧ Binds K fd ["self", "other"] []
def spLocks (K : PySem.W.Frag) (CL : Addr) : Sp := fun vs H Q _ => ∃ (t : Addr) (zs : List Str), vs = [.ref t] ∧ SqT K H t (zs.map V.str) ∧ (∀ z ∈ zs, isNm z = true) ∧ zs.length ≤ 20 ∧ ∀ H' c, Same H H' → LkAt CL H' c (srt zs) → Q (.ref c) H'
theorem scLocks : FnScope ["_law_names", "_law_found", "_law_name"] ["_law_names"] (defScope s__law_locks) := ⟨rfl, rfl, rfl, by decide +kernel, rfl, by decide +kernel, by decide +kernel⟩
theorem new_lk {C : Addr} {H : Hp} {Q : VK} {zs : List Str} (nm : ∀ z ∈ zs, isNm z = true) (few : zs.length < 64) (q : ∀ H' c, Same H H' → LkAt C H' c (srt zs) → Q (.ref c) H') :
    ∀ x dx, H x = none → H dx = none → dx ≠ x → spNew C (V.ref x :: zs.map V.str) (upd (upd H dx (.own x)) x (.ins C dx [])) (fun v H2 => v = .non ∧ Q (.ref x) H2) E0 := fun x dx nx nd ne =>
  ⟨x, dx, zs, rfl, upd_same, nm, few, fun H' t kp e1 e2 => ⟨rfl, by
    obtain ⟨s2, m2⟩ := made_at nx nd ne nm kp e1 e2
    exact q H' x s2 m2⟩⟩
theorem ok_locks {f : Addr} {fd : FuncData} (F : Fun K "_law_locks" "_law_locks" s__law_locks f fd) (T : LkT P w K mg base CL) : FnOk P w K mg base CX0 5 f fd ["_law_names"] (spLocks K CL) := by
  obtain ⟨fI, M, GI⟩ := T.mks
  obtain ⟨fO, fdO, mO, GO, bO⟩ := T.or
  refine F.ok scLocks (fun vs H Q E h => ?_) (fun cdv A outer s H vs Q E hr h => ?_)
  · obtain ⟨t, zs, rfl, _⟩ := h
    rfl
  · obtain ⟨t, zs, rfl, ht, nm, few, q⟩ := h
    have hr3 := hr.mono (show 3 ≤ 4 by decide)
    refine ⟨_, pss_cons (ps_set (i := 1) scLocks.nd rfl (.inl rfl) (pe_makeR0 (E := E0) M GI hr3 (by rfl) T.c.mgC pass0))
      (pss_cons (ps_for PassesOwn.never rfl (pi_tup (pv 0)) (pg_name (i := 2) scLocks.nd rfl (Or.inl rfl)) (pss_one (ps_set (i := 1) scLocks.nd rfl (.inl rfl) (pe_op (op_own (E := E0) T.c.sf mO GO hr bO pass0) (pv 1) (StX.pe_makeR (E := E0) M GI hr3 (by rfl) T.c.mgC pass0 (pa_cons (pv 2) pa_nil))))))
      (pss_one (ps_ret (pv 1)))), ?_⟩
    intro c dc nc ndc nec
    have nm0 : ∀ z ∈ ([] : List Str), isNm z = true := fun _ z => by cases z
    refine ⟨c, dc, [], rfl, upd_same, nm0, by decide, fun H1 t1 kp e1 e2 => ⟨rfl, ?_⟩⟩
    obtain ⟨s1, at1⟩ := made_at nc ndc nec nm0 kp e1 e2
    refine ⟨.ref t, rfl, t, rfl, ⟨_, Same.tup s1 ht⟩, for_it (walk_tup (xs := zs.map V.str)) (fun i σ H' => Same H H' ∧ ∃ c y2, LkAt CL H' c (srt (zs.take i)) ∧ σ = [some (.ref t), some (.ref c), y2]) ⟨s1, c, none, at1, rfl⟩ (fun i σ H' _ hP => Same.tup hP.1 ht) (fun i v σ H4 H5 hi hP hY => ?_) (fun σ H4 hP => ?_)⟩
    · obtain ⟨rfl, hv⟩ := hY
      obtain ⟨s4, c, y2, at_, rfl⟩ := hP
      obtain ⟨z, hz, rfl⟩ := at_map hv
      have nm1 : ∀ u ∈ [z], isNm u = true := fun u hu => by rw [List.mem_singleton.mp hu]; exact nm z (List.mem_of_getElem? hz)
      refine ⟨.ref c, rfl, .str z, rfl, fun d dd nd ndd ned => ⟨d, dd, [z], rfl, upd_same, nm1, by show 1 < 64; decide, fun H6 t6 kp e1 e2 => ⟨rfl, ?_⟩⟩⟩
      obtain ⟨s6, at6⟩ := made_at nd ndd ned nm1 kp e1 e2
      have at5 := at_.same s6
      obtain ⟨⟨d1, t1, g1, _⟩, _, _⟩ := id at5
      obtain ⟨⟨d2, t2, g2, _⟩, _, _⟩ := id at6
      refine ⟨c, d1, _, d, d2, _, rfl, rfl, g1, g2, c, d, _, _, rfl, at5, at6, ?_, fun H7 e s7 at7 => ⟨s4.trans (s6.trans s7), e, some (.str z), ?_, rfl⟩⟩
      · have l1 := len_srt (zs.take i)
        have l2 := len_srt [z]
        rw [List.length_take] at l1
        simp only [List.length_singleton] at l2
        omega
      · have e1 : gOr (srt (zs.take i)) (srt [z]) = srt (zs.take (i + 1)) := by
          unfold gOr
          refine srt_eq fun u => ?_
          rw [take_next1 hz, List.mem_append, List.mem_append, mem_srt, mem_srt]
        rw [e1] at at7
        exact at7
    · obtain ⟨s4, c, y2, at_, rfl⟩ := hP
      rw [List.length_map, List.take_length] at at_
      exact ⟨.ref c, rfl, q _ c s4 at_⟩
end
end Lw
-- fit
set_option Elab.async false
set_option linter.all false
set_option maxRecDepth 100000
set_option maxHeartbeats 4000000
namespace Lw
open PySem PySem.Spec PyProof.Rows L2 TxS LkO Lk
/-- the room that a door adds -/
def addOf (b : BldD) (p : PersonD) (rooms : List Str) (d : DoorD) : Option Str :=
  if keyOk d.key (heldOf b p rooms) = true then (if decide (d.a ∈ rooms) && !decide (d.b ∈ rooms) then some d.b else if d.both && decide (d.b ∈ rooms) && !decide (d.a ∈ rooms) then some d.a else none) else none
theorem add_some {b : BldD} {p : PersonD} {rooms : List Str} {d : DoorD} {e : Str} (h : addOf b p rooms d = some e) : keyOk d.key (heldOf b p rooms) = true ∧ ∃ r, (r, e) ∈ waysOf d ∧ r ∈ rooms ∧ e ∉ rooms := by
  unfold addOf at h
  split at h
  · rename_i hk
    refine ⟨hk, ?_⟩
    split at h
    · rename_i h1
      cases h
      rw [Bool.and_eq_true] at h1
      exact ⟨d.a, List.mem_cons_self, of_decide_eq_true h1.1, by simpa using h1.2⟩
    · split at h
      · rename_i h2
        cases h
        rw [Bool.and_eq_true, Bool.and_eq_true] at h2
        refine ⟨d.b, ?_, of_decide_eq_true h2.1.2, by simpa using h2.2⟩
        unfold waysOf
        rw [h2.1.1]
        simp
      · cases h
  · cases h
theorem add_none {b : BldD} {p : PersonD} {rooms : List Str} {d : DoorD} (h : addOf b p rooms d = none) (hk : keyOk d.key (heldOf b p rooms) = true) {r e : Str} (hw : (r, e) ∈ waysOf d) (hr : r ∈ rooms) : e ∈ rooms := by
  unfold addOf at h
  rw [if_pos hk] at h
  split at h
  · cases h
  · rename_i h1
    split at h
    · cases h
    · rename_i h2
      unfold waysOf at hw
      rcases List.mem_cons.mp hw with z | z
      · cases z
        by_cases he : d.b ∈ rooms
        · exact he
        · exact absurd (by rw [decide_eq_true hr, decide_eq_false he]; rfl) h1
      · cases hb : d.both with
        | false =>
          rw [hb] at z
          cases z
        | true =>
          rw [hb] at z
          have z := List.mem_singleton.mp z
          cases z
          by_cases he : d.a ∈ rooms
          · exact he
          · exact absurd (by rw [hb, decide_eq_true hr, decide_eq_false he]; rfl) h2
/-- no door adds a room any more -/
theorem adds_done {b : BldD} {p : PersonD} {ls rooms : List Str} (h0 : p.a ∈ rooms) (h : ∀ q ∈ b.doors, q.1 ∉ ls → addOf b p rooms q.2 = none) {z : Str} (hz : Rch b p ls z) : z ∈ rooms := by
  induction hz with
  | start => exact h0
  | @free n d r e hq hn hd hw _ ih => exact add_none (h _ hq hn) (by show keyOk d.key _ = true; rw [hd]; rfl) hw ih
  | @got n d r e z hq hn hd hc hw _ ih => exact add_none (h _ hq hn) (by show keyOk d.key _ = true; rw [hd]; exact decide_eq_true (mem_held.mpr (.inl hc))) hw ih
  | @found n d r e z room hq hn hd hk hw _ _ ih1 ih2 => exact add_none (h _ hq hn) (by show keyOk d.key _ = true; rw [hd]; exact decide_eq_true (mem_held.mpr (.inr ⟨room, hk, ih1⟩))) hw ih2
theorem add_sound {b : BldD} {p : PersonD} {ls rooms : List Str} (h : ∀ z ∈ rooms, Rch b p ls z) {q : Str × DoorD} (hq : q ∈ b.doors) (hn : q.1 ∉ ls) {e : Str} (ha : addOf b p rooms q.2 = some e) : Rch b p ls e := by
  obtain ⟨hk, r, hw, hr, _⟩ := add_some ha
  obtain ⟨n, d⟩ := q
  cases hd : d.key with
  | none => exact .free hq hn hd hw (h r hr)
  | some z =>
    have hk : keyOk d.key (heldOf b p rooms) = true := hk
    rw [hd] at hk
    rcases mem_held.mp (of_decide_eq_true hk) with c | ⟨room, h1, h2⟩
    · exact .got hq hn hd c hw (h r hr)
    · exact .found hq hn hd h1 hw (h room h2) (h r hr)
theorem left_add {b : BldD} (ok : b.ok) {p : PersonD} {rooms : List Str} {q : Str × DoorD} (hq : q ∈ b.doors) {e : Str} (ha : addOf b p rooms q.2 = some e) : leftOf b (rooms ++ [e]) < leftOf b rooms := by
  obtain ⟨_, r, hw, _, hne⟩ := add_some ha
  unfold leftOf
  refine filt_lt (z := e) (ways_in ok (n := q.1) (d := q.2) hq hw).2 (fun y hy => ?_) (by simp [hne]) (by simp)
  simp only [List.mem_append, Bool.not_eq_eq_eq_not, Bool.not_true, decide_eq_false_iff_not, not_or] at hy ⊢
  exact hy.1
section
variable {P : Program} {w : World} {K : PySem.W.Frag} {mg : Str → Option Value} {base : Heap}
/-! ### _law_adds -/
def spAdds (K : PySem.W.Frag) : Sp := fun vs H Q _ => ∃ (t l : Addr) (b : BldD) (n : Str) (p : PersonD) (rooms : List Str) (m : Str) (d : DoorD), vs = [.ref t, .str n, .ref l, .str m] ∧ DrAt H t b ∧ b.people.lookup n = some p ∧ SqL K H l (rooms.map V.str) ∧ b.doors.lookup m = some d ∧ Q (oV (addOf b p rooms d)) H
end
end Lw
set_option Elab.async false
set_option linter.all false
set_option maxRecDepth 100000
set_option maxHeartbeats 4000000
namespace Lw
open PySem PySem.Spec PyProof.Rows L2 TxS LkO Lk LkG
/-- o.m(..), an error of it going to W -/
def tMtS (C : Addr) (m : Str) (sp : Sp) (E : L2.St → XK) (ta : TE) (t : TA) : TE := fun σ H Q => ta σ H fun x H1 => ∃ a dx fs, x = .ref a ∧ H1 a = some (.ins C dx fs) ∧ fs.lookup m = none ∧ t σ H1 fun vs H2 => sp (x :: vs) H2 Q (E σ)
theorem pe_mtS {X : Cx} {CX : CXT} {k : Nat} {f C : Addr} {fd : FuncData} {ps : List Str} {sp : Sp} {E : L2.St → XK} {m : Str} {pos apos : Pos} {e o : Expr} {es : List Expr} {ta : TE} {t : TA} {pl : Sem Bool} (he : PE X o ta) (c : Cls X.K C) (hm : Meth X.K C m f) (F : FnOk X.prog X.w X.K X.mg X.base CX k f fd ps sp) (hr : Room k X.A) (hb : Binds X.K fd ps []) (hx : ∀ σ, PassesAt CX X σ (E σ)) (ha : PA X (e :: es) t)
    (hst : starEach (e :: es) X.env = (false, eval e X.env) :: starEach es X.env := by rfl) (hpl : (backTo pos (starEach es X.env)).any (·.1) = false := by rfl)
    (ht : eval (.Call (.Attribute o m apos) (e :: es) [] pos) X.env = (do
      let ov ← eval o X.env
      standAt apos.atName
      let (f, first) ← holding [ov] (getMethod ov m pl)
      callWith pos f first (backTo pos (starEach (e :: es) X.env)) (backToKw pos (keywordEach [] X.env))) := by rfl) :
    PE X (.Call (.Attribute o m apos) (e :: es) [] pos) (tMtS C m sp E ta t) := by
  refine ⟨fun pins s σ H Q I h => ?_⟩
  refine PySem.W.methodCall_KW (pl := pl) (thn (he.run pins s σ H _ I h) fun u s1 ⟨x, H1, I1, rx, a, dx, fs, ex, ea, l, q⟩ => ?_) ht
  subst ex
  obtain rfl : u = Value.ref a := rx
  refine getmeth_ok I1 ea c hm l ?_
  refine PySem.W.callWith_K (first := [.ref a]) (h₀ := X.base) I.ok.mod.kin hm.kp (thn (ha.run pos pins s1 σ H1 _ I1 q) fun us s2 ⟨vs, H2, I2, r, q2⟩ => ⟨I2.kIn, ?_⟩) hst hpl
  exact run_fnS (us := .ref a :: us) (vs := .ref a :: vs) F hr hb (hx σ) I2 (.cons rfl r) q2
/-- a method that can raise -/
structure MtX (P : Program) (w : World) (K : PySem.W.Frag) (mg : Str → Option Value) (base : Heap) (k : Nat) (C : Addr) (x : Str) (ps : List Str) (sp : Sp) : Prop where
  ex : ∃ f fd, Meth K C x f ∧ Binds K fd ps [] ∧ FnOk P w K mg base (L2.CX P w) k f fd ps sp
theorem dec_strs (x y : Str) : decide (V.str x = V.str y) = decide (x = y) := decide_eq_decide.mpr ⟨fun h => V.str.inj h, fun h => by rw [h]⟩
/-- the keys that the law counts -/
def heldL (b : BldD) (p : PersonD) (rooms : List Str) : List Str := (b.keys.filter fun q => decide (q.1 ∈ p.carried) || decide (q.2 ∈ rooms)).map (·.1)
theorem heldL_mem {b : BldD} (ok : b.ok) {p : PersonD} {rooms : List Str} {z : Str} (hz : z ∈ b.keys.map (·.1)) : z ∈ heldL b p rooms ↔ z ∈ heldOf b p rooms := by
  obtain ⟨room, hl⟩ := look_name hz
  rw [mem_held]
  unfold heldL
  rw [List.mem_map]
  constructor
  · rintro ⟨q, hq, rfl⟩
    obtain ⟨h1, h2⟩ := List.mem_filter.mp hq
    rcases Bool.or_eq_true_iff.mp h2 with c | c
    · exact .inl (of_decide_eq_true c)
    · exact .inr ⟨q.2, look_at ok.knd h1, of_decide_eq_true c⟩
  · intro h
    refine ⟨(z, room), List.mem_filter.mpr ⟨look_mem hl, ?_⟩, rfl⟩
    rcases h with c | ⟨room', e, c⟩
    · exact Bool.or_eq_true_iff.mpr (.inl (decide_eq_true c))
    · rw [hl] at e
      cases e
      exact Bool.or_eq_true_iff.mpr (.inr (decide_eq_true c))
section
variable {P : Program} {w : World} {K : PySem.W.Frag} {mg : Str → Option Value} {base : Heap} {CD CP CB CL CW CN : Addr}
/-! ### _law_held -/
def spLHeld (K : PySem.W.Frag) : Sp := fun vs H Q _ => ∃ (t l : Addr) (b : BldD) (n : Str) (p : PersonD) (rooms : List Str), vs = [.ref t, .str n, .ref l] ∧ DrAt H t b ∧ b.people.lookup n = some p ∧ SqL K H l (rooms.map V.str) ∧ ∀ H' m, Same H H' → H m = none → H' m = some (.lst ((heldL b p rooms).map V.str)) → Q (.ref m) H'
abbrev nLHeld : List Str := ["_law_drawn_here", "_law_name", "_law_rooms", "_law_tool"]
theorem scLHeld : FnScope nLHeld ["_law_drawn_here", "_law_name", "_law_rooms"] (defScope s__law_held) := ⟨rfl, rfl, rfl, by decide +kernel, rfl, by decide +kernel, by decide +kernel⟩
theorem ok_lHeld {f : Addr} {fd : FuncData} {k : Nat} (F : Fun K "_law_held" "_law_held" s__law_held f fd) : FnOk P w K mg base CX0 (k + 1) f fd ["_law_drawn_here", "_law_name", "_law_rooms"] (spLHeld K) := by
  refine F.ok scLHeld (fun vs H Q E h => ?_) (fun cdv A outer s H vs Q E hr h => ?_)
  · obtain ⟨t, l, b, n, p, rooms, rfl, _⟩ := h
    rfl
  · obtain ⟨t, l, b, n, p, rooms, rfl, hb, hn, hl, q⟩ := h
    obtain ⟨⟨r, k, dd, pd, ok, od, op, kvs, ds, ps, I⟩, bok⟩ := id hb
    refine ⟨_, (pss_one (ps_ret (pe_lc (own := [("_law_tool", 3)]) (g := (gName 3)) (tt := (tOr (tTest (tOp (rIn K false) (tVar 3) (tOp (rIxT K) (tDGet (tOp (rIxT K) (tVar 0) (tC (.int 3))) (tVar 1)) (tC (.int 1))))) (tTest (tOp (rIn K false) (tDGet (tOp (rIxT K) (tVar 0) (tC (.int 1))) (tVar 3)) (tVar 2))))) (te := (tVar 3)) rfl scLHeld.nd  (pi_keys (pe_ix ix_tup (pv 0) pe_int (fun _ _ => rfl))) (blkOk_by (N := nLHeld) (sc := defScope s__law_held) (by decide +kernel)) (fun _ _ _ _ _ => (pg_name (i := 3) scLHeld.nd rfl (Or.inl rfl))) (fun _ _ _ _ _ => (pts_one (PW.pt (pw_or (pt_cmpR (r := (rIn K false)) op_in_seq (pv 3) (pe_ix ix_tup (pe_dget (hu_of hr) (pe_ix ix_tup (pv 0) pe_int (fun _ _ => rfl)) (pv 1) (fun _ _ => rfl)) pe_int (fun _ _ => rfl)) rfl) (pw_or1 (pt_cmpR (r := (rIn K false)) op_in_seq (pe_dget (hu_of hr) (pe_ix ix_tup (pv 0) pe_int (fun _ _ => rfl)) (pv 3) (fun _ _ => rfl)) (pv 2) rfl)))))) (fun _ _ _ _ _ => (pv 3))))), ?_⟩
    obtain ⟨v2, hv2, ⟨tp, t1, t2, t3, rfl, htp, h1, h2, h3⟩⟩ := I.peopleT.val hn
    have sqt : ∀ {H' : Hp}, Same H H' → SqT K H' t [.ref r, .ref k, .ref dd, .ref pd] := fun s' => .inl (.inl (s' _ _ I.ob))
    have k3 := bok.k3
    refine ⟨.ref t, rfl, t, _, 1, _, rfl, rfl, sqt (Same.refl _), rfl, k, ok, rfl, .inl ⟨kvs, I.keys, fun D nD => lc_mf (walk_keys (kvs := kvs)) b.keys (fun q => decide (q.1 ∈ p.carried) || decide (q.2 ∈ rooms)) (fun q => .str q.1) I.keysT.len nD (by omega) (fun H' s' => s' _ _ I.keys) (fun i u v H2 H3 Kt Kf hz s2 hY kt kf => ?_) (fun H2 s2 eD => ?_)⟩⟩
    · obtain ⟨rfl, k0, v0, hx, rfl⟩ := hY
      obtain ⟨v1, hv1, ev1⟩ := I.keysT.get hz
      rw [hv1] at hx
      cases hx
      have hlk := look_at bok.knd (List.mem_of_getElem? hz)
      obtain ⟨v3, hv3, ev3⟩ := I.keysT.val hlk
      have ev3 : v3 = .str u.2 := ev3
      subst ev3
      refine ⟨rfl, .str u.1, rfl, .ref t, rfl, t, _, 3, _, rfl, rfl, sqt s2, rfl, .str n, rfl, pd, .ref tp, rfl, .inl ⟨ps, .inr n, .inr ⟨op, s2 _ _ I.people⟩, rfl, hv2.symm⟩, tp, _, 1, _, rfl, rfl, .inl (.inl (s2 _ _ htp)), rfl, t1, _, rfl, .inr (.inl (.inl (s2 _ _ h1))), rfl, Lk.flat_strs _, _, rfl, ?_⟩
      rw [inV_str]
      refine ite2 (fun e1 => ?_) (fun e1 => ?_)
      · refine ⟨.str u.1, rfl, kt ?_ _ (Same.refl _)⟩
        rw [show decide (u.1 ∈ p.carried) = true from e1]
        rfl
      · refine ⟨.ref t, rfl, t, _, 1, _, rfl, rfl, sqt s2, rfl, .str u.1, rfl, k, .str u.2, rfl, .inl ⟨kvs, .inr u.1, .inr ⟨ok, s2 _ _ I.keys⟩, rfl, hv3.symm⟩, .ref l, rfl, l, _, rfl, .inl (s2.seq hl), rfl, Lk.flat_strs rooms, _, rfl, ?_⟩
        rw [inV_str]
        have e1 : decide (u.1 ∈ p.carried) = false := Bool.eq_false_iff.mpr e1
        rw [e1, Bool.false_or] at kt kf
        refine ite2 (fun e2 => ?_) (fun e2 => ?_)
        · exact ⟨.str u.1, rfl, kt e2 _ (Same.refl _)⟩
        · exact kf (Bool.eq_false_iff.mpr e2) _ (Same.refl _)
    · refine q _ D s2 nD ?_
      unfold heldL
      rw [List.map_map]
      exact eD
/-! ### _law_behind -/
def spLBeh (K : PySem.W.Frag) : Sp := fun vs H Q _ => ∃ (t lk l : Addr) (b : BldD) (n : Str) (p : PersonD) (ls rooms : List Str) (m : Str) (d : DoorD), vs = [.ref t, .str n, .ref lk, .ref l, .str m] ∧ DrAt H t b ∧ b.people.lookup n = some p ∧ SqT K H lk (ls.map V.str) ∧ SqL K H l (rooms.map V.str) ∧ rooms ≠ [] ∧ b.doors.lookup m = some d ∧ ∀ H', Same H H' → Q (oV (nextOf b p ls rooms (m, d))) H'
abbrev nLBeh : List Str := ["_law_drawn_here", "_law_name", "_law_locked", "_law_rooms", "_law_one", "_law_start", "_law_end", "_law_tool", "_law_twice", "_law_worth"]
theorem scLBeh : FnScope nLBeh ["_law_drawn_here", "_law_name", "_law_locked", "_law_rooms", "_law_one"] (defScope s__law_behind) := ⟨rfl, rfl, rfl, by decide +kernel, rfl, by decide +kernel, by decide +kernel⟩
theorem ok_lBeh {f : Addr} {fd : FuncData} (F : Fun K "_law_behind" "_law_behind" s__law_behind f fd) (GH : Fn P w K mg base 1 "_law_held" ["_law_drawn_here", "_law_name", "_law_rooms"] (spLHeld K)) : FnOk P w K mg base CX0 2 f fd ["_law_drawn_here", "_law_name", "_law_locked", "_law_rooms", "_law_one"] (spLBeh K) := by
  refine F.ok scLBeh (fun vs H Q E h => ?_) (fun cdv A outer s H vs Q E hr h => ?_)
  · obtain ⟨t, lk, l, b, n, p, ls, rooms, m, d, rfl, _⟩ := h
    rfl
  · obtain ⟨t, lk, l, b, n, p, ls, rooms, m, d, rfl, hb, hn, hlk, hl, ne, hm, q⟩ := h
    obtain ⟨⟨r, k, dd, pd, ok, od, op, kvs, ds, ps, I⟩, bok⟩ := id hb
    refine ⟨_, (pss_cons (ps_asg (pe_dget (hu_of hr) (pe_ix ix_tup (pv 0) pe_int (fun _ _ => rfl)) (pv 4) (fun _ _ => rfl)) (pg_tup rfl (pgs_cons (pg_name (i := 5) scLBeh.nd rfl (Or.inl rfl)) (pgs_cons (pg_name (i := 6) scLBeh.nd rfl (Or.inl rfl)) (pgs_cons (pg_name (i := 7) scLBeh.nd rfl (Or.inl rfl)) (pgs_cons (pg_name (i := 8) scLBeh.nd rfl (Or.inl rfl)) (pgs_cons (pg_name (i := 9) scLBeh.nd rfl (Or.inl rfl)) pgs_nil)))))))
      (pss_cons (ps_if (PW.pt (pw_or (pt_cmpR (r := (rIn K false)) op_in_seq (pv 4) (pv 2) rfl) (pw_or1 (PW.pt (pw_and (pt_cmp (pc_notN (pv 7))) (pw_and1 (pt_cmpR (r := (rIn K true)) op_notIn_seq (pv 7) (pe_fn GH hr (by rfl) (pa_cons (pv 0) (pa_cons (pv 1) (pa_cons (pv 3) pa_nil)))) rfl))))))) (pss_one (ps_ret pe_non)) pss_nil)
      (pss_cons (ps_if (pt_cmpR op_eq (pe_ix ix_list (pv 3) (pe_un un_neg pe_int) (fun _ _ => rfl)) (pv 5) (nomark _)) (pss_one (ps_ret (pv 6))) pss_nil)
      (pss_one (ps_ret (pe_ifExp (PW.pt (pw_and (pt_truth (pv 8) (fun _ => rfl)) (pw_and1 (pt_cmpR op_eq (pe_ix ix_list (pv 3) (pe_un un_neg pe_int) (fun _ _ => rfl)) (pv 6) (nomark _))))) (pv 5) pe_non)))))), ?_⟩
    obtain ⟨u, hu1, ⟨tr, rfl, htr⟩⟩ := I.doorsT.val hm
    have sqt : SqT K H t [.ref r, .ref k, .ref dd, .ref pd] := .inl (.inl I.ob)
    refine ⟨.ref t, rfl, t, _, 2, _, rfl, rfl, sqt, rfl, .str m, rfl, dd, .ref tr, rfl, .inl ⟨ds, .inr m, .inr ⟨od, I.doors⟩, rfl, hu1.symm⟩, tr, _, rfl, .inl (.inl htr), rfl, _, _, rfl, _, _, rfl, _, _, rfl, _, _, rfl, _, _, rfl, rfl, ?_⟩
    refine ⟨.str m, rfl, .ref lk, rfl, lk, _, rfl, .inr hlk, rfl, Lk.flat_strs ls, _, rfl, ?_⟩
    rw [inV_str]
    refine ite2 (fun e0 => ?_) (fun e0 => ?_)
    · have q0 := q _ (Same.refl _)
      unfold nextOf passOf at q0
      rw [if_neg (by rw [show decide (m ∈ ls) = true from e0]; simp)] at q0
      exact iteT q0
    · have e0 : decide (m ∈ ls) = false := Bool.eq_false_iff.mpr e0
      cases hk : d.key with
      | none =>
        have hp : passOf ls (heldOf b p rooms) (m, d) = true := by
          unfold passOf
          rw [show decide ((m, d).1 ∈ ls) = false from e0, show (m, d).2.key = none from hk]
          rfl
        refine ⟨.non, rfl, false, rfl, iteF (iteF ?_)⟩
        have q1 := q _ (Same.refl _)
        unfold nextOf at q1
        rw [if_pos hp] at q1
        unfold behD at q1
        refine ⟨.ref l, rfl, 1, rfl, l, _, -1, _, rfl, rfl, hl, atI_end ne, .str d.a, rfl, rfl, _, rfl, ?_⟩
        rw [dec_strs]
        refine ite2 (fun e1 => ?_) (fun e1 => ?_)
        · rw [if_pos (of_decide_eq_true e1).symm] at q1
          exact ⟨.str d.b, rfl, q1⟩
        · rw [if_neg (fun z => e1 (decide_eq_true (Eq.symm z)))] at q1
          refine ⟨.bl d.both, rfl, d.both, rfl, ite2 (fun t1 => ?_) (fun t1 => ?_)⟩
          · refine ⟨.ref l, rfl, 1, rfl, l, _, -1, _, rfl, rfl, hl, atI_end ne, .str d.b, rfl, rfl, _, rfl, ?_⟩
            rw [dec_strs]
            refine ite2 (fun t2 => ?_) (fun t2 => ?_)
            · rw [if_pos ⟨t1, (of_decide_eq_true t2).symm⟩] at q1
              exact ⟨.str d.a, rfl, q1⟩
            · rw [if_neg (fun z => t2 (decide_eq_true (Eq.symm z.2)))] at q1
              exact q1
          · rw [if_neg (fun z => t1 z.1)] at q1
            exact iteF q1
      | some z =>
        have hz : z ∈ b.keys.map (·.1) := by
          obtain ⟨_, _, _, _, z5⟩ := bok.doors _ (look_mem hm)
          exact z5 z hk
        refine ⟨.str z, rfl, true, rfl, iteT ⟨.str z, rfl, .ref t, rfl, .str n, rfl, .ref l, rfl, t, l, b, n, p, rooms, rfl, hb, hn, hl, fun H1 mm s1 nmm em => ⟨mm, _, rfl, .inl (.inl (.inl em)), rfl, Lk.flat_strs _, _, rfl, ?_⟩⟩⟩
        rw [inV_str]
        have hk2 : passOf ls (heldOf b p rooms) (m, d) = decide (z ∈ heldL b p rooms) := by
          unfold passOf
          rw [show decide ((m, d).1 ∈ ls) = false from e0, show (m, d).2.key = some z from hk]
          show (true && decide (z ∈ heldOf b p rooms)) = _
          rw [Bool.true_and]
          exact decide_eq_decide.mpr (heldL_mem bok hz).symm
        refine ite2 (fun e2 => ?_) (fun e2 => ?_)
        · have e2 : (!decide (z ∈ heldL b p rooms)) = true := e2
          have q0 := q _ s1
          unfold nextOf at q0
          rw [hk2, if_neg (by simpa using e2)] at q0
          exact q0
        · have hp : passOf ls (heldOf b p rooms) (m, d) = true := by
            rw [hk2]
            have e2 : ¬ (!decide (z ∈ heldL b p rooms)) = true := e2
            simpa using e2
          have q1 := q _ s1
          unfold nextOf at q1
          rw [if_pos hp] at q1
          unfold behD at q1
          refine ⟨.ref l, rfl, 1, rfl, l, _, -1, _, rfl, rfl, s1.seq hl, atI_end ne, .str d.a, rfl, rfl, _, rfl, ?_⟩
          rw [dec_strs]
          refine ite2 (fun e1 => ?_) (fun e1 => ?_)
          · rw [if_pos (of_decide_eq_true e1).symm] at q1
            exact ⟨.str d.b, rfl, q1⟩
          · rw [if_neg (fun z => e1 (decide_eq_true (Eq.symm z)))] at q1
            refine ⟨.bl d.both, rfl, d.both, rfl, ite2 (fun t1 => ?_) (fun t1 => ?_)⟩
            · refine ⟨.ref l, rfl, 1, rfl, l, _, -1, _, rfl, rfl, s1.seq hl, atI_end ne, .str d.b, rfl, rfl, _, rfl, ?_⟩
              rw [dec_strs]
              refine ite2 (fun t2 => ?_) (fun t2 => ?_)
              · rw [if_pos ⟨t1, (of_decide_eq_true t2).symm⟩] at q1
                exact ⟨.str d.a, rfl, q1⟩
              · rw [if_neg (fun z => t2 (decide_eq_true (Eq.symm z.2)))] at q1
                exact q1
            · rw [if_neg (fun z => t1 z.1)] at q1
              exact iteF q1
/-! ### _law_refused -/
def spLRef (K : PySem.W.Frag) (CD CP CB CL CW : Addr) : Sp := fun vs H Q _ => ∃ (y : Addr) (b : BldD) (p : PersonD) (ls : List Str) (dy x py z l1 l2 : Addr) (passed stops : List Str) (n : Str) (d : DoorD), vs = [.ref y, .str n] ∧ WkIn K CD CP CB CL CW H y b p ls dy x py z l1 l2 passed stops ∧ stops ≠ [] ∧ b.doors.lookup n = some d ∧ nextOf b p ls stops (n, d) = none ∧ ∀ H', Same H H' → Q (.bl true) H'
abbrev nLRef : List Str := ["_law_walk", "_law_one"]
theorem scLRef : FnScope nLRef ["_law_walk", "_law_one"] (defScope s__law_refused) := ⟨rfl, rfl, rfl, by decide +kernel, rfl, by decide +kernel, by decide +kernel⟩
theorem ok_lRef {f : Addr} {fd : FuncData} (F : Fun K "_law_refused" "_law_refused" s__law_refused f fd) (TW : OwnC K mg CW "Walk" wkF) (TN : ExC K mg CN "NoWay") (MX : MtX P w K mg base 6 CW "go" ["self", "name"] (spGoX K CD CP CB CL CW CN)) : FnOk P w K mg base CX0 7 f fd ["_law_walk", "_law_one"] (spLRef K CD CP CB CL CW) := by
  obtain ⟨fg, fdg, mg1, bg, FG⟩ := MX.ex
  refine F.ok scLRef (fun vs H Q E h => ?_) (fun cdv A outer s H vs Q E hr h => ?_)
  · obtain ⟨y, b, p, ls, dy, x, py, z, l1, l2, passed, stops, n, d, rfl, _⟩ := h
    rfl
  · obtain ⟨y, b, p, ls, dy, x, py, z, l1, l2, passed, stops, n, d, rfl, W, ne, hd, hn, q⟩ := h
    refine ⟨_, pss_cons (ps_try_only (tb := fun W => tDrop (tMtS CW "go" (spGoX K CD CP CB CL CW CN) (WE W) (tVar 0) (tCons (tVar 1) tNil))) (ts := fun _ _ _ => tRet (tC (.bl true))) (Wout := fun _ _ _ _ => False) rfl rfl ⟨rfl, by decide, Or.inl TN.g⟩ LamX.takes0
        (fun W pn xe tk _ => pss_one (ps_expr (pe_mtS (pv 0) TW.cl mg1 FG hr bg (fun σ => passAt tk σ) (by exact (pa_cons (pv 1) pa_nil)))))
        (fun _ _ _ _ _ _ _ => pss_one (ps_ret pe_bl)))
      (pss_one (ps_ret pe_bl)), ?_⟩
    refine ⟨.ref y, rfl, y, dy, _, rfl, W.ob, rfl, .str n, rfl, y, b, p, ls, dy, x, py, z, l1, l2, passed, stops, n, d, rfl, W, ne, hd, hn, fun H1 s1 => ?_⟩
    exact ⟨true, TN.e, fun _ a na => q _ s1, fun z => by cases z⟩
end
end Lw
set_option Elab.async false
set_option linter.all false
set_option maxRecDepth 100000
set_option maxHeartbeats 4000000
namespace Lw
open PySem PySem.Spec PyProof.Rows L2 TxS LkO Lk LkG
mutual
theorem eqv_self : ∀ d : PyData, PyData.canLay0 d = true → PyData.eqv d d = true
  | .none, _ => by simp [PyData.eqv]
  | .bool _, _ => by simp [PyData.eqv]
  | .int _, _ => by simp [PyData.eqv]
  | .str _, _ => by simp [PyData.eqv]
  | .list xs, h => by
    rw [PyData.eqv]
    exact eqvAll_self xs (by simpa [PyData.canLay0] using h)
  | .tuple xs, h => by
    rw [PyData.eqv]
    exact eqvAll_self xs (by simpa [PyData.canLay0] using h)
  | .dict _, h => by simp [PyData.canLay0] at h
theorem eqvAll_self : ∀ ds : List PyData, PyData.canLayAll0 ds = true → PyData.eqvAll ds ds = true
  | [], _ => by simp [PyData.eqvAll]
  | d :: r, h => by
    simp only [PyData.canLayAll0, Bool.and_eq_true] at h
    simp only [PyData.eqvAll, eqv_self d h.1, eqvAll_self r h.2, Bool.and_self]
end
theorem ne_self {d : PyData} (h : SeqAt.shaped d = true) : (!PyData.eqv d d) = false := by
  have h2 : (PyData.canLay0 d && decide (PyData.depth d ≤ 64)) = true := h
  rw [Bool.and_eq_true] at h2
  rw [eqv_self d h2.1]
  rfl
theorem rch_le {b : BldD} {p : PersonD} {ls ms : List Str} (h : ∀ z, z ∈ ms → z ∈ ls) {z : Str} (r : Rch b p ls z) : Rch b p ms z := by
  induction r with
  | start => exact .start
  | free a n k w _ ih => exact .free a (fun e => n (h _ e)) k w ih
  | got a n k c w _ ih => exact .got a (fun e => n (h _ e)) k c w ih
  | found a n k l w _ _ ih1 ih2 => exact .found a (fun e => n (h _ e)) k l w ih1 ih2
theorem rch_same {b : BldD} {p : PersonD} {ls ms : List Str} (h : ∀ z, z ∈ ls ↔ z ∈ ms) {z : Str} : Rch b p ls z ↔ Rch b p ms z := ⟨rch_le fun z => (h z).2, rch_le fun z => (h z).1⟩
theorem neV {x y : V} (h : x = y) : (!decide (x = y)) = false := by
  rw [decide_eq_true h]
  rfl
theorem refs_no (ts : List Addr) : ∀ x y z, ts.map V.ref ≠ [.ref x, .int y, .int z] := fun x y z e => by
  rcases ts with _ | ⟨a, _ | ⟨c, r⟩⟩
  · cases e
  · injection e with _ e
    cases e
  · injection e with _ e
    injection e with e _
    cases e
/-! ### what stands while numbers are drawn -/
section
variable {K : PySem.W.Frag} {st sc : Addr} {H H' : Hp}
theorem mv_lk {C a : Addr} {zs : List Str} (h : LkAt C H a zs) (hS : StE K H st sc) (m : Mv K st sc H H') : LkAt C H' a zs := by
  obtain ⟨⟨dx, t, h1, h2⟩, h3, h4⟩ := h
  exact ⟨⟨dx, t, m.at_ hS h1 (fun _ _ _ z => by cases z), m.at_ hS h2 (fun _ _ _ z => by cases z)⟩, h3, h4⟩
theorem mv_door {C : Addr} (hS : StE K H st sc) (m : Mv K st sc H H') (v : V) (d : DoorD) (h : doorR C H v d) : doorR C H' v d := by
  obtain ⟨x, e, ⟨dx, o⟩, ok⟩ := h
  exact ⟨x, e, ⟨dx, m.at_ hS o (fun _ _ _ z => by cases z)⟩, ok⟩
theorem mv_pers {C : Addr} (hS : StE K H st sc) (m : Mv K st sc H H') (v : V) (d : PersonD) (h : persR K C H v d) : persR K C H' v d := by
  obtain ⟨x, e, ⟨dx, t1, t2, t3, o, g1, g2, g3⟩, ok⟩ := h
  exact ⟨x, e, ⟨dx, t1, t2, t3, m.at_ hS o (fun _ _ _ z => by cases z), m.tup hS g1, m.tup hS g2, m.tup hS g3⟩, ok⟩
theorem mv_bld {CD CP CB x : Addr} {b : BldD} (h : BldAt K CD CP CB H x b) (hS : StE K H st sc) (m : Mv K st sc H H') : BldAt K CD CP CB H' x b := by
  obtain ⟨⟨dx, r, k, dn, dd, pn, pd, ok, od, op, kvs, ds, ps, i⟩, hok⟩ := h
  exact ⟨⟨dx, r, k, dn, dd, pn, pd, ok, od, op, kvs, ds, ps, ⟨m.at_ hS i.ob (fun _ _ _ z => by cases z), m.tup hS i.rooms, m.at_ hS i.keys (fun _ _ _ z => by cases z), i.keysT, m.tup hS i.dn, m.at_ hS i.doors (fun _ _ _ z => by cases z), i.doorsT.mono (mv_door hS m), m.tup hS i.pn, m.at_ hS i.people (fun _ _ _ z => by cases z), i.peopleT.mono (mv_pers hS m)⟩⟩, hok⟩
end
end Lw
set_option Elab.async false
set_option linter.all false
set_option maxRecDepth 100000
set_option maxHeartbeats 8000000
namespace LkO
open PySem PySem.Spec PyProof.Rows L2 TxS
section
variable {X : Cx} {CX : CXT} {k : Nat} {f C : Addr} {fd : FuncData} {ps : List Str} {sp : Sp} {E : XK}
/-- a's truth, by __bool__ -/
theorem own_truthB {A : Around} {pins : List (Addr × Obj)} {σ : L2.St} {H : Hp} {s : Shared} {a dx : Addr} {fs : List (Str × V)} {Q : Bool → Hp → Prop} (m : OwnM X.K C f "__bool__")
    (F : FnOk X.prog X.w X.K X.mg X.base CX k f fd ps sp) (hr : Room k A) (fr : A.frames = X.A.frames) (hb : Binds X.K fd ps []) (hx : Passes CX X E) (I : Inv X pins σ H s) (ha : H a = some (.ins C dx fs))
    (h : sp [.ref a] H (fun v H' => ∃ c, v = .bl c ∧ Q c H') E) : wpAny (model X.prog X.w) A (truthy (.ref a)) (TP X pins σ Q) X.xe s := by
  obtain ⟨od, J⟩ := inst_of I ha
  obtain ⟨m0, hF⟩ := I.fr
  refine PySem.W.truthy_K hF I.ok.mod.kin J m.at_ m.fn (thn (run_in1 (vs := [.ref a]) F hr fr hb hx I (.cons rfl .nil) h) fun w s' z => ?_)
  obtain ⟨z0, H', I', rz, c, rfl, q'⟩ := z
  cases rz
  exact ⟨H', I', q'⟩
def rOwnB (C : Addr) (sp : Sp) (E : XK) : List V → Hp → VK → Prop := fun xs H Q => ∃ a dx fs, xs = [.ref a] ∧ H a = some (.ins C dx fs) ∧ sp [.ref a] H (fun v H' => ∃ c, v = .bl c ∧ Q (.bl c) H') E
theorem cr_ownB (m : OwnM X.K C f "__bool__") (F : FnOk X.prog X.w X.K X.mg X.base CX k f fd ps sp) (hr : Room (k + 4) X.A) (hb : Binds X.K fd ps []) (hx : Passes CX X E) :
    CallR X (.type "bool") (rOwnB C sp E) := by
  intro pins s σ H xs us Q I r h
  obtain ⟨a, dx, fs, rfl, ha, q⟩ := h
  rw [Vals.ref1 r]
  refine callType_newIn (S := fun A' R s' => A' = X.A.in1 ∧ s' = s ∧ (∀ b s2, TP X pins σ (fun b H' => Q (.bl b) H') b s2 → R (.ok (.ret (.bool b))) s2) ∧ ∀ e s2, X.xe e s2 → R (.error e) s2) PySem.F.called_bool PySem.F.newNe_bool (PySem.F.typeCall_bool_1 _) (PySem.F.newCall_bool_1 _) (fun obj => PySem.F.args_object_init_2 obj _) PySem.F.entry_bool_new (fun A' R s' hS => ?_) ?_
  · obtain ⟨rfl, rfl, h1, h2⟩ := hS
    unfold Builtin.«bool.__new__»
    refine wpAny_bind (m := isType (Value.type "bool")) (wpAny_of_eq (a := true) (by rfl) ?_)
    dsimp only
    rw [if_neg (by simp)]
    refine wpAny_bind (wpAny_of_eq PySem.F.conv_sub_bool ?_)
    rw [if_neg (by simp)]
    refine wpAny_bind (wpAny_of_eq (a := [Value.ref a]) (by rfl) ?_)
    dsimp only
    refine wpAny_bind (wpAny_mono (own_truthB (A := X.A.in1.in1) (Q := fun b H' => Q (.bl b) H') m F (hr.in1.in1.mono (by omega)) rfl hb hx I ha q) (fun b s2 z => ?_) fun e s2 z => h2 e s2 z)
    exact wpAny_pure (h1 b s2 z)
  · exact ⟨rfl, rfl, fun b s2 z => ⟨PySem.typeIs_bool _ _, let ⟨H', I', q'⟩ := z; ⟨.bl b, H', I', rfl, q'⟩⟩, fun e s2 z => z⟩
theorem passX0 {X : Cx} : Passes (L2.CX X.prog X.w) X E0 := fun _ _ _ _ _ _ _ h => by
  obtain ⟨a, B, H', cls, d, z1, fl, z2, ub, z3, z4, z5, z6⟩ := h
  exact False.elim (by simpa using z6)
end
end LkO
namespace Lw
open PySem PySem.Spec PyProof.Rows L2 TxS LkO Lk LkG
theorem next_mem {b : BldD} {p : PersonD} {zs ls rooms : List Str} {q : Str × DoorD} (h : ∀ u, u ∈ zs ↔ u ∈ ls) : nextOf b p zs rooms q = nextOf b p ls rooms q := by
  unfold nextOf passOf
  rw [decide_eq_decide.mpr (h q.1)]
/-- an operator's method -/
structure OpM (P : Program) (w : World) (K : PySem.W.Frag) (mg : Str → Option Value) (base : Heap) (k : Nat) (C : Addr) (x : Str) (ps : List Str) (sp : Sp) : Prop where
  ex : ∃ f fd, OwnM K C f x ∧ Binds K fd ps [] ∧ FnOk P w K mg base CX0 k f fd ps sp
/-- a generator's method -/
structure GnM (P : Program) (w : World) (K : PySem.W.Frag) (mg : Str → Option Value) (base : Heap) (k : Nat) (C : Addr) (x : Str) (sp : SpG) : Prop where
  ex : ∃ f fd, Meth K C x f ∧ Binds K fd ["self"] [] ∧ GFn P w K mg base k f fd ["self"] sp
section
variable {P : Program} {w : World} {K : PySem.W.Frag} {mg : Str → Option Value} {base : Heap} {CD CP CB CL CW CN : Addr}
def spStands (K : PySem.W.Frag) (CD CP CB CL CW : Addr) : Sp := fun vs H Q _ => ∃ (t lk y lp lr : Addr) (b : BldD) (n : Str) (p : PersonD) (ls zs : List Str) (dy x py z l1 l2 : Addr) (passed rooms : List Str), vs = [.ref t, .str n, .ref lk, .ref y, .ref lp, .ref lr] ∧ DrAt H t b ∧ b.people.lookup n = some p ∧ SqT K H lk (zs.map V.str) ∧ (∀ u, u ∈ zs ↔ u ∈ ls) ∧ WkIn K CD CP CB CL CW H y b p ls dy x py z l1 l2 passed rooms ∧
  SqL K H lp (passed.map V.str) ∧ SqL K H lr (rooms.map V.str) ∧ rooms ≠ [] ∧ passed.length ≤ 1000 ∧ (∀ z ∈ passed, z ∈ b.doors.map (·.1)) ∧ ∀ H', Same H H' → Q (.bl true) H'
abbrev nStands : List Str := ["_law_drawn_here", "_law_name", "_law_locked", "_law_walk", "_law_passed", "_law_rooms", "_law_room", "_law_tool", "_law_due", "_law_one"]
theorem scStands : FnScope nStands ["_law_drawn_here", "_law_name", "_law_locked", "_law_walk", "_law_passed", "_law_rooms"] (defScope s__law_stands) := ⟨rfl, rfl, rfl, by decide +kernel, rfl, by decide +kernel, by decide +kernel⟩
theorem ok_stands {f : Addr} {fd : FuncData} (F : Fun K "_law_stands" "_law_stands" s__law_stands f fd) (B : Blt mg) (TW : OwnC K mg CW "Walk" wkF) (GH : Fn P w K mg base 1 "_law_held" ["_law_drawn_here", "_law_name", "_law_rooms"] (spLHeld K)) (GB : Fn P w K mg base 2 "_law_behind" ["_law_drawn_here", "_law_name", "_law_locked", "_law_rooms", "_law_one"] (spLBeh K))
    (PR : Pr P w K mg base 1 CW "room" (spWRoom K CD CP CB CL CW)) (PP : Pr P w K mg base 1 CW "passed" (spWPassed K CD CP CB CL CW)) (PV : Pr P w K mg base 3 CW "visited" (spWVis K CD CP CB CL CW)) (ML : OpM P w K mg base 1 CW "__len__" ["self"] (spWLen K CD CP CB CL CW)) (MB : OpM P w K mg base 3 CW "__bool__" ["self"] (spWBool K CD CP CB CL CW))
    (MI : OpM P w K mg base 4 CW "__contains__" ["self", "key"] (spWHas K CD CP CB CL CW)) (MA : GnM P w K mg base 6 CW "ahead" (spAhead K CD CP CB CL CW)) :
    FnOk P w K mg base CX0 10 f fd ["_law_drawn_here", "_law_name", "_law_locked", "_law_walk", "_law_passed", "_law_rooms"] (spStands K CD CP CB CL CW) := by
  obtain ⟨fL, fdL, mL, bL, FL⟩ := ML.ex
  obtain ⟨fB, fdB, mB, bB, FB⟩ := MB.ex
  obtain ⟨fI, fdI, mI, bI, FI⟩ := MI.ex
  obtain ⟨fA, fdA, mA, bA, FA⟩ := MA.ex
  refine F.ok scStands (fun vs H Q E h => ?_) (fun cdv A outer s H vs Q E hr h => ?_)
  · obtain ⟨t, lk, y, lp, lr, b, n, p, ls, zs, dy, x, py, z, l1, l2, passed, rooms, rfl, _⟩ := h
    rfl
  · obtain ⟨t, lk, y, lp, lr, b, n, p, ls, zs, dy, x, py, z, l1, l2, passed, rooms, rfl, hb, hn, hlk, hzs, W, hp, hl, ne, few, sub, q⟩ := h
    obtain ⟨⟨r, k, dd, pd, ok, od, op, kvs, ds, ps, I⟩, bok⟩ := id hb
    have hr1 := hr.mono (show 1 ≤ 9 by decide)
    have hr2 := hr.mono (show 2 ≤ 9 by decide)
    have hr3 := hr.mono (show 3 ≤ 9 by decide)
    have hr4 := hr.mono (show 4 ≤ 9 by decide)
    have hr6 := hr.mono (show 6 ≤ 9 by decide)
    have hr7 := hr.mono (show 7 ≤ 9 by decide)
    refine ⟨_, (pss_cons (ps_if (pt_cmpR op_ne (pe_pr PR hr2 TW.cl (pv 3) rfl) (pe_ix ix_list (pv 5) (pe_un un_neg pe_int) (fun _ _ => rfl)) (nomark _)) (pss_one (ps_ret pe_bl)) pss_nil)
      (pss_cons (ps_if (pt_cmpR (op_neD hr.units) (pe_pr PP hr2 TW.cl (pv 3) rfl) (pv 4) (nomark _)) (pss_one (ps_ret pe_bl)) pss_nil)
      (pss_cons (ps_if (pt_cmpR (op_neD hr.units) (pe_pr PV hr4 TW.cl (pv 3) rfl) (pe_lc (own := [("_law_room", 6)]) (g := (gName 6)) (tt := (tTest (tOp (rIn K false) (tVar 6) (tVar 5)))) (te := (tVar 6)) rfl scStands.nd  (pi_tup (pe_ix ix_tup (pv 0) pe_int (fun _ _ => rfl))) (blkOk_by (N := nStands) (sc := defScope s__law_stands) (by decide +kernel)) (fun _ _ _ _ _ => (pg_name (i := 6) scStands.nd rfl (Or.inl rfl))) (fun _ _ _ _ _ => (pts_one (pt_cmpR (r := (rIn K false)) op_in_seq (pv 6) (pv 5) rfl))) (fun _ _ _ _ _ => (pv 6))) (nomark _)) (pss_one (ps_ret pe_bl)) pss_nil)
      (pss_cons (ps_if (PW.pt (pw_or (pt_cmpR op_ne (pe_callB (cr_ownLen (E := E0) mL FL hr2 bL pass0) (by rfl) B.len PySem.boot_len (pa_cons (pv 3) pa_nil)) (pe_callB call_len_seq (by rfl) B.len PySem.boot_len (pa_cons (pv 4) pa_nil)) (nomark _)) (pw_or1 (pt_cmpR op_ne (pe_callTy (cr_ownB (E := E0) mB FB hr7 bB pass0) (by rfl) B.bl PyProof.Rows.boot_bool (pa_cons (pv 3) pa_nil)) (pe_cmpR (r := (rIn K false)) op_in_seq (pe_ix ix_list (pv 5) (pe_un un_neg pe_int) (fun _ _ => rfl)) (pe_ix ix_tup (pe_dget (hu_of hr) (pe_ix ix_tup (pv 0) pe_int (fun _ _ => rfl)) (pv 1) (fun _ _ => rfl)) pe_int (fun _ _ => rfl)) rfl) (nomark _))))) (pss_one (ps_ret pe_bl)) pss_nil)
      (pss_cons (ps_if (pt_not (pt_val (pe_callB (cr_all rfl) (by rfl) B.all PyProof.Rows.boot_all (pa_cons (pe_lc (own := [("_law_tool", 7)]) (g := (gName 7)) (tt := tYes) (te := (tOp rEq (tOp _ (tVar 7) (tVar 3)) (tOp (rIn K false) (tVar 7) (tCall (spLHeld K) [] E0 (tCons (tVar 0) (tCons (tVar 1) (tCons (tVar 5) tNil))))))) rfl scStands.nd  (pi_keys (pe_ix ix_tup (pv 0) pe_int (fun _ _ => rfl))) (blkOk_by (N := nStands) (sc := defScope s__law_stands) (by decide +kernel)) (fun _ _ _ _ _ => (pg_name (i := 7) scStands.nd rfl (Or.inl rfl))) (fun _ _ _ _ _ => pts_nil) (fun _ _ _ _ _ => (pe_cmpR op_eq (pe_cmpR (op_ownIn (E := E0) mI FI hr4 bI pass0) (pv 7) (pv 3) rfl) (pe_cmpR (r := (rIn K false)) op_in_seq (pv 7) (pe_fn GH hr1 (by rfl) (pa_cons (pv 0) (pa_cons (pv 1) (pa_cons (pv 5) pa_nil)))) rfl) (nomark _)))) pa_nil)))) (pss_one (ps_ret pe_bl)) pss_nil)
      (pss_cons (ps_setLc (i := 8) (own := [("_law_one", 9)]) (g := (gName 9)) (tt := (tB (tNotN (tCall (spLBeh K) [] E0 (tCons (tVar 0) (tCons (tVar 1) (tCons (tVar 2) (tCons (tVar 5) (tCons (tVar 9) tNil))))))))) (te := (tVar 9)) rfl scStands.nd rfl rfl (sw_true rfl rfl rfl (by decide +kernel)) (pi_keys (pe_ix ix_tup (pv 0) pe_int (fun _ _ => rfl))) (blkOk_by (N := nStands) (sc := defScope s__law_stands) (by decide +kernel)) (fun _ _ _ _ _ => (pg_name (i := 9) scStands.nd rfl (Or.inl rfl))) (fun _ _ _ _ _ => (pts_one (pt_cmp (pc_notN (pe_fn GB hr2 (by rfl) (pa_cons (pv 0) (pa_cons (pv 1) (pa_cons (pv 2) (pa_cons (pv 5) (pa_cons (pv 9) pa_nil)))))))))) (fun _ _ _ _ _ => (pv 9)))
      (pss_one (ps_ret (pe_cmpR (op_eqD hr.units) (pe_listG (E := E0) (pgen_meth0 (E := E0) (pv 3) TW.cl mA FA hr6 bA .nil) passX0 (fun _ _ _ h => h.elim) hr (by rfl) B.lst PyProof.Rows.boot_list) (pv 8) (nomark _)))))))))), ?_⟩
    obtain ⟨v2, hv2, ⟨tp, t1, t2, t3, rfl, htp, h1, h2, h3⟩⟩ := I.peopleT.val hn
    have sqt : ∀ {H' : Hp}, Same H H' → SqT K H' t [.ref r, .ref k, .ref dd, .ref pd] := fun s' => .inl (.inl (s' _ _ I.ob))
    have pok : p.ok := (bok.people _ (look_mem hn)).2.1
    have r6 := bok.r6
    have k3 := bok.k3
    have d8 := bok.d8
    have nmp : ∀ u ∈ passed, PyData.strOk u = true := fun u hu => by
      obtain ⟨q', hq', rfl⟩ := List.mem_map.mp (sub u hu)
      exact nm_ok (bok.doors q' hq').1
    -- the room
    refine ⟨.ref y, rfl, y, dy, _, rfl, W.ob, y, b, p, ls, dy, x, py, z, l1, l2, passed, rooms, rfl, W, ne, .ref lr, rfl, 1, rfl, lr, _, -1, _, rfl, rfl, hl, atI_end ne, rfl, _, rfl, ?_⟩
    rw [neV rfl]
    refine iteF ?_
    -- the doors
    refine ⟨.ref y, rfl, y, dy, _, rfl, W.ob, y, b, p, ls, dy, x, py, z, l1, l2, passed, rooms, rfl, W, fun m1 nm1 => ?_⟩
    have s1 := same_new (o := .lst (passed.map V.str)) nm1
    refine ⟨.ref lp, rfl, _, _, .lst (.inl (.inl upd_same)) (dp_strs _), .lst (s1.seq hp) (dp_strs _), shaped_strsL nmp, shaped_strsL nmp, _, rfl, ?_⟩
    rw [ne_self (shaped_strsL nmp)]
    refine iteF ?_
    have W1 := W.same s1
    generalize (upd H m1 (.lst (passed.map V.str))) = H1 at s1 W1
    -- the rooms visited
    refine ⟨.ref y, rfl, y, dy, _, rfl, W1.ob, y, b, p, ls, dy, x, py, z, l1, l2, passed, rooms, rfl, W1, fun H2 m2 s2 nm2 em2 => ?_⟩
    have s02 := s1.trans s2
    refine ⟨.ref t, rfl, t, _, 0, _, rfl, rfl, sqt s02, rfl, r, rfl, ⟨_, .inl (.inl (s02 _ _ I.rooms))⟩, fun D nD => lc_mf (walk_tup (xs := b.rooms.map V.str)) b.rooms (fun u => decide (u ∈ rooms)) V.str (by rw [List.length_map]) nD (by omega) (fun H' s' => .inl (.inl (s' _ _ (s02 _ _ I.rooms)))) (fun i u v H3 H4 Kt Kf hz s3 hY kt kf => ?_) (fun H3 s3 eD => ?_)⟩
    · obtain ⟨rfl, hx⟩ := hY
      rw [List.getElem?_map, hz] at hx
      cases hx
      refine ⟨rfl, .str u, rfl, .ref lr, rfl, lr, _, rfl, .inl ((s02.trans s3).seq hl), rfl, Lk.flat_strs rooms, _, rfl, ?_⟩
      rw [inV_str]
      exact ite2 (fun e => ⟨.str u, rfl, kt e _ (Same.refl _)⟩) (fun e => kf (Bool.eq_false_iff.mpr e) _ (Same.refl _))
    have shr : ∀ u ∈ b.rooms.filter (fun u => decide (u ∈ rooms)), PyData.strOk u = true := fun u hu => nm_ok (are_nm bok.rooms u (List.mem_filter.mp hu).1)
    refine ⟨_, _, .lst (.inl (.inl (s3 _ _ em2))) (dp_strs _), .lst (.inl (.inl eD)) (dp_strs _), shaped_strsL shr, shaped_strsL shr, _, rfl, ?_⟩
    rw [ne_self (shaped_strsL shr)]
    refine iteF ?_
    have s03 := s02.trans s3
    have W3 := W.same s03
    -- how many, and the truth
    refine ⟨.ref y, rfl, y, dy, _, rfl, W3.ob, y, b, p, ls, dy, x, py, z, l1, l2, passed, rooms, rfl, W3, passed.length, rfl, by rw [sizeLine_eq]; omega, .ref lp, rfl, lp, _, rfl, .inl (s03.seq hp), rfl, _, rfl, ?_⟩
    rw [List.length_map, neV rfl]
    refine iteF ?_
    refine ⟨.ref y, rfl, y, dy, _, rfl, W3.ob, y, b, p, ls, dy, x, py, z, l1, l2, passed, rooms, rfl, W3, ne, fun H4 s4 => ⟨_, rfl, ?_⟩⟩
    have s04 := s03.trans s4
    refine ⟨.ref lr, rfl, 1, rfl, lr, _, -1, _, rfl, rfl, s04.seq hl, atI_end ne, .ref t, rfl, t, _, 3, _, rfl, rfl, sqt s04, rfl, .str n, rfl, pd, .ref tp, rfl, .inl ⟨ps, .inr n, .inr ⟨op, s04 _ _ I.people⟩, rfl, hv2.symm⟩, tp, _, 2, _, rfl, rfl, .inl (.inl (s04 _ _ htp)), rfl, t2, _, rfl, .inr (.inl (.inl (s04 _ _ h2))), rfl, Lk.flat_strs _, rfl, _, rfl, ?_⟩
    rw [inV_str, if_neg Bool.false_ne_true, neV rfl]
    refine iteF ?_
    -- the keys
    refine ⟨.ref t, rfl, t, _, 1, _, rfl, rfl, sqt s04, rfl, k, ok, rfl, .inl ⟨kvs, s04 _ _ I.keys, fun D2 nD2 => lc_m (walk_keys (kvs := kvs)) b.keys (fun _ => .bl true) I.keysT.len nD2 (by omega) (fun H' s' => s' _ _ (s04 _ _ I.keys)) (fun i u v H5 H6 Kt hz s5 hY kk => ?_) (fun H5 s5 eD2 => ?_)⟩⟩
    · obtain ⟨rfl, k0, v0, hx, rfl⟩ := hY
      obtain ⟨v1, hv1, _⟩ := I.keysT.get hz
      rw [hv1] at hx
      cases hx
      have s05 := s04.trans s5
      have W5 := W.same s05
      have hm : u.1 ∈ b.keys.map (·.1) := List.mem_map.mpr ⟨u, List.mem_of_getElem? hz, rfl⟩
      refine ⟨rfl, .str u.1, rfl, .ref y, rfl, y, dy, _, rfl, W5.ob, y, b, p, ls, dy, x, py, z, l1, l2, passed, rooms, u.1, rfl, W5, hm, fun H7 s7 => ⟨_, rfl, .str u.1, rfl, .ref t, rfl, .str n, rfl, .ref lr, rfl, t, lr, b, n, p, rooms, rfl, hb.same (s05.trans s7), hn, (s05.trans s7).seq hl, fun H8 mm s8 nmm emm => ⟨mm, _, rfl, .inl (.inl (.inl emm)), rfl, Lk.flat_strs _, rfl, ?_⟩⟩⟩
      rw [inV_str, if_neg Bool.false_ne_true, if_neg Bool.false_ne_true, decide_eq_decide.mpr (heldL_mem bok hm (p := p) (rooms := rooms)), decide_eq_true rfl]
      exact kk _ (s7.trans s8)
    refine ⟨D2, b.keys.map fun _ => true, rfl, .inl (.inl (by rw [List.map_map]; exact eD2)), _, rfl, ite2 (fun e1 => ?_) (fun e1 => ?_)⟩
    · have e1 : (!((b.keys.map fun _ => true).all id)) = true := e1
      simp at e1
    have s05 := s04.trans s5
    -- the doors ahead
    refine ⟨.ref t, rfl, t, _, 2, _, rfl, rfl, sqt s05, rfl, dd, od, rfl, .inl ⟨ds, s05 _ _ I.doors, fun D3 nD3 => lc_mf (walk_keys (kvs := ds)) b.doors (fun q => (nextOf b p ls rooms q).isSome) (fun q => .str q.1) I.doorsT.len nD3 (by omega) (fun H' s' => s' _ _ (s05 _ _ I.doors)) (fun i u v H6 H7 Kt Kf hz s6 hY kt kf => ?_) (fun H6 s6 eD3 => ?_)⟩⟩
    · obtain ⟨rfl, k0, v0, hx, rfl⟩ := hY
      obtain ⟨v1, hv1, _⟩ := I.doorsT.get hz
      rw [hv1] at hx
      cases hx
      have s06 := s05.trans s6
      refine ⟨rfl, .ref t, rfl, .str n, rfl, .ref lk, rfl, .ref lr, rfl, .str u.1, rfl, t, lk, lr, b, n, p, zs, rooms, u.1, u.2, rfl, hb.same s06, hn, Same.tup s06 hlk, s06.seq hl, ne, look_at bok.dnd (List.mem_of_getElem? hz), fun H8 s8 => ?_⟩
      rw [next_mem hzs]
      cases hN : nextOf b p ls rooms (u.1, u.2) with
      | none =>
        have hN : nextOf b p ls rooms u = none := hN
        rw [hN] at kf
        exact ⟨false, rfl, iteF (kf rfl _ s8)⟩
      | some rm =>
        have hN : nextOf b p ls rooms u = some rm := hN
        rw [hN] at kt
        exact ⟨true, rfl, iteT ⟨.str u.1, rfl, kt rfl _ s8⟩⟩
    have s06 := s05.trans s6
    have W6 := W.same s06
    have en : ((b.doors.map (·.1)).filter (canGo b p ls rooms)) = (b.doors.filter fun q => (nextOf b p ls rooms q).isSome).map (·.1) := by
      rw [List.filter_map]
      refine congrArg (List.map _) (List.filter_congr fun q hq => ?_)
      show canGo b p ls rooms q.1 = _
      unfold canGo
      rw [look_at bok.dnd hq]
    have shn : ∀ u ∈ (b.doors.map (·.1)).filter (canGo b p ls rooms), PyData.strOk u = true := fun u hu => by
      obtain ⟨q', hq', rfl⟩ := List.mem_map.mp (List.mem_filter.mp hu).1
      exact nm_ok (bok.doors q' hq').1
    refine ⟨.ref y, rfl, y, dy, _, rfl, W6.ob, rfl, y, b, p, ls, dy, x, py, z, l1, l2, passed, rooms, rfl, W6, ne, fun H8 s8 => fun pl npl => ?_⟩
    have s9 := same_new (o := .lst (((b.doors.map (·.1)).filter (canGo b p ls rooms)).map V.str)) npl
    have eD4 : H6 D3 = some (.lst (((b.doors.map (·.1)).filter (canGo b p ls rooms)).map V.str)) := by
      rw [en, List.map_map]
      exact eD3
    refine ⟨.ref D3, rfl, _, _, .lst (.inl (.inl upd_same)) (dp_strs _), .lst (.inl (.inl (s9 _ _ (s8 _ _ eD4)))) (dp_strs _), shaped_strsL shn, shaped_strsL shn, ?_⟩
    have ee := ne_self (shaped_strsL shn)
    have ee2 : PyData.eqv (.list (((b.doors.map (·.1)).filter (canGo b p ls rooms)).map PyData.str)) (.list (((b.doors.map (·.1)).filter (canGo b p ls rooms)).map PyData.str)) = true := by
      cases h9 : PyData.eqv (.list (((b.doors.map (·.1)).filter (canGo b p ls rooms)).map PyData.str)) (.list (((b.doors.map (·.1)).filter (canGo b p ls rooms)).map PyData.str)) with
      | true => rfl
      | false =>
        rw [h9] at ee
        cases ee
    rw [ee2]
    exact q _ ((s06.trans s8).trans s9)
end
end Lw
set_option Elab.async false
set_option linter.all false
set_option maxRecDepth 100000
set_option maxHeartbeats 8000000
namespace Lw
open PySem PySem.Spec PyProof.Rows L2 TxS LkO Lk LkG
theorem mv_strs {K : PySem.W.Frag} {st sc a : Addr} {H H' : Hp} {zs : List Str} (m : Mv K st sc H H') (hS : StE K H st sc) (h : H a = some (.lst (zs.map V.str))) : H' a = some (.lst (zs.map V.str)) := m.at_ hS h fun x y z e => strs_no zs x y z (HO.lst.inj e)
theorem DrAt.nx {H H' : Hp} {a : Addr} {b : BldD} (h : DrAt H a b) (s : NX H H') : DrAt H' a b := by
  obtain ⟨⟨r, k, dd, pd, ok, od, op, kvs, ds, ps, I⟩, z⟩ := h
  have t : TT H H' := fun a xs e => s _ _ e st_tup
  exact ⟨⟨r, k, dd, pd, ok, od, op, kvs, ds, ps, ⟨t _ _ I.ob, t _ _ I.rooms, s _ _ I.keys st_frz, I.keysT, s _ _ I.doors st_frz, I.doorsT.mono (rowD.tt t), s _ _ I.people st_frz, I.peopleT.mono (rowP.tt t)⟩⟩, z⟩
theorem Mv.nx {K : PySem.W.Frag} {st sc : Addr} {H H' : Hp} (m : Mv K st sc H H') (h : StE K H st sc) : NX H H' := fun a o e n => m.at_ h e fun _ _ _ z => n.1 _ z
theorem Mv.but2 {K : PySem.W.Frag} {st sc l1 l2 : Addr} {H H' H2 : Hp} (m : Mv K st sc H H') (h : StE K H st sc) (b2 : But2 l1 l2 H' H2) (n1 : H l1 = none) (n2 : H l2 = none) : Mv K st sc H H2 := by
  have sx : SameX st H H2 := fun b u e hb => b2 _ _ (m.sx _ _ e hb) (ne_of_none e n1) (ne_of_none e n2)
  obtain ⟨ns, b, k, hS⟩ := h
  obtain ⟨ns', b', k', hS'⟩ := m.se
  exact ⟨sx, ns, b', k', ⟨b2 _ _ hS'.ob (ne_of_none hS.ob n1) (ne_of_none hS.ob n2), hS.sq sx⟩⟩
/-- where the law's walk stands -/
structure Wh (H : Hp) (st le lp lr l1 l2 : Addr) : Prop where
  np : H lp = none
  nr : H lr = none
  n1 : H l1 = none
  n2 : H l2 = none
  e1 : le ≠ lp
  e2 : le ≠ lr
  e3 : le ≠ l1
  e4 : le ≠ l2
  e5 : lp ≠ lr
  e6 : lp ≠ l1
  e7 : lp ≠ l2
  e8 : lr ≠ l1
  e9 : lr ≠ l2
structure Iv (K : PySem.W.Frag) (CD CP CB CL CW : Addr) (st sc : Addr) (H : Hp) (t lk le lp lr y : Addr) (b : BldD) (p : PersonD) (zs ls : List Str) (dy x py z l1 l2 : Addr) (H' : Hp) (passed rooms pa ro : List Str) : Prop where
  m : Mv K st sc H H'
  dr : DrAt H' t b
  lk : SqT K H' lk (zs.map V.str)
  ev : H' le = some (.lst ((b.doors.map (·.1)).map V.str))
  wk : WkIn K CD CP CB CL CW H' y b p ls dy x py z l1 l2 passed rooms
  pa : H' lp = some (.lst (pa.map V.str))
  ro : H' lr = some (.lst (ro.map V.str))
section
variable {K : PySem.W.Frag} {CD CP CB CL CW : Addr} {st sc : Addr} {H : Hp} {t lk le lp lr y : Addr} {b : BldD} {p : PersonD} {zs ls : List Str} {dy x py z l1 l2 : Addr} {H' H2 : Hp} {passed rooms pa ro passed' rooms' : List Str}
theorem Iv.same (h : Iv K CD CP CB CL CW st sc H t lk le lp lr y b p zs ls dy x py z l1 l2 H' passed rooms pa ro) (s : Same H' H2) : Iv K CD CP CB CL CW st sc H t lk le lp lr y b p zs ls dy x py z l1 l2 H2 passed rooms pa ro :=
  ⟨h.m.more s, h.dr.same s, Same.tup s h.lk, s _ _ h.ev, h.wk.same s, s _ _ h.pa, s _ _ h.ro⟩
theorem Iv.mv (h : Iv K CD CP CB CL CW st sc H t lk le lp lr y b p zs ls dy x py z l1 l2 H' passed rooms pa ro) (m : Mv K st sc H' H2) : Iv K CD CP CB CL CW st sc H t lk le lp lr y b p zs ls dy x py z l1 l2 H2 passed rooms pa ro := by
  have S := h.m.se
  have nx := Mv.nx m S
  have w := h.wk
  exact ⟨h.m.trans m, h.dr.mv S m, m.tup S h.lk, mv_strs m S h.ev, ⟨nx _ _ w.ob st_ins, w.bld.nx nx, w.per.nx nx, w.lk.nx nx, mv_strs m S w.pas, mv_strs m S w.sto, w.ne⟩, mv_strs m S h.pa, mv_strs m S h.ro⟩
theorem Iv.putR (h : Iv K CD CP CB CL CW st sc H t lk le lp lr y b p zs ls dy x py z l1 l2 H' passed rooms pa ro) (hS : StE K H st sc) (d : Wh H st le lp lr l1 l2) (ro' : List Str) : Iv K CD CP CB CL CW st sc H t lk le lp lr y b p zs ls dy x py z l1 l2 (upd H' lr (.lst (ro'.map V.str))) passed rooms pa ro' := by
  have nx : NX H' (upd H' lr (.lst (ro'.map V.str))) := NX.put h.ro
  have w := h.wk
  refine ⟨h.m.new hS d.nr, h.dr.nx nx, nx.tup h.lk, ?_, ⟨nx _ _ w.ob st_ins, w.bld.nx nx, w.per.nx nx, w.lk.nx nx, ?_, ?_, w.ne⟩, ?_, upd_same⟩
  · rw [upd_ne d.e2]; exact h.ev
  · rw [upd_ne (Ne.symm d.e8)]; exact w.pas
  · rw [upd_ne (Ne.symm d.e9)]; exact w.sto
  · rw [upd_ne d.e5]; exact h.pa
theorem Iv.putP (h : Iv K CD CP CB CL CW st sc H t lk le lp lr y b p zs ls dy x py z l1 l2 H' passed rooms pa ro) (hS : StE K H st sc) (d : Wh H st le lp lr l1 l2) (pa' : List Str) : Iv K CD CP CB CL CW st sc H t lk le lp lr y b p zs ls dy x py z l1 l2 (upd H' lp (.lst (pa'.map V.str))) passed rooms pa' ro := by
  have nx : NX H' (upd H' lp (.lst (pa'.map V.str))) := NX.put h.pa
  have w := h.wk
  refine ⟨h.m.new hS d.np, h.dr.nx nx, nx.tup h.lk, ?_, ⟨nx _ _ w.ob st_ins, w.bld.nx nx, w.per.nx nx, w.lk.nx nx, ?_, ?_, w.ne⟩, upd_same, ?_⟩
  · rw [upd_ne d.e1]; exact h.ev
  · rw [upd_ne (Ne.symm d.e6)]; exact w.pas
  · rw [upd_ne (Ne.symm d.e7)]; exact w.sto
  · rw [upd_ne (Ne.symm d.e5)]; exact h.ro
theorem Iv.walk (h : Iv K CD CP CB CL CW st sc H t lk le lp lr y b p zs ls dy x py z l1 l2 H' passed rooms pa ro) (hS : StE K H st sc) (d : Wh H st le lp lr l1 l2) (b2 : But2 l1 l2 H' H2) (w2 : WkIn K CD CP CB CL CW H2 y b p ls dy x py z l1 l2 passed' rooms') : Iv K CD CP CB CL CW st sc H t lk le lp lr y b p zs ls dy x py z l1 l2 H2 passed' rooms' pa ro := by
  have w := h.wk
  have nx : NX H' H2 := b2.nx w.pas w.sto
  exact ⟨Mv.but2 h.m hS b2 d.n1 d.n2, h.dr.nx nx, nx.tup h.lk, b2 _ _ h.ev d.e3 d.e4, w2, b2 _ _ h.pa d.e6 d.e7, b2 _ _ h.ro d.e8 d.e9⟩
end
end Lw
set_option Elab.async false
set_option linter.all false
set_option maxRecDepth 100000
set_option maxHeartbeats 16000000
namespace Lw
open PySem PySem.Spec PyProof.Rows L2 TxS LkO Lk LkG ClX
theorem ne_nils (zs : List Str) : (!PyData.eqv (.list (zs.map PyData.str)) (.list [])) = !zs.isEmpty := by
  cases zs <;> simp [PyData.eqv, PyData.eqvAll]
/-- a class method -/
structure CmM (P : Program) (w : World) (K : PySem.W.Frag) (mg : Str → Option Value) (base : Heap) (k : Nat) (C : Addr) (x : Str) (sp : Sp) : Prop where
  ex : ∃ mc p g, CRead K C mc ∧ CMet K C mc x p g ∧ FnR P w K mg base CX0 k g sp
section
variable {P : Program} {w : World} {K : PySem.W.Frag} {mg : Str → Option Value} {base : Heap} {CD CP CB CL CW CN : Addr}
def spOne (K : PySem.W.Frag) : Sp := fun vs H Q _ => ∃ (st sc : Addr), vs = [.ref st] ∧ StE K H st sc ∧ ∀ H', Mv K st sc H H' → Q (.bl true) H'
abbrev nOne : List Str := ["_law_state", "_law_drawn_here", "_law_house", "_law_every", "_law_name", "_law_locked", "_law_locks_here", "_law_walk", "_law_passed", "_law_rooms", "_law_turn", "_law_one", "_law_fit", "_law_door"]
theorem scOne : FnScope nOne ["_law_state"] (defScope s__law_one_right) := ⟨rfl, rfl, rfl, by decide +kernel, rfl, by decide +kernel, by decide +kernel⟩
theorem ok_one {f : Addr} {fd : FuncData} (F : Fun K "_law_one_right" "_law_one_right" s__law_one_right f fd) (B : Blt mg) (TW : OwnC K mg CW "Walk" wkF)
    (GX : Fn P w K mg base 3 "_law_next" ["_law_state", "_law_below"] (spNx K)) (GK : Fn P w K mg base 4 "_law_pick" ["_law_state", "_law_things"] (spPickL K)) (GM : Fn P w K mg base 4 "_law_some" ["_law_state", "_law_things", "_law_odds"] (spSomeL K))
    (GD : Fn P w K mg base 5 "_law_drawn" ["_law_state", "_law_most"] (spDrawn K)) (GB : Fn P w K mg base 7 "_law_building" ["_law_drawn_here"] (spBuilt K CD CP CB)) (GL : Fn P w K mg base 5 "_law_locks" ["_law_names"] (spLocks K CL))
    (GE : Fn P w K mg base 2 "_law_behind" ["_law_drawn_here", "_law_name", "_law_locked", "_law_rooms", "_law_one"] (spLBeh K)) (GR : Fn P w K mg base 7 "_law_refused" ["_law_walk", "_law_one"] (spLRef K CD CP CB CL CW))
    (GS : Fn P w K mg base 10 "_law_stands" ["_law_drawn_here", "_law_name", "_law_locked", "_law_walk", "_law_passed", "_law_rooms"] (spStands K CD CP CB CL CW)) (MW : MkC P w K mg base CW 4 ["self", "building", "name", "locks"] (spWIn K CD CP CB CL CW))
    (MB : Mt P w K mg base 1 CW "back" ["self"] (spBack K CD CP CB CL CW)) (MG : Mt P w K mg base 6 CW "go" ["self", "name"] (spGo K CD CP CB CL CW)) (MA : CmM P w K mg base 7 CW "along" (spAlong K CD CP CB CL CW)) :
    FnOk P w K mg base CX0 11 f fd ["_law_state"] (spOne K) := by
  obtain ⟨fW, fdW, mW, bW, FW⟩ := MW.ex
  obtain ⟨fB, fdB, mB, bB, FB⟩ := MB.ex
  obtain ⟨mc, pc, gc, rc, cc, FC⟩ := MA.ex
  refine F.ok scOne (fun vs H Q E h => ?_) (fun cdv A outer s H vs Q E hr h => ?_)
  · obtain ⟨st, sc, rfl, _⟩ := h
    rfl
  · obtain ⟨st, sc, rfl, hS, q⟩ := h
    have hr1 := hr.mono (show 1 ≤ 10 by decide)
    have hr2 := hr.mono (show 2 ≤ 10 by decide)
    have hr3 := hr.mono (show 3 ≤ 10 by decide)
    have hr4 := hr.mono (show 4 ≤ 10 by decide)
    have hr5 := hr.mono (show 5 ≤ 10 by decide)
    have hr6 := hr.mono (show 6 ≤ 10 by decide)
    have hr7 := hr.mono (show 7 ≤ 10 by decide)
    refine ⟨_, (pss_cons (ps_set (i := 1) scOne.nd rfl (.inr rfl) (pe_fn GD hr5 (by rfl) (pa_cons (pv 0) (pa_cons pe_int pa_nil))))
      (pss_cons (ps_par (i := 2) (j := 3) rfl scOne.nd rfl rfl (by decide) rfl rfl (pa_cons (pe_fn GB hr7 (by rfl) (pa_cons (pv 1) pa_nil)) (pa_cons (pe_callTy (call_listD rfl) (by rfl) B.lst PyProof.Rows.boot_list (pa_cons (pe_ix ix_tup (pv 1) pe_int (fun _ _ => rfl)) pa_nil)) pa_nil)) rfl)
      (pss_cons (ps_asg (pe_tup (pa_cons (pe_fn GK hr4 (by rfl) (pa_cons (pv 0) (pa_cons (pe_callTy (call_listD rfl) (by rfl) B.lst PyProof.Rows.boot_list (pa_cons (pe_ix ix_tup (pv 1) pe_int (fun _ _ => rfl)) pa_nil)) pa_nil))) (pa_cons (pe_fn GM hr4 (by rfl) (pa_cons (pv 0) (pa_cons (pv 3) (pa_cons pe_int pa_nil)))) pa_nil))) (pg_tup rfl (pgs_cons (pg_name (i := 4) scOne.nd rfl (Or.inr rfl)) (pgs_cons (pg_name (i := 5) scOne.nd rfl (Or.inr rfl)) pgs_nil))))
      (pss_cons (ps_set (i := 6) scOne.nd rfl (.inl rfl) (pe_fn GL hr5 (by rfl) (pa_cons (pv 5) pa_nil)))
      (pss_cons (ps_asg (pe_tup (pa_cons (pe_make (E := E0) mW FW hr5 (by rfl) TW.mgC bW .nil pass0 (pa_cons (pv 2) (pa_cons (pv 4) (pa_cons (pv 6) pa_nil)))) (pa_cons (pe_lst pa_nil) (pa_cons (pe_lst (pa_cons (pe_ix ix_tup (pe_dget (hu_of hr) (pe_ix ix_tup (pv 1) pe_int (fun _ _ => rfl)) (pv 4) (fun _ _ => rfl)) pe_int (fun _ _ => rfl)) pa_nil)) pa_nil)))) (pg_tup rfl (pgs_cons (pg_name (i := 7) scOne.nd rfl (Or.inl rfl)) (pgs_cons (pg_name (i := 8) scOne.nd rfl (Or.inl rfl)) (pgs_cons (pg_name (i := 9) scOne.nd rfl (Or.inr rfl)) pgs_nil)))))
      (pss_cons (ps_for PassesOwn.never rfl (pi_range1 (by rfl) B.rng (pa_cons pe_int pa_nil)) (pg_name (i := 10) scOne.nd rfl (Or.inl rfl)) (pss_cons (ps_set (i := 11) scOne.nd rfl (.inl rfl) (pe_fn GK hr4 (by rfl) (pa_cons (pv 0) (pa_cons (pv 3) pa_nil))))
      (pss_cons (ps_setLc (i := 12) (own := [("_law_door", 13)]) (g := (gName 13)) (tt := (tB (tNotN (tCall (spLBeh K) [] E0 (tCons (tVar 1) (tCons (tVar 4) (tCons (tVar 5) (tCons (tVar 9) (tCons (tVar 13) tNil))))))))) (te := (tVar 13)) rfl scOne.nd rfl rfl (sw_true rfl rfl rfl (by decide +kernel)) (pi_list (pv 3)) (blkOk_by (N := nOne) (sc := defScope s__law_one_right) (by decide +kernel)) (fun _ _ _ _ _ => (pg_name (i := 13) scOne.nd rfl (Or.inl rfl))) (fun _ _ _ _ _ => (pts_one (pt_cmp (pc_notN (pe_fn GE hr2 (by rfl) (pa_cons (pv 1) (pa_cons (pv 4) (pa_cons (pv 5) (pa_cons (pv 9) (pa_cons (pv 13) pa_nil)))))))))) (fun _ _ _ _ _ => (pv 13)))
      (pss_cons (ps_if (PW.pt (pw_and (pt_cmpR (op_neD hr.units) (pv 12) (pe_lst pa_nil) (nomark _)) (pw_and1 (pt_cmpR op_gt (pe_fn GX hr3 (by rfl) (pa_cons (pv 0) (pa_cons pe_int pa_nil))) pe_int (nomark _))))) (pss_one (ps_set (i := 11) scOne.nd rfl (.inl rfl) (pe_fn GK hr4 (by rfl) (pa_cons (pv 0) (pa_cons (pv 12) pa_nil))))) pss_nil)
      (pss_cons (ps_if (PW.pt (pw_and (pt_cmpR op_eq (pe_fn GX hr3 (by rfl) (pa_cons (pv 0) (pa_cons pe_int pa_nil))) pe_int (nomark _)) (pw_and1 (pt_cmpR (op_neD hr.units) (pv 8) (pe_lst pa_nil) (nomark _))))) (pss_cons (ps_expr (pe_bm0 PySem.F.plainAttrs_list PySem.F.slot_list_pop PySem.F.type_list_pop mt_pop (pv 9)))
      (pss_one (ps_if (pt_cmpR op_ne (pe_meth0 (E := E0) (pv 7) TW.cl mB FB hr1 bB .nil pass0) (pe_bm0 PySem.F.plainAttrs_list PySem.F.slot_list_pop PySem.F.type_list_pop mt_pop (pv 8)) (nomark _)) (pss_one (ps_ret pe_bl)) pss_nil))) (pss_one (ps_if (pt_cmpR (r := (rIn K false)) op_in_seq (pv 11) (pv 12) rfl) (pss_cons (ps_expr (pe_bm PySem.F.plainAttrs_list PySem.F.slot_list_append PySem.F.type_list_append mt_append (pv 9) (pa_cons (pe_fn GE hr2 (by rfl) (pa_cons (pv 1) (pa_cons (pv 4) (pa_cons (pv 5) (pa_cons (pv 9) (pa_cons (pv 11) pa_nil)))))) pa_nil)))
      (pss_cons (ps_expr (pe_bm PySem.F.plainAttrs_list PySem.F.slot_list_append PySem.F.type_list_append mt_append (pv 8) (pa_cons (pv 11) pa_nil)))
      (pss_one (ps_if (pt_cmpR op_ne (pe_mt MG hr6 TW.cl (pv 7) (pa_cons (pv 11) pa_nil)) (pe_ix ix_list (pv 9) (pe_un un_neg pe_int) (fun _ _ => rfl)) (nomark _)) (pss_one (ps_ret pe_bl)) pss_nil)))) (pss_one (ps_if (pt_not (pt_val (pe_fn GR hr7 (by rfl) (pa_cons (pv 7) (pa_cons (pv 11) pa_nil))))) (pss_one (ps_ret pe_bl)) pss_nil)))))
      (pss_one (ps_if (pt_not (pt_val (pe_fn GS hr (by rfl) (pa_cons (pv 1) (pa_cons (pv 4) (pa_cons (pv 5) (pa_cons (pv 7) (pa_cons (pv 8) (pa_cons (pv 9) pa_nil))))))))) (pss_one (ps_ret pe_bl)) pss_nil)))))))
      (pss_one (ps_ret (pe_fn GS hr (by rfl) (pa_cons (pv 1) (pa_cons (pv 4) (pa_cons (pv 5) (pa_cons (pe_cmeth (E := E0) (pe_glob (v := .ref CW) (by rfl) TW.mgC rfl) rc cc FC hr7 pass0 (pa_cons (pv 2) (pa_cons (pv 4) (pa_cons (pv 6) (pa_cons (pe_callTy call_tuple_of (by rfl) B.tup PyProof.Rows.boot_tuple (pa_cons (pv 8) pa_nil)) pa_nil))))) (pa_cons (pv 8) (pa_cons (pv 9) pa_nil))))))))))))))), ?_⟩
    have two : (2 : Nat) ≤ sizeLine := by rw [sizeLine_eq]; decide
    have three : (3 : Nat) ≤ sizeLine := by rw [sizeLine_eq]; decide
    refine ⟨.ref st, rfl, st, sc, 6, rfl, by decide, by decide, hS, fun H1 t b l5 m1 hdr => ?_⟩
    obtain ⟨⟨r, k, dd, pd, ok, od, op, kvs, ds, ps, I⟩, bok⟩ := id hdr
    have d8 := bok.d8
    have d1 := bok.d1
    have S1 := m1.se
    have nmd : ∀ z ∈ b.doors.map (·.1), isNm z = true := fun z hz => by
      obtain ⟨u, hu', rfl⟩ := List.mem_map.mp hz
      exact (bok.doors u hu').1
    have lnames : (b.doors.map (·.1)).length = b.doors.length := List.length_map _
    have nne : (b.doors.map (·.1)).map V.str ≠ [] := fun h => by
      have h := congrArg List.length h
      rw [List.length_map, lnames] at h
      have h : b.doors.length = 0 := h
      omega
    refine ⟨.ref t, rfl, t, b, rfl, hdr, fun H2 x s2 hb2 => ?_⟩
    refine ⟨.ref t, rfl, t, _, 2, _, rfl, rfl, .inl (.inl (s2 _ _ I.ob)), rfl, dd, ds, rfl, .inr ⟨od, s2 _ _ I.doors⟩, fun le nle => ⟨_, _, rfl, ?_⟩⟩
    have s3 := same_new (o := .lst (ds.map fun kv => kV kv.1)) nle
    have ele : (upd H2 le (.lst (ds.map fun kv => kV kv.1))) le = some (.lst ((b.doors.map (·.1)).map V.str)) := by rw [upd_same, I.doorsT.kV]
    generalize upd H2 le (.lst (ds.map fun kv => kV kv.1)) = H3 at s3 ele ⊢
    have s13 := s2.trans s3
    have S3 := S1.same s13
    have m3 := m1.more s13
    have hb3 := hb2.same s3
    have hdr3 := hdr.same s13
    -- somebody, and a set
    refine ⟨.ref st, rfl, .ref t, rfl, t, _, 3, _, rfl, rfl, .inl (.inl (s13 _ _ I.ob)), rfl, pd, ps, rfl, .inr ⟨op, s13 _ _ I.people⟩, fun l6 nl6 => ?_⟩
    have s5 := same_new (o := .lst (ps.map fun kv => kV kv.1)) nl6
    have S5 := S3.same s5
    refine ⟨st, sc, l6, (b.people.map (·.1)).map V.str, rfl, S5, .inl (.inl (by rw [upd_same, I.peopleT.kV])), strs_no _, fun e => ?_, fun v H6 hv m6 => ?_⟩
    · have := congrArg List.length e
      rw [List.length_map, List.length_map] at this
      have h1 := bok.p1
      rw [this] at h1
      cases h1
    obtain ⟨n0, hn0, rfl⟩ := List.mem_map.mp hv
    obtain ⟨⟨n, p⟩, hm, rfl⟩ := List.mem_map.mp hn0
    have hn := look_at bok.pnd hm
    have m36 := (Mv.of S3 s5).trans m6
    have S6 := m36.se
    refine ⟨.ref st, rfl, .ref le, rfl, st, sc, le, b.doors.map (·.1), 5, rfl, S6, .inl (.inl (mv_strs m36 S3 ele)), by omega, by decide, fun H7 tl ws so m7 ntl etl => ⟨two, fun pp npp => ?_⟩⟩
    have s8 := same_new (o := .tup [.str n, .ref tl]) npp
    refine ⟨pp, _, rfl, .inl (.inl upd_same), rfl, _, _, rfl, _, _, rfl, rfl, ?_⟩
    generalize upd H7 pp (.tup [.str n, .ref tl]) = H8 at s8 ⊢
    have m38 := (m36.trans m7).more s8
    have S8 := m38.se
    have hb8 := mv_bld hb3 S3 m38
    have hdr8 := hdr3.mv S3 m38
    have ele8 := mv_strs m38 S3 ele
    have etl8 := s8 _ _ etl
    have subw : ∀ z ∈ ws, z ∈ b.doors.map (·.1) := fun z hz => so.subset hz
    have nmw : ∀ z ∈ ws, isNm z = true := fun z hz => nmd z (subw z hz)
    have lw : ws.length ≤ 8 := Nat.le_trans so.length_le (by omega)
    have mem : ∀ z, z ∈ srt ws ↔ z ∈ ws := fun z => mem_srt ws z
    have subS : ∀ z ∈ srt ws, z ∈ b.doors.map (·.1) := fun z hz => subw z ((mem z).1 hz)
    have lS : (srt ws).length ≤ 1000 := by
      have := len_srt ws
      omega
    refine ⟨.ref tl, rfl, tl, ws, rfl, .inl (.inl etl8), nmw, by omega, fun H9 c s9 hc => ?_⟩
    -- the walk
    refine ⟨.ref x, rfl, .str n, rfl, .ref c, rfl, fun y dy ny ndy ney => ?_⟩
    have s10 : Same H9 (upd (upd H9 dy (.own y)) y (.ins CW dy [])) := (same_new ndy).trans (same_new (by rw [upd_ne (Ne.symm ney)]; exact ny))
    refine ⟨y, dy, x, c, b, n, p, srt ws, rfl, upd_same, (hb8.same s9).same s10, hn, hc.same s10, lS, subS, fun Ha py l1 l2 ba n1 n2 W => ⟨rfl, ?_⟩⟩
    have ny9 : H9 y = none := ny
    have one1 : (1 : Nat) ≤ sizeLine := by rw [sizeLine_eq]; decide
    have s9a : Same H9 Ha := fun q o e => ba _ _ (s10 _ _ e) (ne_of_none e ny9)
    have nn1 : H9 l1 = none := was_new s10 n1
    have nn2 : H9 l2 = none := was_new s10 n2
    have m0 := m3.trans m38
    have m9 := m0.more s9
    have ma := m9.more s9a
    obtain ⟨v2, hv2, ⟨tp, t1, t2, t3, rfl, htp, _, _, _⟩⟩ := I.peopleT.val hn
    have drA := (hdr8.same s9).same s9a
    obtain ⟨⟨ra, ka, dda, pda, oka, oda, opa, kvsa, dsa, psa, IA⟩, _⟩ := id drA
    obtain ⟨v3, hv3, ⟨tq, u1, u2, u3, rfl, htq, _, _, _⟩⟩ := IA.peopleT.val hn
    refine ⟨Nat.zero_le _, fun lp nlp => ?_⟩
    have sp1 := same_new (o := .lst []) nlp
    refine ⟨.ref t, rfl, t, _, 3, _, rfl, rfl, .inl (.inl (sp1 _ _ IA.ob)), rfl, .str n, rfl, pda, .ref tq, rfl, .inl ⟨psa, .inr n, .inr ⟨opa, sp1 _ _ IA.people⟩, rfl, hv3.symm⟩, tq, _, 0, _, rfl, rfl, .inl (.inl (sp1 _ _ htq)), rfl, one1, fun lr nlr => ⟨three, fun pq npq => ?_⟩⟩
    have sp2 := same_new (o := .lst [.str p.a]) nlr
    have sp3 := same_new (o := .tup [.ref y, .ref lp, .ref lr]) npq
    refine ⟨pq, _, rfl, .inl (.inl upd_same), rfl, _, _, rfl, _, _, rfl, _, _, rfl, rfl, ?_⟩
    have elp : (upd (upd (upd Ha lp (.lst [])) lr (.lst [.str p.a])) pq (.tup [.ref y, .ref lp, .ref lr])) lp = some (.lst (([] : List Str).map V.str)) := sp3 _ _ (sp2 _ _ upd_same)
    have elr : (upd (upd (upd Ha lp (.lst [])) lr (.lst [.str p.a])) pq (.tup [.ref y, .ref lp, .ref lr])) lr = some (.lst (([p.a] : List Str).map V.str)) := sp3 _ _ upd_same
    have spb := (sp1.trans sp2).trans sp3
    have nlr' : Ha lr = none := was_new sp1 nlr
    have elea : Ha le = some (.lst ((b.doors.map (·.1)).map V.str)) := s9a _ _ (s9 _ _ ele8)
    have wh : Wh H st le lp lr l1 l2 := ⟨ma.fresh hS nlp, ma.fresh hS nlr', m9.fresh hS nn1, m9.fresh hS nn2, ne_of_none elea nlp, ne_of_none elea nlr', ne_of_none (s9 _ _ ele8) nn1, ne_of_none (s9 _ _ ele8) nn2, ne_of_none upd_same nlr, Ne.symm (ne_of_none W.pas nlp), Ne.symm (ne_of_none W.sto nlp), Ne.symm (ne_of_none W.pas nlr'), Ne.symm (ne_of_none W.sto nlr')⟩
    generalize (upd (upd (upd Ha lp (.lst [])) lr (.lst [.str p.a])) pq (.tup [.ref y, .ref lp, .ref lr])) = Hi at elp elr spb ⊢
    have J0 : Iv K CD CP CB CL CW st sc H t tl le lp lr y b p ws (srt ws) dy x py c l1 l2 Hi [] [p.a] [] [p.a] := ⟨ma.more spb, drA.same spb, .inl (.inl (spb _ _ (s9a _ _ (s9 _ _ etl8)))), spb _ _ elea, W.same spb, elp, elr⟩
    have nms : ∀ {zs : List Str} {rs : List Str}, wentFrom b p (srt ws) [p.a] zs = some rs → ∀ z ∈ zs, isNm z = true := fun h z hz => nmd z ((went_len _ _ h).2 z hz)
    refine ⟨8, rfl, by decide, by decide, for_it walk_range (fun i σ H' => ∃ passed rooms, Iv K CD CP CB CL CW st sc H t tl le lp lr y b p ws (srt ws) dy x py c l1 l2 H' passed rooms passed rooms ∧ wentFrom b p (srt ws) [p.a] passed = some rooms ∧ passed.length ≤ i ∧ ∃ y10 y11 y12, σ = [some (.ref st), some (.ref t), some (.ref x), some (.ref le), some (.str n), some (.ref tl), some (.ref c), some (.ref y), some (.ref lp), some (.ref lr), y10, y11, y12, none]) ⟨[], [p.a], J0, rfl, Nat.zero_le _, none, none, none, rfl⟩ (fun _ _ _ _ _ => trivial) (fun i v σ H4 H5 hi hP hY => ?_) (fun σ H4 hP => ?_)⟩
    · obtain ⟨rfl, rfl⟩ := hY
      obtain ⟨passed, rooms, J4, hw, hpl, y10, y11, y12, rfl⟩ := hP
      have hi8 : i < 8 := hi
      have lrm := (went_len _ _ hw).1
      have lrm : rooms.length = 1 + passed.length := lrm
      have rne : rooms ≠ [] := fun z => by rw [z] at lrm; have : (0 : Nat) = 1 + passed.length := lrm; omega
      have nmq := nms hw
      have nmp : ∀ z ∈ passed, PyData.strOk z = true := fun z hz => nm_ok (nmq z hz)
      refine ⟨.ref st, rfl, .ref le, rfl, st, sc, le, (b.doors.map (·.1)).map V.str, rfl, J4.m.se, .inl (.inl J4.ev), strs_no _, nne, fun v H5 hv m5 => ?_⟩
      obtain ⟨one, hone, rfl⟩ := List.mem_map.mp hv
      have J5 := J4.mv m5
      refine ⟨.ref le, rfl, le, rfl, ⟨_, .inl (.inl J5.ev)⟩, fun D nD => lc_mf (walk_list (xs := (b.doors.map fun q : Str × DoorD => q.1).map V.str)) (b.doors.map fun q : Str × DoorD => q.1) (canGo b p (srt ws) rooms) V.str (by rw [List.length_map]) nD (by rw [List.length_map]; omega) (fun H' s' => .inl (.inl (s' _ _ J5.ev))) (fun j u v H6 H7 Kt Kf hz s6 hY kt kf => ?_) (fun H6 s6 eD => ?_)⟩
      · obtain ⟨rfl, hx⟩ := hY
        rw [List.getElem?_map, hz] at hx
        cases hx
        obtain ⟨dr, hd, _⟩ := name_look (List.mem_of_getElem? hz) bok.dnd
        have J6 := J5.same s6
        refine ⟨rfl, .ref t, rfl, .str n, rfl, .ref tl, rfl, .ref lr, rfl, .str u, rfl, t, tl, lr, b, n, p, ws, rooms, u, dr, rfl, J6.dr, hn, J6.lk, .inl (.inl J6.ro), rne, hd, fun H8 s8 => ?_⟩
        rw [next_mem (fun u => (mem u).symm)]
        have ec : canGo b p (srt ws) rooms u = (nextOf b p (srt ws) rooms (u, dr)).isSome := by
          unfold canGo
          rw [hd]
        rw [ec] at kt kf
        cases hN : nextOf b p (srt ws) rooms (u, dr) with
        | none =>
          rw [hN] at kf
          exact ⟨false, rfl, iteF (kf rfl _ s8)⟩
        | some rm =>
          rw [hN] at kt
          exact ⟨true, rfl, iteT ⟨.str u, rfl, kt rfl _ s8⟩⟩
      have J6 := J5.same s6
      have nmf : ∀ z ∈ (b.doors.map fun q : Str × DoorD => q.1).filter (canGo b p (srt ws) rooms), PyData.strOk z = true := fun z hz => nm_ok (nmd z (List.mem_filter.mp hz).1)
      refine ⟨.ref D, rfl, Nat.zero_le _, fun pf npf => ?_⟩
      have s7 := same_new (o := .lst []) npf
      have J7 := J6.same s7
      have eD7 := s7 _ _ eD
      refine ⟨_, _, .lst (.inl (.inl eD7)) (dp_strs _), .lst (.inl (.inl upd_same)) .nil, shaped_strsL nmf, by decide +kernel, _, rfl, ?_⟩
      rw [ne_nils]
      generalize (upd H6 pf (.lst [])) = H7 at s7 J7 eD7
      refine ite2 (fun e1 => ?_) (fun e1 => ?_)
      · refine ⟨.ref st, rfl, st, sc, 3, rfl, J7.m.se, by decide, fun r3 Hq r30 r3l mq => ?_⟩
        have Jq := J7.mv mq
        have eDq := mv_strs mq J7.m.se eD7
        refine ⟨_, _, rfl, rfl, _, rfl, ite2 (fun e2 => ?_) (fun e2 => ?_)⟩
        · refine ⟨.ref st, rfl, .ref D, rfl, st, sc, D, ((b.doors.map fun q : Str × DoorD => q.1).filter (canGo b p (srt ws) rooms)).map V.str, rfl, Jq.m.se, .inl (.inl eDq), strs_no _, fun z => ?_, fun v Hr hv mr => ?_⟩
          · rw [List.map_eq_nil_iff.mp z] at e1
            cases e1
          obtain ⟨one, ho2, rfl⟩ := List.mem_map.mp hv
          have hone := (List.mem_filter.mp ho2).1
          have Jr := Jq.mv mr
          have eDr := mv_strs mr Jq.m.se eDq
          refine ⟨.ref st, rfl, st, sc, 5, rfl, Jr.m.se, by decide, fun r5 H8 r50 r5l m8 => ?_⟩
          have J8 := Jr.mv m8
          have eD8 := mv_strs m8 Jr.m.se eDr
          refine ⟨rfl, _, rfl, ite2 (fun e3 => ?_) (fun e3 => ?_)⟩
          · refine ⟨.ref lp, rfl, Nat.zero_le _, fun pe npe => ?_⟩
            have s9 := same_new (o := .lst []) npe
            have J9 := J8.same s9
            have eD9 := s9 _ _ eD8
            refine ⟨_, _, .lst (.inl (.inl J9.pa)) (dp_strs _), .lst (.inl (.inl upd_same)) .nil, shaped_strsL nmp, by decide +kernel, _, rfl, ?_⟩
            rw [ne_nils]
            generalize (upd H8 pe (.lst [])) = H9 at s9 J9 eD9
            refine ite2 (fun e4 => ?_) (fun e4 => ?_)
            · obtain ⟨ps', d0, rfl⟩ : ∃ ys z, passed = ys ++ [z] := by
                have hne : passed ≠ [] := fun z => by rw [z] at e4; cases e4
                exact ⟨passed.dropLast, passed.getLast hne, (List.dropLast_concat_getLast hne).symm⟩
              obtain ⟨st', d', r0, w1, w2, w3, rfl⟩ := went_last hw
              refine ⟨.ref lr, rfl, .inl ⟨rfl, _, .inl (.inl J9.ro)⟩, lr, _, .str r0, rfl, rfl, J9.ro, by simp, ?_⟩
              rw [show ((st' ++ [r0]).map V.str).dropLast = st'.map V.str by simp]
              have Ja := J9.putR hS wh st'
              refine ⟨.ref y, rfl, y, dy, _, rfl, Ja.wk.ob, rfl, y, b, p, srt ws, dy, x, py, c, l1, l2, ps', st', d0, r0, rfl, Ja.wk, nmq, fun Hb bb Wb => ?_⟩
              have Jb := Ja.walk hS wh bb Wb
              refine ⟨.ref lp, rfl, .inl ⟨rfl, _, .inl (.inl Jb.pa)⟩, lp, _, .str d0, rfl, rfl, Jb.pa, by simp, rfl, _, rfl, ?_⟩
              rw [show ((ps' ++ [d0]).map V.str).dropLast = ps'.map V.str by simp, neV rfl]
              refine iteF ?_
              have Je := Jb.putP hS wh ps'
              have rne' : st' ≠ [] := fun z => by
                have := (went_len _ _ w1).1
                rw [z, List.length_singleton] at this
                have : (0 : Nat) = 1 + ps'.length := this
                omega
              have lq : ps'.length ≤ i + 1 := by
                rw [List.length_append, List.length_singleton] at hpl
                omega
              refine ⟨.ref t, rfl, .str n, rfl, .ref tl, rfl, .ref y, rfl, .ref lp, rfl, .ref lr, rfl, t, tl, y, lp, lr, b, n, p, srt ws, ws, dy, x, py, c, l1, l2, ps', st', rfl, Je.dr, hn, Je.lk, fun u => (mem u).symm, Je.wk, .inl (.inl Je.pa), .inl (.inl Je.ro), rne', by have := lq; omega, (went_len _ _ w1).2, fun Hz sz => ⟨_, rfl, iteF ?_⟩⟩
              exact ⟨ps', st', Je.same sz, w1, lq, _, _, _, rfl⟩
            · refine ⟨.str one, rfl, .ref D, rfl, D, _, rfl, .inl (.inl (.inl eD9)), rfl, Lk.flat_strs _, _, rfl, ?_⟩
              rw [inV_str]
              obtain ⟨dr, hdr', _⟩ := name_look hone bok.dnd
              refine ite2 (fun e5 => ?_) (fun e5 => ?_)
              · have hin := (List.mem_filter.mp (of_decide_eq_true e5)).2
                have hin : canGo b p (srt ws) rooms one = true := hin
                unfold canGo at hin
                rw [hdr'] at hin
                obtain ⟨rm, hnx⟩ := Option.isSome_iff_exists.mp hin
                refine ⟨.ref lr, rfl, .inl ⟨rfl, _, .inl (.inl J9.ro)⟩, .ref t, rfl, .str n, rfl, .ref tl, rfl, .ref lr, rfl, .str one, rfl, t, tl, lr, b, n, p, ws, rooms, one, dr, rfl, J9.dr, hn, J9.lk, .inl (.inl J9.ro), rne, hdr', fun Hb sb => ?_⟩
                rw [next_mem (fun u => (mem u).symm), hnx]
                have Jb := J9.same sb
                refine ⟨lr, _, .str rm, rfl, rfl, Jb.ro, by rw [List.length_map, sizeLine_eq]; omega, ?_⟩
                rw [show rooms.map V.str ++ [V.str rm] = (rooms ++ [rm]).map V.str by simp]
                have Jc := Jb.putR hS wh (rooms ++ [rm])
                refine ⟨.ref lp, rfl, .inl ⟨rfl, _, .inl (.inl Jc.pa)⟩, .str one, rfl, lp, _, .str one, rfl, rfl, Jc.pa, by rw [List.length_map, sizeLine_eq]; omega, ?_⟩
                rw [show passed.map V.str ++ [V.str one] = (passed ++ [one]).map V.str by simp]
                have Jd := Jc.putP hS wh (passed ++ [one])
                refine ⟨.ref y, rfl, y, dy, _, rfl, Jd.wk.ob, rfl, .str one, rfl, y, b, p, srt ws, dy, x, py, c, l1, l2, passed, rooms, one, dr, rm, rfl, Jd.wk, rne, by omega, by omega, hdr', hnx, fun He be We => ?_⟩
                have Je := Jd.walk hS wh be We
                refine ⟨.ref lr, rfl, 1, rfl, lr, _, -1, _, rfl, rfl, .inl (.inl Je.ro), atI_end (by simp), rfl, _, rfl, ?_⟩
                rw [show ((rooms ++ [rm]).getLast?.getD ⟨#[]⟩) = rm by rw [List.getLast?_concat]; rfl, neV rfl]
                refine iteF ?_
                have wn := went_step hw hdr' hnx
                have lq : (passed ++ [one]).length ≤ i + 1 := by rw [List.length_append, List.length_singleton]; omega
                refine ⟨.ref t, rfl, .str n, rfl, .ref tl, rfl, .ref y, rfl, .ref lp, rfl, .ref lr, rfl, t, tl, y, lp, lr, b, n, p, srt ws, ws, dy, x, py, c, l1, l2, (passed ++ [one]), (rooms ++ [rm]), rfl, Je.dr, hn, Je.lk, fun u => (mem u).symm, Je.wk, .inl (.inl Je.pa), .inl (.inl Je.ro), (by simp), by have := lq; omega, (went_len _ _ wn).2, fun Hz sz => ⟨_, rfl, iteF ?_⟩⟩
                exact ⟨(passed ++ [one]), (rooms ++ [rm]), Je.same sz, wn, lq, _, _, _, rfl⟩
              · have hnx : nextOf b p (srt ws) rooms (one, dr) = none := by
                  cases hq : nextOf b p (srt ws) rooms (one, dr) with
                  | none => rfl
                  | some rm =>
                    refine absurd (decide_eq_true (List.mem_filter.mpr ⟨hone, ?_⟩)) e5
                    unfold canGo
                    rw [hdr']
                    show (nextOf b p (srt ws) rooms (one, dr)).isSome = true
                    rw [hq]
                    rfl
                refine ⟨.ref y, rfl, .str one, rfl, y, b, p, srt ws, dy, x, py, c, l1, l2, passed, rooms, one, dr, rfl, J9.wk, rne, hdr', hnx, fun Hb sb => ⟨_, rfl, iteF ?_⟩⟩
                have Je := J9.same sb
                have lq : passed.length ≤ i + 1 := by omega
                refine ⟨.ref t, rfl, .str n, rfl, .ref tl, rfl, .ref y, rfl, .ref lp, rfl, .ref lr, rfl, t, tl, y, lp, lr, b, n, p, srt ws, ws, dy, x, py, c, l1, l2, passed, rooms, rfl, Je.dr, hn, Je.lk, fun u => (mem u).symm, Je.wk, .inl (.inl Je.pa), .inl (.inl Je.ro), rne, by have := lq; omega, (went_len _ _ hw).2, fun Hz sz => ⟨_, rfl, iteF ?_⟩⟩
                exact ⟨passed, rooms, Je.same sz, hw, lq, _, _, _, rfl⟩
          · refine iteF ?_
            refine ⟨.str one, rfl, .ref D, rfl, D, _, rfl, .inl (.inl (.inl eD8)), rfl, Lk.flat_strs _, _, rfl, ?_⟩
            rw [inV_str]
            obtain ⟨dr, hdr', _⟩ := name_look hone bok.dnd
            refine ite2 (fun e5 => ?_) (fun e5 => ?_)
            · have hin := (List.mem_filter.mp (of_decide_eq_true e5)).2
              have hin : canGo b p (srt ws) rooms one = true := hin
              unfold canGo at hin
              rw [hdr'] at hin
              obtain ⟨rm, hnx⟩ := Option.isSome_iff_exists.mp hin
              refine ⟨.ref lr, rfl, .inl ⟨rfl, _, .inl (.inl J8.ro)⟩, .ref t, rfl, .str n, rfl, .ref tl, rfl, .ref lr, rfl, .str one, rfl, t, tl, lr, b, n, p, ws, rooms, one, dr, rfl, J8.dr, hn, J8.lk, .inl (.inl J8.ro), rne, hdr', fun Hb sb => ?_⟩
              rw [next_mem (fun u => (mem u).symm), hnx]
              have Jb := J8.same sb
              refine ⟨lr, _, .str rm, rfl, rfl, Jb.ro, by rw [List.length_map, sizeLine_eq]; omega, ?_⟩
              rw [show rooms.map V.str ++ [V.str rm] = (rooms ++ [rm]).map V.str by simp]
              have Jc := Jb.putR hS wh (rooms ++ [rm])
              refine ⟨.ref lp, rfl, .inl ⟨rfl, _, .inl (.inl Jc.pa)⟩, .str one, rfl, lp, _, .str one, rfl, rfl, Jc.pa, by rw [List.length_map, sizeLine_eq]; omega, ?_⟩
              rw [show passed.map V.str ++ [V.str one] = (passed ++ [one]).map V.str by simp]
              have Jd := Jc.putP hS wh (passed ++ [one])
              refine ⟨.ref y, rfl, y, dy, _, rfl, Jd.wk.ob, rfl, .str one, rfl, y, b, p, srt ws, dy, x, py, c, l1, l2, passed, rooms, one, dr, rm, rfl, Jd.wk, rne, by omega, by omega, hdr', hnx, fun He be We => ?_⟩
              have Je := Jd.walk hS wh be We
              refine ⟨.ref lr, rfl, 1, rfl, lr, _, -1, _, rfl, rfl, .inl (.inl Je.ro), atI_end (by simp), rfl, _, rfl, ?_⟩
              rw [show ((rooms ++ [rm]).getLast?.getD ⟨#[]⟩) = rm by rw [List.getLast?_concat]; rfl, neV rfl]
              refine iteF ?_
              have wn := went_step hw hdr' hnx
              have lq : (passed ++ [one]).length ≤ i + 1 := by rw [List.length_append, List.length_singleton]; omega
              refine ⟨.ref t, rfl, .str n, rfl, .ref tl, rfl, .ref y, rfl, .ref lp, rfl, .ref lr, rfl, t, tl, y, lp, lr, b, n, p, srt ws, ws, dy, x, py, c, l1, l2, (passed ++ [one]), (rooms ++ [rm]), rfl, Je.dr, hn, Je.lk, fun u => (mem u).symm, Je.wk, .inl (.inl Je.pa), .inl (.inl Je.ro), (by simp), by have := lq; omega, (went_len _ _ wn).2, fun Hz sz => ⟨_, rfl, iteF ?_⟩⟩
              exact ⟨(passed ++ [one]), (rooms ++ [rm]), Je.same sz, wn, lq, _, _, _, rfl⟩
            · have hnx : nextOf b p (srt ws) rooms (one, dr) = none := by
                cases hq : nextOf b p (srt ws) rooms (one, dr) with
                | none => rfl
                | some rm =>
                  refine absurd (decide_eq_true (List.mem_filter.mpr ⟨hone, ?_⟩)) e5
                  unfold canGo
                  rw [hdr']
                  show (nextOf b p (srt ws) rooms (one, dr)).isSome = true
                  rw [hq]
                  rfl
              refine ⟨.ref y, rfl, .str one, rfl, y, b, p, srt ws, dy, x, py, c, l1, l2, passed, rooms, one, dr, rfl, J8.wk, rne, hdr', hnx, fun Hb sb => ⟨_, rfl, iteF ?_⟩⟩
              have Je := J8.same sb
              have lq : passed.length ≤ i + 1 := by omega
              refine ⟨.ref t, rfl, .str n, rfl, .ref tl, rfl, .ref y, rfl, .ref lp, rfl, .ref lr, rfl, t, tl, y, lp, lr, b, n, p, srt ws, ws, dy, x, py, c, l1, l2, passed, rooms, rfl, Je.dr, hn, Je.lk, fun u => (mem u).symm, Je.wk, .inl (.inl Je.pa), .inl (.inl Je.ro), rne, by have := lq; omega, (went_len _ _ hw).2, fun Hz sz => ⟨_, rfl, iteF ?_⟩⟩
              exact ⟨passed, rooms, Je.same sz, hw, lq, _, _, _, rfl⟩
        · refine ⟨.ref st, rfl, st, sc, 5, rfl, Jq.m.se, by decide, fun r5 H8 r50 r5l m8 => ?_⟩
          have J8 := Jq.mv m8
          have eD8 := mv_strs m8 Jq.m.se eDq
          refine ⟨rfl, _, rfl, ite2 (fun e3 => ?_) (fun e3 => ?_)⟩
          · refine ⟨.ref lp, rfl, Nat.zero_le _, fun pe npe => ?_⟩
            have s9 := same_new (o := .lst []) npe
            have J9 := J8.same s9
            have eD9 := s9 _ _ eD8
            refine ⟨_, _, .lst (.inl (.inl J9.pa)) (dp_strs _), .lst (.inl (.inl upd_same)) .nil, shaped_strsL nmp, by decide +kernel, _, rfl, ?_⟩
            rw [ne_nils]
            generalize (upd H8 pe (.lst [])) = H9 at s9 J9 eD9
            refine ite2 (fun e4 => ?_) (fun e4 => ?_)
            · obtain ⟨ps', d0, rfl⟩ : ∃ ys z, passed = ys ++ [z] := by
                have hne : passed ≠ [] := fun z => by rw [z] at e4; cases e4
                exact ⟨passed.dropLast, passed.getLast hne, (List.dropLast_concat_getLast hne).symm⟩
              obtain ⟨st', d', r0, w1, w2, w3, rfl⟩ := went_last hw
              refine ⟨.ref lr, rfl, .inl ⟨rfl, _, .inl (.inl J9.ro)⟩, lr, _, .str r0, rfl, rfl, J9.ro, by simp, ?_⟩
              rw [show ((st' ++ [r0]).map V.str).dropLast = st'.map V.str by simp]
              have Ja := J9.putR hS wh st'
              refine ⟨.ref y, rfl, y, dy, _, rfl, Ja.wk.ob, rfl, y, b, p, srt ws, dy, x, py, c, l1, l2, ps', st', d0, r0, rfl, Ja.wk, nmq, fun Hb bb Wb => ?_⟩
              have Jb := Ja.walk hS wh bb Wb
              refine ⟨.ref lp, rfl, .inl ⟨rfl, _, .inl (.inl Jb.pa)⟩, lp, _, .str d0, rfl, rfl, Jb.pa, by simp, rfl, _, rfl, ?_⟩
              rw [show ((ps' ++ [d0]).map V.str).dropLast = ps'.map V.str by simp, neV rfl]
              refine iteF ?_
              have Je := Jb.putP hS wh ps'
              have rne' : st' ≠ [] := fun z => by
                have := (went_len _ _ w1).1
                rw [z, List.length_singleton] at this
                have : (0 : Nat) = 1 + ps'.length := this
                omega
              have lq : ps'.length ≤ i + 1 := by
                rw [List.length_append, List.length_singleton] at hpl
                omega
              refine ⟨.ref t, rfl, .str n, rfl, .ref tl, rfl, .ref y, rfl, .ref lp, rfl, .ref lr, rfl, t, tl, y, lp, lr, b, n, p, srt ws, ws, dy, x, py, c, l1, l2, ps', st', rfl, Je.dr, hn, Je.lk, fun u => (mem u).symm, Je.wk, .inl (.inl Je.pa), .inl (.inl Je.ro), rne', by have := lq; omega, (went_len _ _ w1).2, fun Hz sz => ⟨_, rfl, iteF ?_⟩⟩
              exact ⟨ps', st', Je.same sz, w1, lq, _, _, _, rfl⟩
            · refine ⟨.str one, rfl, .ref D, rfl, D, _, rfl, .inl (.inl (.inl eD9)), rfl, Lk.flat_strs _, _, rfl, ?_⟩
              rw [inV_str]
              obtain ⟨dr, hdr', _⟩ := name_look hone bok.dnd
              refine ite2 (fun e5 => ?_) (fun e5 => ?_)
              · have hin := (List.mem_filter.mp (of_decide_eq_true e5)).2
                have hin : canGo b p (srt ws) rooms one = true := hin
                unfold canGo at hin
                rw [hdr'] at hin
                obtain ⟨rm, hnx⟩ := Option.isSome_iff_exists.mp hin
                refine ⟨.ref lr, rfl, .inl ⟨rfl, _, .inl (.inl J9.ro)⟩, .ref t, rfl, .str n, rfl, .ref tl, rfl, .ref lr, rfl, .str one, rfl, t, tl, lr, b, n, p, ws, rooms, one, dr, rfl, J9.dr, hn, J9.lk, .inl (.inl J9.ro), rne, hdr', fun Hb sb => ?_⟩
                rw [next_mem (fun u => (mem u).symm), hnx]
                have Jb := J9.same sb
                refine ⟨lr, _, .str rm, rfl, rfl, Jb.ro, by rw [List.length_map, sizeLine_eq]; omega, ?_⟩
                rw [show rooms.map V.str ++ [V.str rm] = (rooms ++ [rm]).map V.str by simp]
                have Jc := Jb.putR hS wh (rooms ++ [rm])
                refine ⟨.ref lp, rfl, .inl ⟨rfl, _, .inl (.inl Jc.pa)⟩, .str one, rfl, lp, _, .str one, rfl, rfl, Jc.pa, by rw [List.length_map, sizeLine_eq]; omega, ?_⟩
                rw [show passed.map V.str ++ [V.str one] = (passed ++ [one]).map V.str by simp]
                have Jd := Jc.putP hS wh (passed ++ [one])
                refine ⟨.ref y, rfl, y, dy, _, rfl, Jd.wk.ob, rfl, .str one, rfl, y, b, p, srt ws, dy, x, py, c, l1, l2, passed, rooms, one, dr, rm, rfl, Jd.wk, rne, by omega, by omega, hdr', hnx, fun He be We => ?_⟩
                have Je := Jd.walk hS wh be We
                refine ⟨.ref lr, rfl, 1, rfl, lr, _, -1, _, rfl, rfl, .inl (.inl Je.ro), atI_end (by simp), rfl, _, rfl, ?_⟩
                rw [show ((rooms ++ [rm]).getLast?.getD ⟨#[]⟩) = rm by rw [List.getLast?_concat]; rfl, neV rfl]
                refine iteF ?_
                have wn := went_step hw hdr' hnx
                have lq : (passed ++ [one]).length ≤ i + 1 := by rw [List.length_append, List.length_singleton]; omega
                refine ⟨.ref t, rfl, .str n, rfl, .ref tl, rfl, .ref y, rfl, .ref lp, rfl, .ref lr, rfl, t, tl, y, lp, lr, b, n, p, srt ws, ws, dy, x, py, c, l1, l2, (passed ++ [one]), (rooms ++ [rm]), rfl, Je.dr, hn, Je.lk, fun u => (mem u).symm, Je.wk, .inl (.inl Je.pa), .inl (.inl Je.ro), (by simp), by have := lq; omega, (went_len _ _ wn).2, fun Hz sz => ⟨_, rfl, iteF ?_⟩⟩
                exact ⟨(passed ++ [one]), (rooms ++ [rm]), Je.same sz, wn, lq, _, _, _, rfl⟩
              · have hnx : nextOf b p (srt ws) rooms (one, dr) = none := by
                  cases hq : nextOf b p (srt ws) rooms (one, dr) with
                  | none => rfl
                  | some rm =>
                    refine absurd (decide_eq_true (List.mem_filter.mpr ⟨hone, ?_⟩)) e5
                    unfold canGo
                    rw [hdr']
                    show (nextOf b p (srt ws) rooms (one, dr)).isSome = true
                    rw [hq]
                    rfl
                refine ⟨.ref y, rfl, .str one, rfl, y, b, p, srt ws, dy, x, py, c, l1, l2, passed, rooms, one, dr, rfl, J9.wk, rne, hdr', hnx, fun Hb sb => ⟨_, rfl, iteF ?_⟩⟩
                have Je := J9.same sb
                have lq : passed.length ≤ i + 1 := by omega
                refine ⟨.ref t, rfl, .str n, rfl, .ref tl, rfl, .ref y, rfl, .ref lp, rfl, .ref lr, rfl, t, tl, y, lp, lr, b, n, p, srt ws, ws, dy, x, py, c, l1, l2, passed, rooms, rfl, Je.dr, hn, Je.lk, fun u => (mem u).symm, Je.wk, .inl (.inl Je.pa), .inl (.inl Je.ro), rne, by have := lq; omega, (went_len _ _ hw).2, fun Hz sz => ⟨_, rfl, iteF ?_⟩⟩
                exact ⟨passed, rooms, Je.same sz, hw, lq, _, _, _, rfl⟩
          · refine iteF ?_
            refine ⟨.str one, rfl, .ref D, rfl, D, _, rfl, .inl (.inl (.inl eD8)), rfl, Lk.flat_strs _, _, rfl, ?_⟩
            rw [inV_str]
            obtain ⟨dr, hdr', _⟩ := name_look hone bok.dnd
            refine ite2 (fun e5 => ?_) (fun e5 => ?_)
            · have hin := (List.mem_filter.mp (of_decide_eq_true e5)).2
              have hin : canGo b p (srt ws) rooms one = true := hin
              unfold canGo at hin
              rw [hdr'] at hin
              obtain ⟨rm, hnx⟩ := Option.isSome_iff_exists.mp hin
              refine ⟨.ref lr, rfl, .inl ⟨rfl, _, .inl (.inl J8.ro)⟩, .ref t, rfl, .str n, rfl, .ref tl, rfl, .ref lr, rfl, .str one, rfl, t, tl, lr, b, n, p, ws, rooms, one, dr, rfl, J8.dr, hn, J8.lk, .inl (.inl J8.ro), rne, hdr', fun Hb sb => ?_⟩
              rw [next_mem (fun u => (mem u).symm), hnx]
              have Jb := J8.same sb
              refine ⟨lr, _, .str rm, rfl, rfl, Jb.ro, by rw [List.length_map, sizeLine_eq]; omega, ?_⟩
              rw [show rooms.map V.str ++ [V.str rm] = (rooms ++ [rm]).map V.str by simp]
              have Jc := Jb.putR hS wh (rooms ++ [rm])
              refine ⟨.ref lp, rfl, .inl ⟨rfl, _, .inl (.inl Jc.pa)⟩, .str one, rfl, lp, _, .str one, rfl, rfl, Jc.pa, by rw [List.length_map, sizeLine_eq]; omega, ?_⟩
              rw [show passed.map V.str ++ [V.str one] = (passed ++ [one]).map V.str by simp]
              have Jd := Jc.putP hS wh (passed ++ [one])
              refine ⟨.ref y, rfl, y, dy, _, rfl, Jd.wk.ob, rfl, .str one, rfl, y, b, p, srt ws, dy, x, py, c, l1, l2, passed, rooms, one, dr, rm, rfl, Jd.wk, rne, by omega, by omega, hdr', hnx, fun He be We => ?_⟩
              have Je := Jd.walk hS wh be We
              refine ⟨.ref lr, rfl, 1, rfl, lr, _, -1, _, rfl, rfl, .inl (.inl Je.ro), atI_end (by simp), rfl, _, rfl, ?_⟩
              rw [show ((rooms ++ [rm]).getLast?.getD ⟨#[]⟩) = rm by rw [List.getLast?_concat]; rfl, neV rfl]
              refine iteF ?_
              have wn := went_step hw hdr' hnx
              have lq : (passed ++ [one]).length ≤ i + 1 := by rw [List.length_append, List.length_singleton]; omega
              refine ⟨.ref t, rfl, .str n, rfl, .ref tl, rfl, .ref y, rfl, .ref lp, rfl, .ref lr, rfl, t, tl, y, lp, lr, b, n, p, srt ws, ws, dy, x, py, c, l1, l2, (passed ++ [one]), (rooms ++ [rm]), rfl, Je.dr, hn, Je.lk, fun u => (mem u).symm, Je.wk, .inl (.inl Je.pa), .inl (.inl Je.ro), (by simp), by have := lq; omega, (went_len _ _ wn).2, fun Hz sz => ⟨_, rfl, iteF ?_⟩⟩
              exact ⟨(passed ++ [one]), (rooms ++ [rm]), Je.same sz, wn, lq, _, _, _, rfl⟩
            · have hnx : nextOf b p (srt ws) rooms (one, dr) = none := by
                cases hq : nextOf b p (srt ws) rooms (one, dr) with
                | none => rfl
                | some rm =>
                  refine absurd (decide_eq_true (List.mem_filter.mpr ⟨hone, ?_⟩)) e5
                  unfold canGo
                  rw [hdr']
                  show (nextOf b p (srt ws) rooms (one, dr)).isSome = true
                  rw [hq]
                  rfl
              refine ⟨.ref y, rfl, .str one, rfl, y, b, p, srt ws, dy, x, py, c, l1, l2, passed, rooms, one, dr, rfl, J8.wk, rne, hdr', hnx, fun Hb sb => ⟨_, rfl, iteF ?_⟩⟩
              have Je := J8.same sb
              have lq : passed.length ≤ i + 1 := by omega
              refine ⟨.ref t, rfl, .str n, rfl, .ref tl, rfl, .ref y, rfl, .ref lp, rfl, .ref lr, rfl, t, tl, y, lp, lr, b, n, p, srt ws, ws, dy, x, py, c, l1, l2, passed, rooms, rfl, Je.dr, hn, Je.lk, fun u => (mem u).symm, Je.wk, .inl (.inl Je.pa), .inl (.inl Je.ro), rne, by have := lq; omega, (went_len _ _ hw).2, fun Hz sz => ⟨_, rfl, iteF ?_⟩⟩
              exact ⟨passed, rooms, Je.same sz, hw, lq, _, _, _, rfl⟩
      · refine iteF ?_
        refine ⟨.ref st, rfl, st, sc, 5, rfl, J7.m.se, by decide, fun r5 H8 r50 r5l m8 => ?_⟩
        have J8 := J7.mv m8
        have eD8 := mv_strs m8 J7.m.se eD7
        refine ⟨rfl, _, rfl, ite2 (fun e3 => ?_) (fun e3 => ?_)⟩
        · refine ⟨.ref lp, rfl, Nat.zero_le _, fun pe npe => ?_⟩
          have s9 := same_new (o := .lst []) npe
          have J9 := J8.same s9
          have eD9 := s9 _ _ eD8
          refine ⟨_, _, .lst (.inl (.inl J9.pa)) (dp_strs _), .lst (.inl (.inl upd_same)) .nil, shaped_strsL nmp, by decide +kernel, _, rfl, ?_⟩
          rw [ne_nils]
          generalize (upd H8 pe (.lst [])) = H9 at s9 J9 eD9
          refine ite2 (fun e4 => ?_) (fun e4 => ?_)
          · obtain ⟨ps', d0, rfl⟩ : ∃ ys z, passed = ys ++ [z] := by
              have hne : passed ≠ [] := fun z => by rw [z] at e4; cases e4
              exact ⟨passed.dropLast, passed.getLast hne, (List.dropLast_concat_getLast hne).symm⟩
            obtain ⟨st', d', r0, w1, w2, w3, rfl⟩ := went_last hw
            refine ⟨.ref lr, rfl, .inl ⟨rfl, _, .inl (.inl J9.ro)⟩, lr, _, .str r0, rfl, rfl, J9.ro, by simp, ?_⟩
            rw [show ((st' ++ [r0]).map V.str).dropLast = st'.map V.str by simp]
            have Ja := J9.putR hS wh st'
            refine ⟨.ref y, rfl, y, dy, _, rfl, Ja.wk.ob, rfl, y, b, p, srt ws, dy, x, py, c, l1, l2, ps', st', d0, r0, rfl, Ja.wk, nmq, fun Hb bb Wb => ?_⟩
            have Jb := Ja.walk hS wh bb Wb
            refine ⟨.ref lp, rfl, .inl ⟨rfl, _, .inl (.inl Jb.pa)⟩, lp, _, .str d0, rfl, rfl, Jb.pa, by simp, rfl, _, rfl, ?_⟩
            rw [show ((ps' ++ [d0]).map V.str).dropLast = ps'.map V.str by simp, neV rfl]
            refine iteF ?_
            have Je := Jb.putP hS wh ps'
            have rne' : st' ≠ [] := fun z => by
              have := (went_len _ _ w1).1
              rw [z, List.length_singleton] at this
              have : (0 : Nat) = 1 + ps'.length := this
              omega
            have lq : ps'.length ≤ i + 1 := by
              rw [List.length_append, List.length_singleton] at hpl
              omega
            refine ⟨.ref t, rfl, .str n, rfl, .ref tl, rfl, .ref y, rfl, .ref lp, rfl, .ref lr, rfl, t, tl, y, lp, lr, b, n, p, srt ws, ws, dy, x, py, c, l1, l2, ps', st', rfl, Je.dr, hn, Je.lk, fun u => (mem u).symm, Je.wk, .inl (.inl Je.pa), .inl (.inl Je.ro), rne', by have := lq; omega, (went_len _ _ w1).2, fun Hz sz => ⟨_, rfl, iteF ?_⟩⟩
            exact ⟨ps', st', Je.same sz, w1, lq, _, _, _, rfl⟩
          · refine ⟨.str one, rfl, .ref D, rfl, D, _, rfl, .inl (.inl (.inl eD9)), rfl, Lk.flat_strs _, _, rfl, ?_⟩
            rw [inV_str]
            obtain ⟨dr, hdr', _⟩ := name_look hone bok.dnd
            refine ite2 (fun e5 => ?_) (fun e5 => ?_)
            · have hin := (List.mem_filter.mp (of_decide_eq_true e5)).2
              have hin : canGo b p (srt ws) rooms one = true := hin
              unfold canGo at hin
              rw [hdr'] at hin
              obtain ⟨rm, hnx⟩ := Option.isSome_iff_exists.mp hin
              refine ⟨.ref lr, rfl, .inl ⟨rfl, _, .inl (.inl J9.ro)⟩, .ref t, rfl, .str n, rfl, .ref tl, rfl, .ref lr, rfl, .str one, rfl, t, tl, lr, b, n, p, ws, rooms, one, dr, rfl, J9.dr, hn, J9.lk, .inl (.inl J9.ro), rne, hdr', fun Hb sb => ?_⟩
              rw [next_mem (fun u => (mem u).symm), hnx]
              have Jb := J9.same sb
              refine ⟨lr, _, .str rm, rfl, rfl, Jb.ro, by rw [List.length_map, sizeLine_eq]; omega, ?_⟩
              rw [show rooms.map V.str ++ [V.str rm] = (rooms ++ [rm]).map V.str by simp]
              have Jc := Jb.putR hS wh (rooms ++ [rm])
              refine ⟨.ref lp, rfl, .inl ⟨rfl, _, .inl (.inl Jc.pa)⟩, .str one, rfl, lp, _, .str one, rfl, rfl, Jc.pa, by rw [List.length_map, sizeLine_eq]; omega, ?_⟩
              rw [show passed.map V.str ++ [V.str one] = (passed ++ [one]).map V.str by simp]
              have Jd := Jc.putP hS wh (passed ++ [one])
              refine ⟨.ref y, rfl, y, dy, _, rfl, Jd.wk.ob, rfl, .str one, rfl, y, b, p, srt ws, dy, x, py, c, l1, l2, passed, rooms, one, dr, rm, rfl, Jd.wk, rne, by omega, by omega, hdr', hnx, fun He be We => ?_⟩
              have Je := Jd.walk hS wh be We
              refine ⟨.ref lr, rfl, 1, rfl, lr, _, -1, _, rfl, rfl, .inl (.inl Je.ro), atI_end (by simp), rfl, _, rfl, ?_⟩
              rw [show ((rooms ++ [rm]).getLast?.getD ⟨#[]⟩) = rm by rw [List.getLast?_concat]; rfl, neV rfl]
              refine iteF ?_
              have wn := went_step hw hdr' hnx
              have lq : (passed ++ [one]).length ≤ i + 1 := by rw [List.length_append, List.length_singleton]; omega
              refine ⟨.ref t, rfl, .str n, rfl, .ref tl, rfl, .ref y, rfl, .ref lp, rfl, .ref lr, rfl, t, tl, y, lp, lr, b, n, p, srt ws, ws, dy, x, py, c, l1, l2, (passed ++ [one]), (rooms ++ [rm]), rfl, Je.dr, hn, Je.lk, fun u => (mem u).symm, Je.wk, .inl (.inl Je.pa), .inl (.inl Je.ro), (by simp), by have := lq; omega, (went_len _ _ wn).2, fun Hz sz => ⟨_, rfl, iteF ?_⟩⟩
              exact ⟨(passed ++ [one]), (rooms ++ [rm]), Je.same sz, wn, lq, _, _, _, rfl⟩
            · have hnx : nextOf b p (srt ws) rooms (one, dr) = none := by
                cases hq : nextOf b p (srt ws) rooms (one, dr) with
                | none => rfl
                | some rm =>
                  refine absurd (decide_eq_true (List.mem_filter.mpr ⟨hone, ?_⟩)) e5
                  unfold canGo
                  rw [hdr']
                  show (nextOf b p (srt ws) rooms (one, dr)).isSome = true
                  rw [hq]
                  rfl
              refine ⟨.ref y, rfl, .str one, rfl, y, b, p, srt ws, dy, x, py, c, l1, l2, passed, rooms, one, dr, rfl, J9.wk, rne, hdr', hnx, fun Hb sb => ⟨_, rfl, iteF ?_⟩⟩
              have Je := J9.same sb
              have lq : passed.length ≤ i + 1 := by omega
              refine ⟨.ref t, rfl, .str n, rfl, .ref tl, rfl, .ref y, rfl, .ref lp, rfl, .ref lr, rfl, t, tl, y, lp, lr, b, n, p, srt ws, ws, dy, x, py, c, l1, l2, passed, rooms, rfl, Je.dr, hn, Je.lk, fun u => (mem u).symm, Je.wk, .inl (.inl Je.pa), .inl (.inl Je.ro), rne, by have := lq; omega, (went_len _ _ hw).2, fun Hz sz => ⟨_, rfl, iteF ?_⟩⟩
              exact ⟨passed, rooms, Je.same sz, hw, lq, _, _, _, rfl⟩
        · refine iteF ?_
          refine ⟨.str one, rfl, .ref D, rfl, D, _, rfl, .inl (.inl (.inl eD8)), rfl, Lk.flat_strs _, _, rfl, ?_⟩
          rw [inV_str]
          obtain ⟨dr, hdr', _⟩ := name_look hone bok.dnd
          refine ite2 (fun e5 => ?_) (fun e5 => ?_)
          · have hin := (List.mem_filter.mp (of_decide_eq_true e5)).2
            have hin : canGo b p (srt ws) rooms one = true := hin
            unfold canGo at hin
            rw [hdr'] at hin
            obtain ⟨rm, hnx⟩ := Option.isSome_iff_exists.mp hin
            refine ⟨.ref lr, rfl, .inl ⟨rfl, _, .inl (.inl J8.ro)⟩, .ref t, rfl, .str n, rfl, .ref tl, rfl, .ref lr, rfl, .str one, rfl, t, tl, lr, b, n, p, ws, rooms, one, dr, rfl, J8.dr, hn, J8.lk, .inl (.inl J8.ro), rne, hdr', fun Hb sb => ?_⟩
            rw [next_mem (fun u => (mem u).symm), hnx]
            have Jb := J8.same sb
            refine ⟨lr, _, .str rm, rfl, rfl, Jb.ro, by rw [List.length_map, sizeLine_eq]; omega, ?_⟩
            rw [show rooms.map V.str ++ [V.str rm] = (rooms ++ [rm]).map V.str by simp]
            have Jc := Jb.putR hS wh (rooms ++ [rm])
            refine ⟨.ref lp, rfl, .inl ⟨rfl, _, .inl (.inl Jc.pa)⟩, .str one, rfl, lp, _, .str one, rfl, rfl, Jc.pa, by rw [List.length_map, sizeLine_eq]; omega, ?_⟩
            rw [show passed.map V.str ++ [V.str one] = (passed ++ [one]).map V.str by simp]
            have Jd := Jc.putP hS wh (passed ++ [one])
            refine ⟨.ref y, rfl, y, dy, _, rfl, Jd.wk.ob, rfl, .str one, rfl, y, b, p, srt ws, dy, x, py, c, l1, l2, passed, rooms, one, dr, rm, rfl, Jd.wk, rne, by omega, by omega, hdr', hnx, fun He be We => ?_⟩
            have Je := Jd.walk hS wh be We
            refine ⟨.ref lr, rfl, 1, rfl, lr, _, -1, _, rfl, rfl, .inl (.inl Je.ro), atI_end (by simp), rfl, _, rfl, ?_⟩
            rw [show ((rooms ++ [rm]).getLast?.getD ⟨#[]⟩) = rm by rw [List.getLast?_concat]; rfl, neV rfl]
            refine iteF ?_
            have wn := went_step hw hdr' hnx
            have lq : (passed ++ [one]).length ≤ i + 1 := by rw [List.length_append, List.length_singleton]; omega
            refine ⟨.ref t, rfl, .str n, rfl, .ref tl, rfl, .ref y, rfl, .ref lp, rfl, .ref lr, rfl, t, tl, y, lp, lr, b, n, p, srt ws, ws, dy, x, py, c, l1, l2, (passed ++ [one]), (rooms ++ [rm]), rfl, Je.dr, hn, Je.lk, fun u => (mem u).symm, Je.wk, .inl (.inl Je.pa), .inl (.inl Je.ro), (by simp), by have := lq; omega, (went_len _ _ wn).2, fun Hz sz => ⟨_, rfl, iteF ?_⟩⟩
            exact ⟨(passed ++ [one]), (rooms ++ [rm]), Je.same sz, wn, lq, _, _, _, rfl⟩
          · have hnx : nextOf b p (srt ws) rooms (one, dr) = none := by
              cases hq : nextOf b p (srt ws) rooms (one, dr) with
              | none => rfl
              | some rm =>
                refine absurd (decide_eq_true (List.mem_filter.mpr ⟨hone, ?_⟩)) e5
                unfold canGo
                rw [hdr']
                show (nextOf b p (srt ws) rooms (one, dr)).isSome = true
                rw [hq]
                rfl
            refine ⟨.ref y, rfl, .str one, rfl, y, b, p, srt ws, dy, x, py, c, l1, l2, passed, rooms, one, dr, rfl, J8.wk, rne, hdr', hnx, fun Hb sb => ⟨_, rfl, iteF ?_⟩⟩
            have Je := J8.same sb
            have lq : passed.length ≤ i + 1 := by omega
            refine ⟨.ref t, rfl, .str n, rfl, .ref tl, rfl, .ref y, rfl, .ref lp, rfl, .ref lr, rfl, t, tl, y, lp, lr, b, n, p, srt ws, ws, dy, x, py, c, l1, l2, passed, rooms, rfl, Je.dr, hn, Je.lk, fun u => (mem u).symm, Je.wk, .inl (.inl Je.pa), .inl (.inl Je.ro), rne, by have := lq; omega, (went_len _ _ hw).2, fun Hz sz => ⟨_, rfl, iteF ?_⟩⟩
            exact ⟨passed, rooms, Je.same sz, hw, lq, _, _, _, rfl⟩
    · obtain ⟨passed, rooms, J4, hw, hpl, y10, y11, y12, rfl⟩ := hP
      have hpl : passed.length ≤ 8 := hpl
      have lrm := (went_len _ _ hw).1
      have rne : rooms ≠ [] := fun z => by rw [z] at lrm; have : (0 : Nat) = 1 + passed.length := lrm; omega
      refine ⟨.ref t, rfl, .str n, rfl, .ref tl, rfl, rfl, .ref x, rfl, .str n, rfl, .ref c, rfl, .ref lp, rfl, lp, _, rfl, .inl ⟨.inl (.inl J4.pa), fun tt ntt => ?_⟩⟩
      have s5 := same_new (o := .tup (passed.map V.str)) ntt
      have J5 := J4.same s5
      refine ⟨x, c, tt, b, n, p, srt ws, passed, rooms, rfl, J5.wk.bld, hn, J5.wk.lk, lS, subS, .inl (.inl upd_same), by omega, hw, fun He y2 dy2 py2 k1 k2 se W2 => ?_⟩
      have J6 := J5.same se
      exact ⟨.ref lp, rfl, .ref lr, rfl, t, tl, y2, lp, lr, b, n, p, srt ws, ws, dy2, x, py2, c, k1, k2, passed, rooms, rfl, J6.dr, hn, J6.lk, fun u => (mem u).symm, W2, .inl (.inl J6.pa), .inl (.inl J6.ro), rne, by omega, (went_len _ _ hw).2, fun Hz sz => q _ (J6.m.more sz)⟩
end
end Lw
set_option Elab.async false
set_option linter.all false
set_option maxRecDepth 100000
set_option maxHeartbeats 4000000
namespace Lw
open PySem PySem.Spec PyProof.Rows L2 TxS LkO Lk
section
variable {P : Program} {w : World} {K : PySem.W.Frag} {mg : Str → Option Value} {base : Heap} {C : Addr}
def spLaw (K : PySem.W.Frag) : Sp := fun vs H Q _ => ∃ (a : Addr) (ns : List Int), vs = [.ref a] ∧ SqL K H a (ns.map V.int) ∧ ns.length ≤ 63 ∧ ∀ H', Q (.bl true) H'
theorem scLaw : FnScope ["_law_script", "_law_by"] ["_law_script"] (defScope s_law) := ⟨rfl, rfl, rfl, by decide +kernel, rfl, by decide +kernel, by decide +kernel⟩
theorem rg_small : ∀ j : Nat, j < 25 → Builtin.Range.small 0 (j : Int) 3 = true := by decide +kernel
theorem rg_size : ∀ j : Nat, j < 25 → Builtin.Range.rangeSize 0 (j : Int) 3 = ((Builtin.Range.rangeSize 0 (j : Int) 3).toNat : Int) := by decide +kernel
theorem ok_law {f : Addr} {fd : FuncData} (F : Fun K "law" "law" s_law f fd) (B : Blt mg)
    (GO : Fn P w K mg base 11 "_law_one_right" ["_law_state"] (spOne K)) :
    FnOk P w K mg base CX0 12 f fd ["_law_script"] (spLaw K) := by
  refine F.ok scLaw (fun vs H Q E h => ?_) (fun cdv A outer s H vs Q E hr h => ?_)
  · obtain ⟨a, ns, rfl, _⟩ := h
    rfl
  · obtain ⟨a, ns, rfl, hS, hl, q⟩ := h
    refine ⟨_, pss_cons (ps_for PassesOwn.never rfl (pi_range3 (by rfl) B.rng (pa_cons pe_int (pa_cons (pe_callB (call_max2 rfl) (by rfl) B.max PyProof.Rows.boot_max (pa_cons pe_int (pa_cons (pe_callB (call_min2 rfl) (by rfl) B.min PyProof.Rows.boot_min (pa_cons pe_int (pa_cons (pe_callB call_len_seq (by rfl) B.len PySem.boot_len (pa_cons (pv 0) pa_nil)) pa_nil))) pa_nil))) (pa_cons pe_int pa_nil)))) (pg_name (i := 1) scLaw.nd rfl (Or.inl rfl))
        (pss_one (ps_if (pt_not (pt_val (pe_fn GO hr (by rfl) (pa_cons (pe_lst (pa_cons (pv 0) (pa_cons (pv 1) (pa_cons pe_int pa_nil)))) pa_nil)))) (pss_one (ps_ret pe_bl)) pss_nil)))
      (pss_one (ps_ret pe_bl)), ?_⟩
    have key : ∃ j : Nat, j < 25 ∧ (if (if ((ns.map V.int).length : Int) < 24 then ((ns.map V.int).length : Int) else 24) > 1 then (if ((ns.map V.int).length : Int) < 24 then ((ns.map V.int).length : Int) else 24) else 1) = (j : Int) := by
      rw [List.length_map]
      by_cases c : (ns.length : Int) < 24
      · rw [if_pos c]
        by_cases d : (ns.length : Int) > 1
        · rw [if_pos d]
          exact ⟨ns.length, by omega, rfl⟩
        · rw [if_neg d]
          exact ⟨1, by omega, rfl⟩
      · rw [if_neg c]
        exact ⟨24, by omega, rfl⟩
    obtain ⟨j, hj, e⟩ := key
    refine ⟨.ref a, rfl, a, _, rfl, .inl hS, 24, _, rfl, 1, _, rfl, 0, (j : Int), 3, (Builtin.Range.rangeSize 0 (j : Int) 3).toNat, ?_, ⟨by decide, by decide, rg_small j hj, rg_size j hj⟩, for_it walk_rangeC (fun i σ H' => SqL K H' a (ns.map V.int) ∧ ∃ y1, σ = [some (.ref a), y1]) ⟨hS, none, rfl⟩ (fun _ _ _ _ _ => trivial) (fun i x σ H2 H3 hi hP hY => ?_) (fun σ H2 hP => ?_)⟩
    · rw [← e]
    · obtain ⟨rfl, rfl⟩ := hY
      obtain ⟨hS2, y1, rfl⟩ := hP
      have eb : (0 : Int) + (i : Nat) * 3 = ((i * 3 : Nat) : Int) := by omega
      refine ⟨.ref a, rfl, _, rfl, by show 3 ≤ sizeLine; rw [sizeLine_eq]; decide, fun p np => ⟨p, a, rfl, ⟨ns, i * 3, 0, ⟨?_, (same_new np).seq hS2⟩⟩, fun H4 x4 => ⟨true, rfl, iteF ⟨?_, _, rfl⟩⟩⟩⟩
      · have ev : (fun i : Nat => V.int ((0 : Int) + (i : Nat) * 3)) i = V.int ((i * 3 : Nat) : Int) := congrArg V.int eb
        rw [upd_same, ev]
        rfl
      · have hSt : Sta K (upd H3 p (.lst [.ref a, .int ((i * 3 : Nat) : Int), .int ((0 : Nat) : Int)])) p a ns (i * 3) 0 := ⟨upd_same, (same_new np).seq hS2⟩
        have ev : (fun i : Nat => V.int ((0 : Int) + (i : Nat) * 3)) i = V.int ((i * 3 : Nat) : Int) := congrArg V.int eb
        rw [ev] at x4
        exact hSt.sq x4.sx
    · exact q _
end
end Lw
set_option Elab.async false
set_option linter.all false
set_option maxRecDepth 100000
set_option maxHeartbeats 4000000
namespace Lw
open PySem PySem.Spec PyProof.Rows L2 TxS LkO Lk LkG
theorem all_mk {l : PySem.W.OpenLaw} {w : World} {K : PySem.W.Frag} {h : Heap} {mg : Str → Option Value} {fa : Addr} (X : K.In h) (G : h.Ns mainGlobals mg) (hfa : mg "law" = some (.ref fa))
    {f_is_name f_are_names f_all_in f_check_other f_is_cost f_is_table f_are_rooms f_is_key f_are_keys f_fits_door f_fits_person f_are_doors f_are_people f_check_building f_check_locks f_are_doors_of f_check_trail f_keys_held f_lets_through f_room_behind f__law_cell_at f__law_draw f__law_number f__law_next f__law_pick f__law_some f__law_drawn f__law_building f__law_locks f__law_held f__law_behind f__law_refused f__law_stands f__law_one_right f_law fL___init__ fL___or__ fL___contains__ fL_names fD___init__ fD_start fD_end fD_key fD_ways fP___init__ fP_start fP_carried fP_needs fP_shuns fB___init__ fB_rooms fB_key_rooms fB_doors fB_door fB_person fW___init__ fW_room fW_passed fW_visited fW_next_room fW_go fW_back fW_ahead fW___contains__ fW___len__ fW___bool__ fW_along CL CD CP CB CW pL_names pD_start pD_end pD_key pP_start pP_carried pP_needs pP_shuns pB_rooms pB_key_rooms pB_doors pW_room pW_passed pW_visited pW_along C_NoWay : Addr} {od_is_name an_is_name od_are_names an_are_names od_all_in an_all_in od_check_other an_check_other od_is_cost an_is_cost od_is_table an_is_table od_are_rooms an_are_rooms od_is_key an_is_key od_are_keys an_are_keys od_fits_door an_fits_door od_fits_person an_fits_person od_are_doors an_are_doors od_are_people an_are_people od_check_building an_check_building od_check_locks an_check_locks od_are_doors_of an_are_doors_of od_check_trail an_check_trail od_keys_held an_keys_held od_lets_through an_lets_through od_room_behind an_room_behind od__law_cell_at an__law_cell_at od__law_draw an__law_draw od__law_number an__law_number od__law_next an__law_next od__law_pick an__law_pick od__law_some an__law_some od__law_drawn an__law_drawn od__law_building an__law_building od__law_locks an__law_locks od__law_held an__law_held od__law_behind an__law_behind od__law_refused an__law_refused od__law_stands an__law_stands od__law_one_right an__law_one_right od_law an_law odL___init__ anL___init__ odL___or__ anL___or__ odL___contains__ anL___contains__ odL_names anL_names odD___init__ anD___init__ odD_start anD_start odD_end anD_end odD_key anD_key odD_ways anD_ways odP___init__ anP___init__ odP_start anP_start odP_carried anP_carried odP_needs anP_needs odP_shuns anP_shuns odB___init__ anB___init__ odB_rooms anB_rooms odB_key_rooms anB_key_rooms odB_doors anB_doors odB_door anB_door odB_person anB_person odW___init__ anW___init__ odW_room anW_room odW_passed anW_passed odW_visited anW_visited odW_next_room anW_next_room odW_go anW_go odW_back anW_back odW_ahead anW_ahead odW___contains__ anW___contains__ odW___len__ anW___len__ odW___bool__ anW___bool__ odW_along anW_along : Option Addr} {sl_is_name sl_are_names sl_all_in sl_check_other sl_is_cost sl_is_table sl_are_rooms sl_is_key sl_are_keys sl_fits_door sl_fits_person sl_are_doors sl_are_people sl_check_building sl_check_locks sl_are_doors_of sl_check_trail sl_keys_held sl_lets_through sl_room_behind sl__law_cell_at sl__law_draw sl__law_number sl__law_next sl__law_pick sl__law_some sl__law_drawn sl__law_building sl__law_locks sl__law_held sl__law_behind sl__law_refused sl__law_stands sl__law_one_right sl_law slL___init__ slL___or__ slL___contains__ slL_names slD___init__ slD_start slD_end slD_key slD_ways slP___init__ slP_start slP_carried slP_needs slP_shuns slB___init__ slB_rooms slB_key_rooms slB_doors slB_door slB_person slW___init__ slW_room slW_passed slW_visited slW_next_room slW_go slW_back slW_ahead slW___contains__ slW___len__ slW___bool__ slW_along : Array (Option Value)} {oc_is_name kV_is_name dc_is_name pm_is_name cd_is_name ct_is_name oc_are_names kV_are_names dc_are_names pm_are_names cd_are_names ct_are_names oc_all_in kV_all_in dc_all_in pm_all_in cd_all_in ct_all_in oc_check_other kV_check_other dc_check_other pm_check_other cd_check_other ct_check_other oc_is_cost kV_is_cost dc_is_cost pm_is_cost cd_is_cost ct_is_cost oc_is_table kV_is_table dc_is_table pm_is_table cd_is_table ct_is_table oc_are_rooms kV_are_rooms dc_are_rooms pm_are_rooms cd_are_rooms ct_are_rooms oc_is_key kV_is_key dc_is_key pm_is_key cd_is_key ct_is_key oc_are_keys kV_are_keys dc_are_keys pm_are_keys cd_are_keys ct_are_keys oc_fits_door kV_fits_door dc_fits_door pm_fits_door cd_fits_door ct_fits_door oc_fits_person kV_fits_person dc_fits_person pm_fits_person cd_fits_person ct_fits_person oc_are_doors kV_are_doors dc_are_doors pm_are_doors cd_are_doors ct_are_doors oc_are_people kV_are_people dc_are_people pm_are_people cd_are_people ct_are_people oc_check_building kV_check_building dc_check_building pm_check_building cd_check_building ct_check_building oc_check_locks kV_check_locks dc_check_locks pm_check_locks cd_check_locks ct_check_locks oc_are_doors_of kV_are_doors_of dc_are_doors_of pm_are_doors_of cd_are_doors_of ct_are_doors_of oc_check_trail kV_check_trail dc_check_trail pm_check_trail cd_check_trail ct_check_trail oc_keys_held kV_keys_held dc_keys_held pm_keys_held cd_keys_held ct_keys_held oc_lets_through kV_lets_through dc_lets_through pm_lets_through cd_lets_through ct_lets_through oc_room_behind kV_room_behind dc_room_behind pm_room_behind cd_room_behind ct_room_behind oc__law_cell_at kV__law_cell_at dc__law_cell_at pm__law_cell_at cd__law_cell_at ct__law_cell_at oc__law_draw kV__law_draw dc__law_draw pm__law_draw cd__law_draw ct__law_draw oc__law_number kV__law_number dc__law_number pm__law_number cd__law_number ct__law_number oc__law_next kV__law_next dc__law_next pm__law_next cd__law_next ct__law_next oc__law_pick kV__law_pick dc__law_pick pm__law_pick cd__law_pick ct__law_pick oc__law_some kV__law_some dc__law_some pm__law_some cd__law_some ct__law_some oc__law_drawn kV__law_drawn dc__law_drawn pm__law_drawn cd__law_drawn ct__law_drawn oc__law_building kV__law_building dc__law_building pm__law_building cd__law_building ct__law_building oc__law_locks kV__law_locks dc__law_locks pm__law_locks cd__law_locks ct__law_locks oc__law_held kV__law_held dc__law_held pm__law_held cd__law_held ct__law_held oc__law_behind kV__law_behind dc__law_behind pm__law_behind cd__law_behind ct__law_behind oc__law_refused kV__law_refused dc__law_refused pm__law_refused cd__law_refused ct__law_refused oc__law_stands kV__law_stands dc__law_stands pm__law_stands cd__law_stands ct__law_stands oc__law_one_right kV__law_one_right dc__law_one_right pm__law_one_right cd__law_one_right ct__law_one_right oc_law kV_law dc_law pm_law cd_law ct_law ocL___init__ kVL___init__ dcL___init__ pmL___init__ cdL___init__ ctL___init__ ocL___or__ kVL___or__ dcL___or__ pmL___or__ cdL___or__ ctL___or__ ocL___contains__ kVL___contains__ dcL___contains__ pmL___contains__ cdL___contains__ ctL___contains__ ocL_names kVL_names dcL_names pmL_names cdL_names ctL_names ocD___init__ kVD___init__ dcD___init__ pmD___init__ cdD___init__ ctD___init__ ocD_start kVD_start dcD_start pmD_start cdD_start ctD_start ocD_end kVD_end dcD_end pmD_end cdD_end ctD_end ocD_key kVD_key dcD_key pmD_key cdD_key ctD_key ocD_ways kVD_ways dcD_ways pmD_ways cdD_ways ctD_ways ocP___init__ kVP___init__ dcP___init__ pmP___init__ cdP___init__ ctP___init__ ocP_start kVP_start dcP_start pmP_start cdP_start ctP_start ocP_carried kVP_carried dcP_carried pmP_carried cdP_carried ctP_carried ocP_needs kVP_needs dcP_needs pmP_needs cdP_needs ctP_needs ocP_shuns kVP_shuns dcP_shuns pmP_shuns cdP_shuns ctP_shuns ocB___init__ kVB___init__ dcB___init__ pmB___init__ cdB___init__ ctB___init__ ocB_rooms kVB_rooms dcB_rooms pmB_rooms cdB_rooms ctB_rooms ocB_key_rooms kVB_key_rooms dcB_key_rooms pmB_key_rooms cdB_key_rooms ctB_key_rooms ocB_doors kVB_doors dcB_doors pmB_doors cdB_doors ctB_doors ocB_door kVB_door dcB_door pmB_door cdB_door ctB_door ocB_person kVB_person dcB_person pmB_person cdB_person ctB_person ocW___init__ kVW___init__ dcW___init__ pmW___init__ cdW___init__ ctW___init__ ocW_room kVW_room dcW_room pmW_room cdW_room ctW_room ocW_passed kVW_passed dcW_passed pmW_passed cdW_passed ctW_passed ocW_visited kVW_visited dcW_visited pmW_visited cdW_visited ctW_visited ocW_next_room kVW_next_room dcW_next_room pmW_next_room cdW_next_room ctW_next_room ocW_go kVW_go dcW_go pmW_go cdW_go ctW_go ocW_back kVW_back dcW_back pmW_back cdW_back ctW_back ocW_ahead kVW_ahead dcW_ahead pmW_ahead cdW_ahead ctW_ahead ocW___contains__ kVW___contains__ dcW___contains__ pmW___contains__ cdW___contains__ ctW___contains__ ocW___len__ kVW___len__ dcW___len__ pmW___len__ cdW___len__ ctW___len__ ocW___bool__ kVW___bool__ dcW___bool__ pmW___bool__ cdW___bool__ ctW___bool__ ocW_along kVW_along dcW_along pmW_along cdW_along ctW_along : Value} {tk0 tk1 tk2 tk3 tk4 tk5 tk6 tk7 : Tok} {rsL_names rsD_start rsD_end rsD_key rsP_start rsP_carried rsP_needs rsP_shuns rsB_rooms rsB_key_rooms rsB_doors rsW_room rsW_passed rsW_visited rsW_along : List Value}
    (a_is_name : PySem.W.nsIn K mainGlobals "is_name" = some (some (.ref f_is_name)))
    (l_is_name : K.lookup f_is_name = some ⟨oc_is_name, od_is_name, .func (PySem.W.fnOf "is_name" "is_name" (defArgs s_is_name) (defBody s_is_name) (defScope s_is_name) .none kV_is_name dc_is_name pm_is_name an_is_name cd_is_name ct_is_name), sl_is_name⟩)
    (c_is_name : PySem.W.codeIn K cd_is_name "is_name" = true)
    (k_is_name : PySem.W.keepIn K (.ref f_is_name) = true)
    (a_are_names : PySem.W.nsIn K mainGlobals "are_names" = some (some (.ref f_are_names)))
    (l_are_names : K.lookup f_are_names = some ⟨oc_are_names, od_are_names, .func (PySem.W.fnOf "are_names" "are_names" (defArgs s_are_names) (defBody s_are_names) (defScope s_are_names) .none kV_are_names dc_are_names pm_are_names an_are_names cd_are_names ct_are_names), sl_are_names⟩)
    (c_are_names : PySem.W.codeIn K cd_are_names "are_names" = true)
    (k_are_names : PySem.W.keepIn K (.ref f_are_names) = true)
    (a_all_in : PySem.W.nsIn K mainGlobals "all_in" = some (some (.ref f_all_in)))
    (l_all_in : K.lookup f_all_in = some ⟨oc_all_in, od_all_in, .func (PySem.W.fnOf "all_in" "all_in" (defArgs s_all_in) (defBody s_all_in) (defScope s_all_in) .none kV_all_in dc_all_in pm_all_in an_all_in cd_all_in ct_all_in), sl_all_in⟩)
    (c_all_in : PySem.W.codeIn K cd_all_in "all_in" = true)
    (k_all_in : PySem.W.keepIn K (.ref f_all_in) = true)
    (a_check_other : PySem.W.nsIn K mainGlobals "check_other" = some (some (.ref f_check_other)))
    (l_check_other : K.lookup f_check_other = some ⟨oc_check_other, od_check_other, .func (PySem.W.fnOf "check_other" "check_other" (defArgs s_check_other) (defBody s_check_other) (defScope s_check_other) .none kV_check_other dc_check_other pm_check_other an_check_other cd_check_other ct_check_other), sl_check_other⟩)
    (c_check_other : PySem.W.codeIn K cd_check_other "check_other" = true)
    (k_check_other : PySem.W.keepIn K (.ref f_check_other) = true)
    (a_is_cost : PySem.W.nsIn K mainGlobals "is_cost" = some (some (.ref f_is_cost)))
    (l_is_cost : K.lookup f_is_cost = some ⟨oc_is_cost, od_is_cost, .func (PySem.W.fnOf "is_cost" "is_cost" (defArgs s_is_cost) (defBody s_is_cost) (defScope s_is_cost) .none kV_is_cost dc_is_cost pm_is_cost an_is_cost cd_is_cost ct_is_cost), sl_is_cost⟩)
    (c_is_cost : PySem.W.codeIn K cd_is_cost "is_cost" = true)
    (k_is_cost : PySem.W.keepIn K (.ref f_is_cost) = true)
    (a_is_table : PySem.W.nsIn K mainGlobals "is_table" = some (some (.ref f_is_table)))
    (l_is_table : K.lookup f_is_table = some ⟨oc_is_table, od_is_table, .func (PySem.W.fnOf "is_table" "is_table" (defArgs s_is_table) (defBody s_is_table) (defScope s_is_table) .none kV_is_table dc_is_table pm_is_table an_is_table cd_is_table ct_is_table), sl_is_table⟩)
    (c_is_table : PySem.W.codeIn K cd_is_table "is_table" = true)
    (k_is_table : PySem.W.keepIn K (.ref f_is_table) = true)
    (a_are_rooms : PySem.W.nsIn K mainGlobals "are_rooms" = some (some (.ref f_are_rooms)))
    (l_are_rooms : K.lookup f_are_rooms = some ⟨oc_are_rooms, od_are_rooms, .func (PySem.W.fnOf "are_rooms" "are_rooms" (defArgs s_are_rooms) (defBody s_are_rooms) (defScope s_are_rooms) .none kV_are_rooms dc_are_rooms pm_are_rooms an_are_rooms cd_are_rooms ct_are_rooms), sl_are_rooms⟩)
    (c_are_rooms : PySem.W.codeIn K cd_are_rooms "are_rooms" = true)
    (k_are_rooms : PySem.W.keepIn K (.ref f_are_rooms) = true)
    (a_is_key : PySem.W.nsIn K mainGlobals "is_key" = some (some (.ref f_is_key)))
    (l_is_key : K.lookup f_is_key = some ⟨oc_is_key, od_is_key, .func (PySem.W.fnOf "is_key" "is_key" (defArgs s_is_key) (defBody s_is_key) (defScope s_is_key) .none kV_is_key dc_is_key pm_is_key an_is_key cd_is_key ct_is_key), sl_is_key⟩)
    (c_is_key : PySem.W.codeIn K cd_is_key "is_key" = true)
    (k_is_key : PySem.W.keepIn K (.ref f_is_key) = true)
    (a_are_keys : PySem.W.nsIn K mainGlobals "are_keys" = some (some (.ref f_are_keys)))
    (l_are_keys : K.lookup f_are_keys = some ⟨oc_are_keys, od_are_keys, .func (PySem.W.fnOf "are_keys" "are_keys" (defArgs s_are_keys) (defBody s_are_keys) (defScope s_are_keys) .none kV_are_keys dc_are_keys pm_are_keys an_are_keys cd_are_keys ct_are_keys), sl_are_keys⟩)
    (c_are_keys : PySem.W.codeIn K cd_are_keys "are_keys" = true)
    (k_are_keys : PySem.W.keepIn K (.ref f_are_keys) = true)
    (a_fits_door : PySem.W.nsIn K mainGlobals "fits_door" = some (some (.ref f_fits_door)))
    (l_fits_door : K.lookup f_fits_door = some ⟨oc_fits_door, od_fits_door, .func (PySem.W.fnOf "fits_door" "fits_door" (defArgs s_fits_door) (defBody s_fits_door) (defScope s_fits_door) .none kV_fits_door dc_fits_door pm_fits_door an_fits_door cd_fits_door ct_fits_door), sl_fits_door⟩)
    (c_fits_door : PySem.W.codeIn K cd_fits_door "fits_door" = true)
    (k_fits_door : PySem.W.keepIn K (.ref f_fits_door) = true)
    (a_fits_person : PySem.W.nsIn K mainGlobals "fits_person" = some (some (.ref f_fits_person)))
    (l_fits_person : K.lookup f_fits_person = some ⟨oc_fits_person, od_fits_person, .func (PySem.W.fnOf "fits_person" "fits_person" (defArgs s_fits_person) (defBody s_fits_person) (defScope s_fits_person) .none kV_fits_person dc_fits_person pm_fits_person an_fits_person cd_fits_person ct_fits_person), sl_fits_person⟩)
    (c_fits_person : PySem.W.codeIn K cd_fits_person "fits_person" = true)
    (k_fits_person : PySem.W.keepIn K (.ref f_fits_person) = true)
    (a_are_doors : PySem.W.nsIn K mainGlobals "are_doors" = some (some (.ref f_are_doors)))
    (l_are_doors : K.lookup f_are_doors = some ⟨oc_are_doors, od_are_doors, .func (PySem.W.fnOf "are_doors" "are_doors" (defArgs s_are_doors) (defBody s_are_doors) (defScope s_are_doors) .none kV_are_doors dc_are_doors pm_are_doors an_are_doors cd_are_doors ct_are_doors), sl_are_doors⟩)
    (c_are_doors : PySem.W.codeIn K cd_are_doors "are_doors" = true)
    (k_are_doors : PySem.W.keepIn K (.ref f_are_doors) = true)
    (a_are_people : PySem.W.nsIn K mainGlobals "are_people" = some (some (.ref f_are_people)))
    (l_are_people : K.lookup f_are_people = some ⟨oc_are_people, od_are_people, .func (PySem.W.fnOf "are_people" "are_people" (defArgs s_are_people) (defBody s_are_people) (defScope s_are_people) .none kV_are_people dc_are_people pm_are_people an_are_people cd_are_people ct_are_people), sl_are_people⟩)
    (c_are_people : PySem.W.codeIn K cd_are_people "are_people" = true)
    (k_are_people : PySem.W.keepIn K (.ref f_are_people) = true)
    (a_check_building : PySem.W.nsIn K mainGlobals "check_building" = some (some (.ref f_check_building)))
    (l_check_building : K.lookup f_check_building = some ⟨oc_check_building, od_check_building, .func (PySem.W.fnOf "check_building" "check_building" (defArgs s_check_building) (defBody s_check_building) (defScope s_check_building) .none kV_check_building dc_check_building pm_check_building an_check_building cd_check_building ct_check_building), sl_check_building⟩)
    (c_check_building : PySem.W.codeIn K cd_check_building "check_building" = true)
    (k_check_building : PySem.W.keepIn K (.ref f_check_building) = true)
    (a_check_locks : PySem.W.nsIn K mainGlobals "check_locks" = some (some (.ref f_check_locks)))
    (l_check_locks : K.lookup f_check_locks = some ⟨oc_check_locks, od_check_locks, .func (PySem.W.fnOf "check_locks" "check_locks" (defArgs s_check_locks) (defBody s_check_locks) (defScope s_check_locks) .none kV_check_locks dc_check_locks pm_check_locks an_check_locks cd_check_locks ct_check_locks), sl_check_locks⟩)
    (c_check_locks : PySem.W.codeIn K cd_check_locks "check_locks" = true)
    (k_check_locks : PySem.W.keepIn K (.ref f_check_locks) = true)
    (a_are_doors_of : PySem.W.nsIn K mainGlobals "are_doors_of" = some (some (.ref f_are_doors_of)))
    (l_are_doors_of : K.lookup f_are_doors_of = some ⟨oc_are_doors_of, od_are_doors_of, .func (PySem.W.fnOf "are_doors_of" "are_doors_of" (defArgs s_are_doors_of) (defBody s_are_doors_of) (defScope s_are_doors_of) .none kV_are_doors_of dc_are_doors_of pm_are_doors_of an_are_doors_of cd_are_doors_of ct_are_doors_of), sl_are_doors_of⟩)
    (c_are_doors_of : PySem.W.codeIn K cd_are_doors_of "are_doors_of" = true)
    (k_are_doors_of : PySem.W.keepIn K (.ref f_are_doors_of) = true)
    (a_check_trail : PySem.W.nsIn K mainGlobals "check_trail" = some (some (.ref f_check_trail)))
    (l_check_trail : K.lookup f_check_trail = some ⟨oc_check_trail, od_check_trail, .func (PySem.W.fnOf "check_trail" "check_trail" (defArgs s_check_trail) (defBody s_check_trail) (defScope s_check_trail) .none kV_check_trail dc_check_trail pm_check_trail an_check_trail cd_check_trail ct_check_trail), sl_check_trail⟩)
    (c_check_trail : PySem.W.codeIn K cd_check_trail "check_trail" = true)
    (k_check_trail : PySem.W.keepIn K (.ref f_check_trail) = true)
    (a_keys_held : PySem.W.nsIn K mainGlobals "keys_held" = some (some (.ref f_keys_held)))
    (l_keys_held : K.lookup f_keys_held = some ⟨oc_keys_held, od_keys_held, .func (PySem.W.fnOf "keys_held" "keys_held" (defArgs s_keys_held) (defBody s_keys_held) (defScope s_keys_held) .none kV_keys_held dc_keys_held pm_keys_held an_keys_held cd_keys_held ct_keys_held), sl_keys_held⟩)
    (c_keys_held : PySem.W.codeIn K cd_keys_held "keys_held" = true)
    (k_keys_held : PySem.W.keepIn K (.ref f_keys_held) = true)
    (a_lets_through : PySem.W.nsIn K mainGlobals "lets_through" = some (some (.ref f_lets_through)))
    (l_lets_through : K.lookup f_lets_through = some ⟨oc_lets_through, od_lets_through, .func (PySem.W.fnOf "lets_through" "lets_through" (defArgs s_lets_through) (defBody s_lets_through) (defScope s_lets_through) .none kV_lets_through dc_lets_through pm_lets_through an_lets_through cd_lets_through ct_lets_through), sl_lets_through⟩)
    (c_lets_through : PySem.W.codeIn K cd_lets_through "lets_through" = true)
    (k_lets_through : PySem.W.keepIn K (.ref f_lets_through) = true)
    (a_room_behind : PySem.W.nsIn K mainGlobals "room_behind" = some (some (.ref f_room_behind)))
    (l_room_behind : K.lookup f_room_behind = some ⟨oc_room_behind, od_room_behind, .func (PySem.W.fnOf "room_behind" "room_behind" (defArgs s_room_behind) (defBody s_room_behind) (defScope s_room_behind) .none kV_room_behind dc_room_behind pm_room_behind an_room_behind cd_room_behind ct_room_behind), sl_room_behind⟩)
    (c_room_behind : PySem.W.codeIn K cd_room_behind "room_behind" = true)
    (k_room_behind : PySem.W.keepIn K (.ref f_room_behind) = true)
    (a__law_cell_at : PySem.W.nsIn K mainGlobals "_law_cell_at" = some (some (.ref f__law_cell_at)))
    (l__law_cell_at : K.lookup f__law_cell_at = some ⟨oc__law_cell_at, od__law_cell_at, .func (PySem.W.fnOf "_law_cell_at" "_law_cell_at" (defArgs s__law_cell_at) (defBody s__law_cell_at) (defScope s__law_cell_at) .none kV__law_cell_at dc__law_cell_at pm__law_cell_at an__law_cell_at cd__law_cell_at ct__law_cell_at), sl__law_cell_at⟩)
    (c__law_cell_at : PySem.W.codeIn K cd__law_cell_at "_law_cell_at" = true)
    (k__law_cell_at : PySem.W.keepIn K (.ref f__law_cell_at) = true)
    (a__law_draw : PySem.W.nsIn K mainGlobals "_law_draw" = some (some (.ref f__law_draw)))
    (l__law_draw : K.lookup f__law_draw = some ⟨oc__law_draw, od__law_draw, .func (PySem.W.fnOf "_law_draw" "_law_draw" (defArgs s__law_draw) (defBody s__law_draw) (defScope s__law_draw) .none kV__law_draw dc__law_draw pm__law_draw an__law_draw cd__law_draw ct__law_draw), sl__law_draw⟩)
    (c__law_draw : PySem.W.codeIn K cd__law_draw "_law_draw" = true)
    (k__law_draw : PySem.W.keepIn K (.ref f__law_draw) = true)
    (a__law_number : PySem.W.nsIn K mainGlobals "_law_number" = some (some (.ref f__law_number)))
    (l__law_number : K.lookup f__law_number = some ⟨oc__law_number, od__law_number, .func (PySem.W.fnOf "_law_number" "_law_number" (defArgs s__law_number) (defBody s__law_number) (defScope s__law_number) .none kV__law_number dc__law_number pm__law_number an__law_number cd__law_number ct__law_number), sl__law_number⟩)
    (c__law_number : PySem.W.codeIn K cd__law_number "_law_number" = true)
    (k__law_number : PySem.W.keepIn K (.ref f__law_number) = true)
    (a__law_next : PySem.W.nsIn K mainGlobals "_law_next" = some (some (.ref f__law_next)))
    (l__law_next : K.lookup f__law_next = some ⟨oc__law_next, od__law_next, .func (PySem.W.fnOf "_law_next" "_law_next" (defArgs s__law_next) (defBody s__law_next) (defScope s__law_next) .none kV__law_next dc__law_next pm__law_next an__law_next cd__law_next ct__law_next), sl__law_next⟩)
    (c__law_next : PySem.W.codeIn K cd__law_next "_law_next" = true)
    (k__law_next : PySem.W.keepIn K (.ref f__law_next) = true)
    (a__law_pick : PySem.W.nsIn K mainGlobals "_law_pick" = some (some (.ref f__law_pick)))
    (l__law_pick : K.lookup f__law_pick = some ⟨oc__law_pick, od__law_pick, .func (PySem.W.fnOf "_law_pick" "_law_pick" (defArgs s__law_pick) (defBody s__law_pick) (defScope s__law_pick) .none kV__law_pick dc__law_pick pm__law_pick an__law_pick cd__law_pick ct__law_pick), sl__law_pick⟩)
    (c__law_pick : PySem.W.codeIn K cd__law_pick "_law_pick" = true)
    (k__law_pick : PySem.W.keepIn K (.ref f__law_pick) = true)
    (a__law_some : PySem.W.nsIn K mainGlobals "_law_some" = some (some (.ref f__law_some)))
    (l__law_some : K.lookup f__law_some = some ⟨oc__law_some, od__law_some, .func (PySem.W.fnOf "_law_some" "_law_some" (defArgs s__law_some) (defBody s__law_some) (defScope s__law_some) .none kV__law_some dc__law_some pm__law_some an__law_some cd__law_some ct__law_some), sl__law_some⟩)
    (c__law_some : PySem.W.codeIn K cd__law_some "_law_some" = true)
    (k__law_some : PySem.W.keepIn K (.ref f__law_some) = true)
    (a__law_drawn : PySem.W.nsIn K mainGlobals "_law_drawn" = some (some (.ref f__law_drawn)))
    (l__law_drawn : K.lookup f__law_drawn = some ⟨oc__law_drawn, od__law_drawn, .func (PySem.W.fnOf "_law_drawn" "_law_drawn" (defArgs s__law_drawn) (defBody s__law_drawn) (defScope s__law_drawn) .none kV__law_drawn dc__law_drawn pm__law_drawn an__law_drawn cd__law_drawn ct__law_drawn), sl__law_drawn⟩)
    (c__law_drawn : PySem.W.codeIn K cd__law_drawn "_law_drawn" = true)
    (k__law_drawn : PySem.W.keepIn K (.ref f__law_drawn) = true)
    (a__law_building : PySem.W.nsIn K mainGlobals "_law_building" = some (some (.ref f__law_building)))
    (l__law_building : K.lookup f__law_building = some ⟨oc__law_building, od__law_building, .func (PySem.W.fnOf "_law_building" "_law_building" (defArgs s__law_building) (defBody s__law_building) (defScope s__law_building) .none kV__law_building dc__law_building pm__law_building an__law_building cd__law_building ct__law_building), sl__law_building⟩)
    (c__law_building : PySem.W.codeIn K cd__law_building "_law_building" = true)
    (k__law_building : PySem.W.keepIn K (.ref f__law_building) = true)
    (a__law_locks : PySem.W.nsIn K mainGlobals "_law_locks" = some (some (.ref f__law_locks)))
    (l__law_locks : K.lookup f__law_locks = some ⟨oc__law_locks, od__law_locks, .func (PySem.W.fnOf "_law_locks" "_law_locks" (defArgs s__law_locks) (defBody s__law_locks) (defScope s__law_locks) .none kV__law_locks dc__law_locks pm__law_locks an__law_locks cd__law_locks ct__law_locks), sl__law_locks⟩)
    (c__law_locks : PySem.W.codeIn K cd__law_locks "_law_locks" = true)
    (k__law_locks : PySem.W.keepIn K (.ref f__law_locks) = true)
    (a__law_held : PySem.W.nsIn K mainGlobals "_law_held" = some (some (.ref f__law_held)))
    (l__law_held : K.lookup f__law_held = some ⟨oc__law_held, od__law_held, .func (PySem.W.fnOf "_law_held" "_law_held" (defArgs s__law_held) (defBody s__law_held) (defScope s__law_held) .none kV__law_held dc__law_held pm__law_held an__law_held cd__law_held ct__law_held), sl__law_held⟩)
    (c__law_held : PySem.W.codeIn K cd__law_held "_law_held" = true)
    (k__law_held : PySem.W.keepIn K (.ref f__law_held) = true)
    (a__law_behind : PySem.W.nsIn K mainGlobals "_law_behind" = some (some (.ref f__law_behind)))
    (l__law_behind : K.lookup f__law_behind = some ⟨oc__law_behind, od__law_behind, .func (PySem.W.fnOf "_law_behind" "_law_behind" (defArgs s__law_behind) (defBody s__law_behind) (defScope s__law_behind) .none kV__law_behind dc__law_behind pm__law_behind an__law_behind cd__law_behind ct__law_behind), sl__law_behind⟩)
    (c__law_behind : PySem.W.codeIn K cd__law_behind "_law_behind" = true)
    (k__law_behind : PySem.W.keepIn K (.ref f__law_behind) = true)
    (a__law_refused : PySem.W.nsIn K mainGlobals "_law_refused" = some (some (.ref f__law_refused)))
    (l__law_refused : K.lookup f__law_refused = some ⟨oc__law_refused, od__law_refused, .func (PySem.W.fnOf "_law_refused" "_law_refused" (defArgs s__law_refused) (defBody s__law_refused) (defScope s__law_refused) .none kV__law_refused dc__law_refused pm__law_refused an__law_refused cd__law_refused ct__law_refused), sl__law_refused⟩)
    (c__law_refused : PySem.W.codeIn K cd__law_refused "_law_refused" = true)
    (k__law_refused : PySem.W.keepIn K (.ref f__law_refused) = true)
    (a__law_stands : PySem.W.nsIn K mainGlobals "_law_stands" = some (some (.ref f__law_stands)))
    (l__law_stands : K.lookup f__law_stands = some ⟨oc__law_stands, od__law_stands, .func (PySem.W.fnOf "_law_stands" "_law_stands" (defArgs s__law_stands) (defBody s__law_stands) (defScope s__law_stands) .none kV__law_stands dc__law_stands pm__law_stands an__law_stands cd__law_stands ct__law_stands), sl__law_stands⟩)
    (c__law_stands : PySem.W.codeIn K cd__law_stands "_law_stands" = true)
    (k__law_stands : PySem.W.keepIn K (.ref f__law_stands) = true)
    (a__law_one_right : PySem.W.nsIn K mainGlobals "_law_one_right" = some (some (.ref f__law_one_right)))
    (l__law_one_right : K.lookup f__law_one_right = some ⟨oc__law_one_right, od__law_one_right, .func (PySem.W.fnOf "_law_one_right" "_law_one_right" (defArgs s__law_one_right) (defBody s__law_one_right) (defScope s__law_one_right) .none kV__law_one_right dc__law_one_right pm__law_one_right an__law_one_right cd__law_one_right ct__law_one_right), sl__law_one_right⟩)
    (c__law_one_right : PySem.W.codeIn K cd__law_one_right "_law_one_right" = true)
    (k__law_one_right : PySem.W.keepIn K (.ref f__law_one_right) = true)
    (a_law : PySem.W.nsIn K mainGlobals "law" = some (some (.ref f_law)))
    (l_law : K.lookup f_law = some ⟨oc_law, od_law, .func (PySem.W.fnOf "law" "law" (defArgs s_law) (defBody s_law) (defScope s_law) .none kV_law dc_law pm_law an_law cd_law ct_law), sl_law⟩)
    (c_law : PySem.W.codeIn K cd_law "law" = true)
    (k_law : PySem.W.keepIn K (.ref f_law) = true)
    (a_Locks : PySem.W.nsIn K mainGlobals "Locks" = some (some (.ref CL)))
    (pgL : PySem.W.plainGet K CL Str.empty = true)
    (hdL : PySem.W.hasDictIn K CL = true)
    (poL : PySem.W.plainOver K CL = true)
    (saL : PySem.W.findIn K (.ref CL) "__setattr__" = some (some (.builtin "object.__setattr__")))
    (mkL : PySem.W.makesIn K CL = true)
    (kcL : PySem.W.keepIn K (.ref CL) = true)
    (tycL : PySem.W.findIn K (.ref CL) "__class__" = some (some (.builtin "object.__class__")))
    (tymL : PySem.W.mroIn K CL (.type "object") = some true)
    (sfL : PySem.W.selfFirst K CL = true)
    (nbL : PySem.W.findIn K (.ref CL) "__bool__" = some none)
    (noL0 : PySem.W.findIn K (.ref CL) "kept_names" = some none)
    (a_Door : PySem.W.nsIn K mainGlobals "Door" = some (some (.ref CD)))
    (pgD : PySem.W.plainGet K CD Str.empty = true)
    (hdD : PySem.W.hasDictIn K CD = true)
    (poD : PySem.W.plainOver K CD = true)
    (saD : PySem.W.findIn K (.ref CD) "__setattr__" = some (some (.builtin "object.__setattr__")))
    (mkD : PySem.W.makesIn K CD = true)
    (kcD : PySem.W.keepIn K (.ref CD) = true)
    (tycD : PySem.W.findIn K (.ref CD) "__class__" = some (some (.builtin "object.__class__")))
    (tymD : PySem.W.mroIn K CD (.type "object") = some true)
    (noD0 : PySem.W.findIn K (.ref CD) "kept_start" = some none)
    (noD1 : PySem.W.findIn K (.ref CD) "kept_end" = some none)
    (noD2 : PySem.W.findIn K (.ref CD) "kept_key" = some none)
    (noD3 : PySem.W.findIn K (.ref CD) "kept_both" = some none)
    (noD4 : PySem.W.findIn K (.ref CD) "kept_cost" = some none)
    (a_Person : PySem.W.nsIn K mainGlobals "Person" = some (some (.ref CP)))
    (pgP : PySem.W.plainGet K CP Str.empty = true)
    (hdP : PySem.W.hasDictIn K CP = true)
    (poP : PySem.W.plainOver K CP = true)
    (saP : PySem.W.findIn K (.ref CP) "__setattr__" = some (some (.builtin "object.__setattr__")))
    (mkP : PySem.W.makesIn K CP = true)
    (kcP : PySem.W.keepIn K (.ref CP) = true)
    (tycP : PySem.W.findIn K (.ref CP) "__class__" = some (some (.builtin "object.__class__")))
    (tymP : PySem.W.mroIn K CP (.type "object") = some true)
    (noP0 : PySem.W.findIn K (.ref CP) "kept_start" = some none)
    (noP1 : PySem.W.findIn K (.ref CP) "kept_carried" = some none)
    (noP2 : PySem.W.findIn K (.ref CP) "kept_needs" = some none)
    (noP3 : PySem.W.findIn K (.ref CP) "kept_shuns" = some none)
    (a_Building : PySem.W.nsIn K mainGlobals "Building" = some (some (.ref CB)))
    (pgB : PySem.W.plainGet K CB Str.empty = true)
    (hdB : PySem.W.hasDictIn K CB = true)
    (poB : PySem.W.plainOver K CB = true)
    (saB : PySem.W.findIn K (.ref CB) "__setattr__" = some (some (.builtin "object.__setattr__")))
    (mkB : PySem.W.makesIn K CB = true)
    (kcB : PySem.W.keepIn K (.ref CB) = true)
    (tycB : PySem.W.findIn K (.ref CB) "__class__" = some (some (.builtin "object.__class__")))
    (tymB : PySem.W.mroIn K CB (.type "object") = some true)
    (noB0 : PySem.W.findIn K (.ref CB) "kept_rooms" = some none)
    (noB1 : PySem.W.findIn K (.ref CB) "kept_keys" = some none)
    (noB2 : PySem.W.findIn K (.ref CB) "door_names" = some none)
    (noB3 : PySem.W.findIn K (.ref CB) "kept_doors" = some none)
    (noB4 : PySem.W.findIn K (.ref CB) "person_names" = some none)
    (noB5 : PySem.W.findIn K (.ref CB) "kept_people" = some none)
    (a_Walk : PySem.W.nsIn K mainGlobals "Walk" = some (some (.ref CW)))
    (pgW : PySem.W.plainGet K CW Str.empty = true)
    (hdW : PySem.W.hasDictIn K CW = true)
    (poW : PySem.W.plainOver K CW = true)
    (saW : PySem.W.findIn K (.ref CW) "__setattr__" = some (some (.builtin "object.__setattr__")))
    (mkW : PySem.W.makesIn K CW = true)
    (kcW : PySem.W.keepIn K (.ref CW) = true)
    (tycW : PySem.W.findIn K (.ref CW) "__class__" = some (some (.builtin "object.__class__")))
    (tymW : PySem.W.mroIn K CW (.type "object") = some true)
    (noW0 : PySem.W.findIn K (.ref CW) "kept_building" = some none)
    (noW1 : PySem.W.findIn K (.ref CW) "kept_person" = some none)
    (noW2 : PySem.W.findIn K (.ref CW) "kept_locks" = some none)
    (noW3 : PySem.W.findIn K (.ref CW) "kept_passed" = some none)
    (noW4 : PySem.W.findIn K (.ref CW) "kept_stops" = some none)
    (aL___init__ : PySem.W.findIn K (.ref CL) "__init__" = some (some (.ref fL___init__)))
    (iL___init__ : PySem.W.isFn K (.ref fL___init__) = true)
    (lL___init__ : K.lookup fL___init__ = some ⟨ocL___init__, odL___init__, .func (PySem.W.fnOf "__init__" "Locks.__init__" (defArgs s_Locks___init__) (defBody s_Locks___init__) (defScope s_Locks___init__) .none kVL___init__ dcL___init__ pmL___init__ anL___init__ cdL___init__ ctL___init__), slL___init__⟩)
    (cL___init__ : PySem.W.codeIn K cdL___init__ "Locks.__init__" = true)
    (kL___init__ : PySem.W.keepIn K (.ref fL___init__) = true)
    (aL___or__ : PySem.W.findIn K (.ref CL) "__or__" = some (some (.ref fL___or__)))
    (iL___or__ : PySem.W.isFn K (.ref fL___or__) = true)
    (lL___or__ : K.lookup fL___or__ = some ⟨ocL___or__, odL___or__, .func (PySem.W.fnOf "__or__" "Locks.__or__" (defArgs s_Locks___or__) (defBody s_Locks___or__) (defScope s_Locks___or__) .none kVL___or__ dcL___or__ pmL___or__ anL___or__ cdL___or__ ctL___or__), slL___or__⟩)
    (cL___or__ : PySem.W.codeIn K cdL___or__ "Locks.__or__" = true)
    (kL___or__ : PySem.W.keepIn K (.ref fL___or__) = true)
    (aL___contains__ : PySem.W.findIn K (.ref CL) "__contains__" = some (some (.ref fL___contains__)))
    (iL___contains__ : PySem.W.isFn K (.ref fL___contains__) = true)
    (lL___contains__ : K.lookup fL___contains__ = some ⟨ocL___contains__, odL___contains__, .func (PySem.W.fnOf "__contains__" "Locks.__contains__" (defArgs s_Locks___contains__) (defBody s_Locks___contains__) (defScope s_Locks___contains__) .none kVL___contains__ dcL___contains__ pmL___contains__ anL___contains__ cdL___contains__ ctL___contains__), slL___contains__⟩)
    (cL___contains__ : PySem.W.codeIn K cdL___contains__ "Locks.__contains__" = true)
    (kL___contains__ : PySem.W.keepIn K (.ref fL___contains__) = true)
    (aL_names : PySem.W.findIn K (.ref CL) "names" = some (some (.ref pL_names)))
    (gL_names : PySem.W.specialIn K (.ref pL_names) "__get__" = some (some (.builtin "property.__get__")))
    (tL_names : PySem.W.takesIn K (.ref pL_names) = some true)
    (rL_names : PySem.W.recIn K pL_names "property" = some (.ref fL_names :: rsL_names))
    (lL_names : K.lookup fL_names = some ⟨ocL_names, odL_names, .func (PySem.W.fnOf "names" "Locks.names" (defArgs s_Locks_names) (defBody s_Locks_names) (defScope s_Locks_names) .none kVL_names dcL_names pmL_names anL_names cdL_names ctL_names), slL_names⟩)
    (cL_names : PySem.W.codeIn K cdL_names "Locks.names" = true)
    (kL_names : PySem.W.keepIn K (.ref fL_names) = true)
    (aD___init__ : PySem.W.findIn K (.ref CD) "__init__" = some (some (.ref fD___init__)))
    (iD___init__ : PySem.W.isFn K (.ref fD___init__) = true)
    (lD___init__ : K.lookup fD___init__ = some ⟨ocD___init__, odD___init__, .func (PySem.W.fnOf "__init__" "Door.__init__" (defArgs s_Door___init__) (defBody s_Door___init__) (defScope s_Door___init__) .none kVD___init__ dcD___init__ pmD___init__ anD___init__ cdD___init__ ctD___init__), slD___init__⟩)
    (cD___init__ : PySem.W.codeIn K cdD___init__ "Door.__init__" = true)
    (kD___init__ : PySem.W.keepIn K (.ref fD___init__) = true)
    (aD_start : PySem.W.findIn K (.ref CD) "start" = some (some (.ref pD_start)))
    (gD_start : PySem.W.specialIn K (.ref pD_start) "__get__" = some (some (.builtin "property.__get__")))
    (tD_start : PySem.W.takesIn K (.ref pD_start) = some true)
    (rD_start : PySem.W.recIn K pD_start "property" = some (.ref fD_start :: rsD_start))
    (lD_start : K.lookup fD_start = some ⟨ocD_start, odD_start, .func (PySem.W.fnOf "start" "Door.start" (defArgs s_Door_start) (defBody s_Door_start) (defScope s_Door_start) .none kVD_start dcD_start pmD_start anD_start cdD_start ctD_start), slD_start⟩)
    (cD_start : PySem.W.codeIn K cdD_start "Door.start" = true)
    (kD_start : PySem.W.keepIn K (.ref fD_start) = true)
    (aD_end : PySem.W.findIn K (.ref CD) "end" = some (some (.ref pD_end)))
    (gD_end : PySem.W.specialIn K (.ref pD_end) "__get__" = some (some (.builtin "property.__get__")))
    (tD_end : PySem.W.takesIn K (.ref pD_end) = some true)
    (rD_end : PySem.W.recIn K pD_end "property" = some (.ref fD_end :: rsD_end))
    (lD_end : K.lookup fD_end = some ⟨ocD_end, odD_end, .func (PySem.W.fnOf "end" "Door.end" (defArgs s_Door_end) (defBody s_Door_end) (defScope s_Door_end) .none kVD_end dcD_end pmD_end anD_end cdD_end ctD_end), slD_end⟩)
    (cD_end : PySem.W.codeIn K cdD_end "Door.end" = true)
    (kD_end : PySem.W.keepIn K (.ref fD_end) = true)
    (aD_key : PySem.W.findIn K (.ref CD) "key" = some (some (.ref pD_key)))
    (gD_key : PySem.W.specialIn K (.ref pD_key) "__get__" = some (some (.builtin "property.__get__")))
    (tD_key : PySem.W.takesIn K (.ref pD_key) = some true)
    (rD_key : PySem.W.recIn K pD_key "property" = some (.ref fD_key :: rsD_key))
    (lD_key : K.lookup fD_key = some ⟨ocD_key, odD_key, .func (PySem.W.fnOf "key" "Door.key" (defArgs s_Door_key) (defBody s_Door_key) (defScope s_Door_key) .none kVD_key dcD_key pmD_key anD_key cdD_key ctD_key), slD_key⟩)
    (cD_key : PySem.W.codeIn K cdD_key "Door.key" = true)
    (kD_key : PySem.W.keepIn K (.ref fD_key) = true)
    (aD_ways : PySem.W.findIn K (.ref CD) "ways" = some (some (.ref fD_ways)))
    (iD_ways : PySem.W.isFn K (.ref fD_ways) = true)
    (lD_ways : K.lookup fD_ways = some ⟨ocD_ways, odD_ways, .func (PySem.W.fnOf "ways" "Door.ways" (defArgs s_Door_ways) (defBody s_Door_ways) (defScope s_Door_ways) .none kVD_ways dcD_ways pmD_ways anD_ways cdD_ways ctD_ways), slD_ways⟩)
    (cD_ways : PySem.W.codeIn K cdD_ways "Door.ways" = true)
    (kD_ways : PySem.W.keepIn K (.ref fD_ways) = true)
    (aP___init__ : PySem.W.findIn K (.ref CP) "__init__" = some (some (.ref fP___init__)))
    (iP___init__ : PySem.W.isFn K (.ref fP___init__) = true)
    (lP___init__ : K.lookup fP___init__ = some ⟨ocP___init__, odP___init__, .func (PySem.W.fnOf "__init__" "Person.__init__" (defArgs s_Person___init__) (defBody s_Person___init__) (defScope s_Person___init__) .none kVP___init__ dcP___init__ pmP___init__ anP___init__ cdP___init__ ctP___init__), slP___init__⟩)
    (cP___init__ : PySem.W.codeIn K cdP___init__ "Person.__init__" = true)
    (kP___init__ : PySem.W.keepIn K (.ref fP___init__) = true)
    (aP_start : PySem.W.findIn K (.ref CP) "start" = some (some (.ref pP_start)))
    (gP_start : PySem.W.specialIn K (.ref pP_start) "__get__" = some (some (.builtin "property.__get__")))
    (tP_start : PySem.W.takesIn K (.ref pP_start) = some true)
    (rP_start : PySem.W.recIn K pP_start "property" = some (.ref fP_start :: rsP_start))
    (lP_start : K.lookup fP_start = some ⟨ocP_start, odP_start, .func (PySem.W.fnOf "start" "Person.start" (defArgs s_Person_start) (defBody s_Person_start) (defScope s_Person_start) .none kVP_start dcP_start pmP_start anP_start cdP_start ctP_start), slP_start⟩)
    (cP_start : PySem.W.codeIn K cdP_start "Person.start" = true)
    (kP_start : PySem.W.keepIn K (.ref fP_start) = true)
    (aP_carried : PySem.W.findIn K (.ref CP) "carried" = some (some (.ref pP_carried)))
    (gP_carried : PySem.W.specialIn K (.ref pP_carried) "__get__" = some (some (.builtin "property.__get__")))
    (tP_carried : PySem.W.takesIn K (.ref pP_carried) = some true)
    (rP_carried : PySem.W.recIn K pP_carried "property" = some (.ref fP_carried :: rsP_carried))
    (lP_carried : K.lookup fP_carried = some ⟨ocP_carried, odP_carried, .func (PySem.W.fnOf "carried" "Person.carried" (defArgs s_Person_carried) (defBody s_Person_carried) (defScope s_Person_carried) .none kVP_carried dcP_carried pmP_carried anP_carried cdP_carried ctP_carried), slP_carried⟩)
    (cP_carried : PySem.W.codeIn K cdP_carried "Person.carried" = true)
    (kP_carried : PySem.W.keepIn K (.ref fP_carried) = true)
    (aP_needs : PySem.W.findIn K (.ref CP) "needs" = some (some (.ref pP_needs)))
    (gP_needs : PySem.W.specialIn K (.ref pP_needs) "__get__" = some (some (.builtin "property.__get__")))
    (tP_needs : PySem.W.takesIn K (.ref pP_needs) = some true)
    (rP_needs : PySem.W.recIn K pP_needs "property" = some (.ref fP_needs :: rsP_needs))
    (lP_needs : K.lookup fP_needs = some ⟨ocP_needs, odP_needs, .func (PySem.W.fnOf "needs" "Person.needs" (defArgs s_Person_needs) (defBody s_Person_needs) (defScope s_Person_needs) .none kVP_needs dcP_needs pmP_needs anP_needs cdP_needs ctP_needs), slP_needs⟩)
    (cP_needs : PySem.W.codeIn K cdP_needs "Person.needs" = true)
    (kP_needs : PySem.W.keepIn K (.ref fP_needs) = true)
    (aP_shuns : PySem.W.findIn K (.ref CP) "shuns" = some (some (.ref pP_shuns)))
    (gP_shuns : PySem.W.specialIn K (.ref pP_shuns) "__get__" = some (some (.builtin "property.__get__")))
    (tP_shuns : PySem.W.takesIn K (.ref pP_shuns) = some true)
    (rP_shuns : PySem.W.recIn K pP_shuns "property" = some (.ref fP_shuns :: rsP_shuns))
    (lP_shuns : K.lookup fP_shuns = some ⟨ocP_shuns, odP_shuns, .func (PySem.W.fnOf "shuns" "Person.shuns" (defArgs s_Person_shuns) (defBody s_Person_shuns) (defScope s_Person_shuns) .none kVP_shuns dcP_shuns pmP_shuns anP_shuns cdP_shuns ctP_shuns), slP_shuns⟩)
    (cP_shuns : PySem.W.codeIn K cdP_shuns "Person.shuns" = true)
    (kP_shuns : PySem.W.keepIn K (.ref fP_shuns) = true)
    (aB___init__ : PySem.W.findIn K (.ref CB) "__init__" = some (some (.ref fB___init__)))
    (iB___init__ : PySem.W.isFn K (.ref fB___init__) = true)
    (lB___init__ : K.lookup fB___init__ = some ⟨ocB___init__, odB___init__, .func (PySem.W.fnOf "__init__" "Building.__init__" (defArgs s_Building___init__) (defBody s_Building___init__) (defScope s_Building___init__) .none kVB___init__ dcB___init__ pmB___init__ anB___init__ cdB___init__ ctB___init__), slB___init__⟩)
    (cB___init__ : PySem.W.codeIn K cdB___init__ "Building.__init__" = true)
    (kB___init__ : PySem.W.keepIn K (.ref fB___init__) = true)
    (aB_rooms : PySem.W.findIn K (.ref CB) "rooms" = some (some (.ref pB_rooms)))
    (gB_rooms : PySem.W.specialIn K (.ref pB_rooms) "__get__" = some (some (.builtin "property.__get__")))
    (tB_rooms : PySem.W.takesIn K (.ref pB_rooms) = some true)
    (rB_rooms : PySem.W.recIn K pB_rooms "property" = some (.ref fB_rooms :: rsB_rooms))
    (lB_rooms : K.lookup fB_rooms = some ⟨ocB_rooms, odB_rooms, .func (PySem.W.fnOf "rooms" "Building.rooms" (defArgs s_Building_rooms) (defBody s_Building_rooms) (defScope s_Building_rooms) .none kVB_rooms dcB_rooms pmB_rooms anB_rooms cdB_rooms ctB_rooms), slB_rooms⟩)
    (cB_rooms : PySem.W.codeIn K cdB_rooms "Building.rooms" = true)
    (kB_rooms : PySem.W.keepIn K (.ref fB_rooms) = true)
    (aB_key_rooms : PySem.W.findIn K (.ref CB) "key_rooms" = some (some (.ref pB_key_rooms)))
    (gB_key_rooms : PySem.W.specialIn K (.ref pB_key_rooms) "__get__" = some (some (.builtin "property.__get__")))
    (tB_key_rooms : PySem.W.takesIn K (.ref pB_key_rooms) = some true)
    (rB_key_rooms : PySem.W.recIn K pB_key_rooms "property" = some (.ref fB_key_rooms :: rsB_key_rooms))
    (lB_key_rooms : K.lookup fB_key_rooms = some ⟨ocB_key_rooms, odB_key_rooms, .func (PySem.W.fnOf "key_rooms" "Building.key_rooms" (defArgs s_Building_key_rooms) (defBody s_Building_key_rooms) (defScope s_Building_key_rooms) .none kVB_key_rooms dcB_key_rooms pmB_key_rooms anB_key_rooms cdB_key_rooms ctB_key_rooms), slB_key_rooms⟩)
    (cB_key_rooms : PySem.W.codeIn K cdB_key_rooms "Building.key_rooms" = true)
    (kB_key_rooms : PySem.W.keepIn K (.ref fB_key_rooms) = true)
    (aB_doors : PySem.W.findIn K (.ref CB) "doors" = some (some (.ref pB_doors)))
    (gB_doors : PySem.W.specialIn K (.ref pB_doors) "__get__" = some (some (.builtin "property.__get__")))
    (tB_doors : PySem.W.takesIn K (.ref pB_doors) = some true)
    (rB_doors : PySem.W.recIn K pB_doors "property" = some (.ref fB_doors :: rsB_doors))
    (lB_doors : K.lookup fB_doors = some ⟨ocB_doors, odB_doors, .func (PySem.W.fnOf "doors" "Building.doors" (defArgs s_Building_doors) (defBody s_Building_doors) (defScope s_Building_doors) .none kVB_doors dcB_doors pmB_doors anB_doors cdB_doors ctB_doors), slB_doors⟩)
    (cB_doors : PySem.W.codeIn K cdB_doors "Building.doors" = true)
    (kB_doors : PySem.W.keepIn K (.ref fB_doors) = true)
    (aB_door : PySem.W.findIn K (.ref CB) "door" = some (some (.ref fB_door)))
    (iB_door : PySem.W.isFn K (.ref fB_door) = true)
    (lB_door : K.lookup fB_door = some ⟨ocB_door, odB_door, .func (PySem.W.fnOf "door" "Building.door" (defArgs s_Building_door) (defBody s_Building_door) (defScope s_Building_door) .none kVB_door dcB_door pmB_door anB_door cdB_door ctB_door), slB_door⟩)
    (cB_door : PySem.W.codeIn K cdB_door "Building.door" = true)
    (kB_door : PySem.W.keepIn K (.ref fB_door) = true)
    (aB_person : PySem.W.findIn K (.ref CB) "person" = some (some (.ref fB_person)))
    (iB_person : PySem.W.isFn K (.ref fB_person) = true)
    (lB_person : K.lookup fB_person = some ⟨ocB_person, odB_person, .func (PySem.W.fnOf "person" "Building.person" (defArgs s_Building_person) (defBody s_Building_person) (defScope s_Building_person) .none kVB_person dcB_person pmB_person anB_person cdB_person ctB_person), slB_person⟩)
    (cB_person : PySem.W.codeIn K cdB_person "Building.person" = true)
    (kB_person : PySem.W.keepIn K (.ref fB_person) = true)
    (aW___init__ : PySem.W.findIn K (.ref CW) "__init__" = some (some (.ref fW___init__)))
    (iW___init__ : PySem.W.isFn K (.ref fW___init__) = true)
    (lW___init__ : K.lookup fW___init__ = some ⟨ocW___init__, odW___init__, .func (PySem.W.fnOf "__init__" "Walk.__init__" (defArgs s_Walk___init__) (defBody s_Walk___init__) (defScope s_Walk___init__) .none kVW___init__ dcW___init__ pmW___init__ anW___init__ cdW___init__ ctW___init__), slW___init__⟩)
    (cW___init__ : PySem.W.codeIn K cdW___init__ "Walk.__init__" = true)
    (kW___init__ : PySem.W.keepIn K (.ref fW___init__) = true)
    (aW_room : PySem.W.findIn K (.ref CW) "room" = some (some (.ref pW_room)))
    (gW_room : PySem.W.specialIn K (.ref pW_room) "__get__" = some (some (.builtin "property.__get__")))
    (tW_room : PySem.W.takesIn K (.ref pW_room) = some true)
    (rW_room : PySem.W.recIn K pW_room "property" = some (.ref fW_room :: rsW_room))
    (lW_room : K.lookup fW_room = some ⟨ocW_room, odW_room, .func (PySem.W.fnOf "room" "Walk.room" (defArgs s_Walk_room) (defBody s_Walk_room) (defScope s_Walk_room) .none kVW_room dcW_room pmW_room anW_room cdW_room ctW_room), slW_room⟩)
    (cW_room : PySem.W.codeIn K cdW_room "Walk.room" = true)
    (kW_room : PySem.W.keepIn K (.ref fW_room) = true)
    (aW_passed : PySem.W.findIn K (.ref CW) "passed" = some (some (.ref pW_passed)))
    (gW_passed : PySem.W.specialIn K (.ref pW_passed) "__get__" = some (some (.builtin "property.__get__")))
    (tW_passed : PySem.W.takesIn K (.ref pW_passed) = some true)
    (rW_passed : PySem.W.recIn K pW_passed "property" = some (.ref fW_passed :: rsW_passed))
    (lW_passed : K.lookup fW_passed = some ⟨ocW_passed, odW_passed, .func (PySem.W.fnOf "passed" "Walk.passed" (defArgs s_Walk_passed) (defBody s_Walk_passed) (defScope s_Walk_passed) .none kVW_passed dcW_passed pmW_passed anW_passed cdW_passed ctW_passed), slW_passed⟩)
    (cW_passed : PySem.W.codeIn K cdW_passed "Walk.passed" = true)
    (kW_passed : PySem.W.keepIn K (.ref fW_passed) = true)
    (aW_visited : PySem.W.findIn K (.ref CW) "visited" = some (some (.ref pW_visited)))
    (gW_visited : PySem.W.specialIn K (.ref pW_visited) "__get__" = some (some (.builtin "property.__get__")))
    (tW_visited : PySem.W.takesIn K (.ref pW_visited) = some true)
    (rW_visited : PySem.W.recIn K pW_visited "property" = some (.ref fW_visited :: rsW_visited))
    (lW_visited : K.lookup fW_visited = some ⟨ocW_visited, odW_visited, .func (PySem.W.fnOf "visited" "Walk.visited" (defArgs s_Walk_visited) (defBody s_Walk_visited) (defScope s_Walk_visited) .none kVW_visited dcW_visited pmW_visited anW_visited cdW_visited ctW_visited), slW_visited⟩)
    (cW_visited : PySem.W.codeIn K cdW_visited "Walk.visited" = true)
    (kW_visited : PySem.W.keepIn K (.ref fW_visited) = true)
    (aW_next_room : PySem.W.findIn K (.ref CW) "next_room" = some (some (.ref fW_next_room)))
    (iW_next_room : PySem.W.isFn K (.ref fW_next_room) = true)
    (lW_next_room : K.lookup fW_next_room = some ⟨ocW_next_room, odW_next_room, .func (PySem.W.fnOf "next_room" "Walk.next_room" (defArgs s_Walk_next_room) (defBody s_Walk_next_room) (defScope s_Walk_next_room) .none kVW_next_room dcW_next_room pmW_next_room anW_next_room cdW_next_room ctW_next_room), slW_next_room⟩)
    (cW_next_room : PySem.W.codeIn K cdW_next_room "Walk.next_room" = true)
    (kW_next_room : PySem.W.keepIn K (.ref fW_next_room) = true)
    (aW_go : PySem.W.findIn K (.ref CW) "go" = some (some (.ref fW_go)))
    (iW_go : PySem.W.isFn K (.ref fW_go) = true)
    (lW_go : K.lookup fW_go = some ⟨ocW_go, odW_go, .func (PySem.W.fnOf "go" "Walk.go" (defArgs s_Walk_go) (defBody s_Walk_go) (defScope s_Walk_go) .none kVW_go dcW_go pmW_go anW_go cdW_go ctW_go), slW_go⟩)
    (cW_go : PySem.W.codeIn K cdW_go "Walk.go" = true)
    (kW_go : PySem.W.keepIn K (.ref fW_go) = true)
    (aW_back : PySem.W.findIn K (.ref CW) "back" = some (some (.ref fW_back)))
    (iW_back : PySem.W.isFn K (.ref fW_back) = true)
    (lW_back : K.lookup fW_back = some ⟨ocW_back, odW_back, .func (PySem.W.fnOf "back" "Walk.back" (defArgs s_Walk_back) (defBody s_Walk_back) (defScope s_Walk_back) .none kVW_back dcW_back pmW_back anW_back cdW_back ctW_back), slW_back⟩)
    (cW_back : PySem.W.codeIn K cdW_back "Walk.back" = true)
    (kW_back : PySem.W.keepIn K (.ref fW_back) = true)
    (aW_ahead : PySem.W.findIn K (.ref CW) "ahead" = some (some (.ref fW_ahead)))
    (iW_ahead : PySem.W.isFn K (.ref fW_ahead) = true)
    (lW_ahead : K.lookup fW_ahead = some ⟨ocW_ahead, odW_ahead, .func (PySem.W.fnOf "ahead" "Walk.ahead" (defArgs s_Walk_ahead) (defBody s_Walk_ahead) (defScope s_Walk_ahead) .none kVW_ahead dcW_ahead pmW_ahead anW_ahead cdW_ahead ctW_ahead), slW_ahead⟩)
    (cW_ahead : PySem.W.codeIn K cdW_ahead "Walk.ahead" = true)
    (kW_ahead : PySem.W.keepIn K (.ref fW_ahead) = true)
    (aW___contains__ : PySem.W.findIn K (.ref CW) "__contains__" = some (some (.ref fW___contains__)))
    (iW___contains__ : PySem.W.isFn K (.ref fW___contains__) = true)
    (lW___contains__ : K.lookup fW___contains__ = some ⟨ocW___contains__, odW___contains__, .func (PySem.W.fnOf "__contains__" "Walk.__contains__" (defArgs s_Walk___contains__) (defBody s_Walk___contains__) (defScope s_Walk___contains__) .none kVW___contains__ dcW___contains__ pmW___contains__ anW___contains__ cdW___contains__ ctW___contains__), slW___contains__⟩)
    (cW___contains__ : PySem.W.codeIn K cdW___contains__ "Walk.__contains__" = true)
    (kW___contains__ : PySem.W.keepIn K (.ref fW___contains__) = true)
    (aW___len__ : PySem.W.findIn K (.ref CW) "__len__" = some (some (.ref fW___len__)))
    (iW___len__ : PySem.W.isFn K (.ref fW___len__) = true)
    (lW___len__ : K.lookup fW___len__ = some ⟨ocW___len__, odW___len__, .func (PySem.W.fnOf "__len__" "Walk.__len__" (defArgs s_Walk___len__) (defBody s_Walk___len__) (defScope s_Walk___len__) .none kVW___len__ dcW___len__ pmW___len__ anW___len__ cdW___len__ ctW___len__), slW___len__⟩)
    (cW___len__ : PySem.W.codeIn K cdW___len__ "Walk.__len__" = true)
    (kW___len__ : PySem.W.keepIn K (.ref fW___len__) = true)
    (aW___bool__ : PySem.W.findIn K (.ref CW) "__bool__" = some (some (.ref fW___bool__)))
    (iW___bool__ : PySem.W.isFn K (.ref fW___bool__) = true)
    (lW___bool__ : K.lookup fW___bool__ = some ⟨ocW___bool__, odW___bool__, .func (PySem.W.fnOf "__bool__" "Walk.__bool__" (defArgs s_Walk___bool__) (defBody s_Walk___bool__) (defScope s_Walk___bool__) .none kVW___bool__ dcW___bool__ pmW___bool__ anW___bool__ cdW___bool__ ctW___bool__), slW___bool__⟩)
    (cW___bool__ : PySem.W.codeIn K cdW___bool__ "Walk.__bool__" = true)
    (kW___bool__ : PySem.W.keepIn K (.ref fW___bool__) = true)
    (aW_along : PySem.W.findCls K (.ref CW) (.type "type") "along" = some (.get (.builtin "classmethod.__get__") (.ref pW_along) .none (.ref CW)))
    (rW_along : PySem.W.recIn K pW_along "classmethod" = some (.ref fW_along :: rsW_along))
    (iW_along : PySem.W.fnIn K fW_along = true)
    (rdW_along : PySem.W.readsIn K CW (.type "type") = true)
    (gaW_along : PySem.W.specialIn K (.ref CW) "__getattribute__" = some (some (.builtin "type.__getattribute__")))
    (lW_along : K.lookup fW_along = some ⟨ocW_along, odW_along, .func (PySem.W.fnOf "along" "Walk.along" (defArgs s_Walk_along) (defBody s_Walk_along) (defScope s_Walk_along) .none kVW_along dcW_along pmW_along anW_along cdW_along ctW_along), slW_along⟩)
    (cW_along : PySem.W.codeIn K cdW_along "Walk.along" = true)
    (kW_along : PySem.W.keepIn K (.ref fW_along) = true)
    (a_NoWay : PySem.W.nsIn K mainGlobals "NoWay" = some (some (.ref C_NoWay)))
    (ex_NoWay : PySem.W.excIn K C_NoWay [.type "ValueError", .type "Exception", .type "BaseException", .type "object"] "ValueError.__new__" = true)
    (ek_NoWay : PySem.W.keepIn K (.ref C_NoWay) = true)
    (eb_NoWay : PySem.W.subIn K (.ref C_NoWay) (.type "BaseException") = some true)
    (et_NoWay : PySem.W.typeIn K (.ref C_NoWay) = some (.type "type"))
    (ee_NoWay : PySem.W.exmOne K (.ref C_NoWay) (.ref C_NoWay) = some true)
    (tyg : PySem.W.specialIn K (.builtin "object.__class__") "__get__" = some (some (.builtin "getset_descriptor.__get__")))
    (tyt : PySem.W.takesIn K (.builtin "object.__class__") = some true)
    (v_LETTERS : PySem.W.nsIn K mainGlobals "LETTERS" = some (some (.str abc tk0)))
    (v_LONGEST : PySem.W.nsIn K mainGlobals "LONGEST" = some (some (.int 8 tk1)))
    (v_FEWEST_ROOMS : PySem.W.nsIn K mainGlobals "FEWEST_ROOMS" = some (some (.int 2 tk2)))
    (v_MOST_ROOMS : PySem.W.nsIn K mainGlobals "MOST_ROOMS" = some (some (.int 6 tk3)))
    (v_MOST_KEYS : PySem.W.nsIn K mainGlobals "MOST_KEYS" = some (some (.int 3 tk4)))
    (v_MOST_DOORS : PySem.W.nsIn K mainGlobals "MOST_DOORS" = some (some (.int 8 tk5)))
    (v_MOST_PEOPLE : PySem.W.nsIn K mainGlobals "MOST_PEOPLE" = some (some (.int 4 tk6)))
    (v_HIGHEST_COST : PySem.W.nsIn K mainGlobals "HIGHEST_COST" = some (some (.int 9 tk7)))
    (z0 : PySem.W.nsIn K mainGlobals "len" = some none)
    (z1 : PySem.W.nsIn K mainGlobals "isinstance" = some none)
    (z2 : PySem.W.nsIn K mainGlobals "str" = some none)
    (z3 : PySem.W.nsIn K mainGlobals "all" = some none)
    (z4 : PySem.W.nsIn K mainGlobals "set" = some none)
    (z5 : PySem.W.nsIn K mainGlobals "sorted" = some none)
    (z6 : PySem.W.nsIn K mainGlobals "tuple" = some none)
    (z7 : PySem.W.nsIn K mainGlobals "list" = some none)
    (z8 : PySem.W.nsIn K mainGlobals "bool" = some none)
    (z9 : PySem.W.nsIn K mainGlobals "range" = some none)
    (z10 : PySem.W.nsIn K mainGlobals "max" = some none)
    (z11 : PySem.W.nsIn K mainGlobals "min" = some none)
    (z12 : PySem.W.nsIn K mainGlobals "any" = some none)
    (z13 : PySem.W.nsIn K mainGlobals "sum" = some none)
    (z14 : PySem.W.nsIn K mainGlobals "int" = some none)
    (z15 : PySem.W.nsIn K mainGlobals "dict" = some none)
    : ∃ fd : FuncData, (∀ (s : Shared) (v : Value), BindsTo s fd ⟨[v], []⟩ [("_law_script", v)]) ∧ ∀ base : Heap, K.In base → base.Ns mainGlobals mg → FnOk l.prog w K mg base CX0 12 fa fd ["_law_script"] (spLaw K) := by
  have e := hfa.symm.trans (PySem.W.mg_of X G a_law)
  cases e
  have B : Blt mg := ⟨PySem.W.mg_none_of X G z0, PySem.W.mg_none_of X G z1, PySem.W.mg_none_of X G z2, PySem.W.mg_none_of X G z3, PySem.W.mg_none_of X G z4, PySem.W.mg_none_of X G z5, PySem.W.mg_none_of X G z6, PySem.W.mg_none_of X G z7, PySem.W.mg_none_of X G z8, PySem.W.mg_none_of X G z9, PySem.W.mg_none_of X G z10, PySem.W.mg_none_of X G z11, PySem.W.mg_none_of X G z12, PySem.W.mg_none_of X G z13, PySem.W.mg_none_of X G z14, PySem.W.mg_none_of X G z15⟩
  have F_is_name := fun_mk (st := s_is_name) l_is_name c_is_name k_is_name
  have F_are_names := fun_mk (st := s_are_names) l_are_names c_are_names k_are_names
  have F_all_in := fun_mk (st := s_all_in) l_all_in c_all_in k_all_in
  have F_check_other := fun_mk (st := s_check_other) l_check_other c_check_other k_check_other
  have F_is_cost := fun_mk (st := s_is_cost) l_is_cost c_is_cost k_is_cost
  have F_is_table := fun_mk (st := s_is_table) l_is_table c_is_table k_is_table
  have F_are_rooms := fun_mk (st := s_are_rooms) l_are_rooms c_are_rooms k_are_rooms
  have F_is_key := fun_mk (st := s_is_key) l_is_key c_is_key k_is_key
  have F_are_keys := fun_mk (st := s_are_keys) l_are_keys c_are_keys k_are_keys
  have F_fits_door := fun_mk (st := s_fits_door) l_fits_door c_fits_door k_fits_door
  have F_fits_person := fun_mk (st := s_fits_person) l_fits_person c_fits_person k_fits_person
  have F_are_doors := fun_mk (st := s_are_doors) l_are_doors c_are_doors k_are_doors
  have F_are_people := fun_mk (st := s_are_people) l_are_people c_are_people k_are_people
  have F_check_building := fun_mk (st := s_check_building) l_check_building c_check_building k_check_building
  have F_check_locks := fun_mk (st := s_check_locks) l_check_locks c_check_locks k_check_locks
  have F_are_doors_of := fun_mk (st := s_are_doors_of) l_are_doors_of c_are_doors_of k_are_doors_of
  have F_check_trail := fun_mk (st := s_check_trail) l_check_trail c_check_trail k_check_trail
  have F_keys_held := fun_mk (st := s_keys_held) l_keys_held c_keys_held k_keys_held
  have F_lets_through := fun_mk (st := s_lets_through) l_lets_through c_lets_through k_lets_through
  have F_room_behind := fun_mk (st := s_room_behind) l_room_behind c_room_behind k_room_behind
  have F__law_cell_at := fun_mk (st := s__law_cell_at) l__law_cell_at c__law_cell_at k__law_cell_at
  have F__law_draw := fun_mk (st := s__law_draw) l__law_draw c__law_draw k__law_draw
  have F__law_number := fun_mk (st := s__law_number) l__law_number c__law_number k__law_number
  have F__law_next := fun_mk (st := s__law_next) l__law_next c__law_next k__law_next
  have F__law_pick := fun_mk (st := s__law_pick) l__law_pick c__law_pick k__law_pick
  have F__law_some := fun_mk (st := s__law_some) l__law_some c__law_some k__law_some
  have F__law_drawn := fun_mk (st := s__law_drawn) l__law_drawn c__law_drawn k__law_drawn
  have F__law_building := fun_mk (st := s__law_building) l__law_building c__law_building k__law_building
  have F__law_locks := fun_mk (st := s__law_locks) l__law_locks c__law_locks k__law_locks
  have F__law_held := fun_mk (st := s__law_held) l__law_held c__law_held k__law_held
  have F__law_behind := fun_mk (st := s__law_behind) l__law_behind c__law_behind k__law_behind
  have F__law_refused := fun_mk (st := s__law_refused) l__law_refused c__law_refused k__law_refused
  have F__law_stands := fun_mk (st := s__law_stands) l__law_stands c__law_stands k__law_stands
  have F__law_one_right := fun_mk (st := s__law_one_right) l__law_one_right c__law_one_right k__law_one_right
  have F_law := fun_mk (st := s_law) l_law c_law k_law
  have FL___init__ := fun_mk (st := s_Locks___init__) lL___init__ cL___init__ kL___init__
  have FL___or__ := fun_mk (st := s_Locks___or__) lL___or__ cL___or__ kL___or__
  have FL___contains__ := fun_mk (st := s_Locks___contains__) lL___contains__ cL___contains__ kL___contains__
  have FL_names := fun_mk (st := s_Locks_names) lL_names cL_names kL_names
  have FD___init__ := fun_mk (st := s_Door___init__) lD___init__ cD___init__ kD___init__
  have FD_start := fun_mk (st := s_Door_start) lD_start cD_start kD_start
  have FD_end := fun_mk (st := s_Door_end) lD_end cD_end kD_end
  have FD_key := fun_mk (st := s_Door_key) lD_key cD_key kD_key
  have FD_ways := fun_mk (st := s_Door_ways) lD_ways cD_ways kD_ways
  have FP___init__ := fun_mk (st := s_Person___init__) lP___init__ cP___init__ kP___init__
  have FP_start := fun_mk (st := s_Person_start) lP_start cP_start kP_start
  have FP_carried := fun_mk (st := s_Person_carried) lP_carried cP_carried kP_carried
  have FP_needs := fun_mk (st := s_Person_needs) lP_needs cP_needs kP_needs
  have FP_shuns := fun_mk (st := s_Person_shuns) lP_shuns cP_shuns kP_shuns
  have FB___init__ := fun_mk (st := s_Building___init__) lB___init__ cB___init__ kB___init__
  have FB_rooms := fun_mk (st := s_Building_rooms) lB_rooms cB_rooms kB_rooms
  have FB_key_rooms := fun_mk (st := s_Building_key_rooms) lB_key_rooms cB_key_rooms kB_key_rooms
  have FB_doors := fun_mk (st := s_Building_doors) lB_doors cB_doors kB_doors
  have FB_door := fun_mk (st := s_Building_door) lB_door cB_door kB_door
  have FB_person := fun_mk (st := s_Building_person) lB_person cB_person kB_person
  have FW___init__ := fun_mk (st := s_Walk___init__) lW___init__ cW___init__ kW___init__
  have FW_room := fun_mk (st := s_Walk_room) lW_room cW_room kW_room
  have FW_passed := fun_mk (st := s_Walk_passed) lW_passed cW_passed kW_passed
  have FW_visited := fun_mk (st := s_Walk_visited) lW_visited cW_visited kW_visited
  have FW_next_room := fun_mk (st := s_Walk_next_room) lW_next_room cW_next_room kW_next_room
  have FW_go := fun_mk (st := s_Walk_go) lW_go cW_go kW_go
  have FW_back := fun_mk (st := s_Walk_back) lW_back cW_back kW_back
  have FW_ahead := fun_mk (st := s_Walk_ahead) lW_ahead cW_ahead kW_ahead
  have FW___contains__ := fun_mk (st := s_Walk___contains__) lW___contains__ cW___contains__ kW___contains__
  have FW___len__ := fun_mk (st := s_Walk___len__) lW___len__ cW___len__ kW___len__
  have FW___bool__ := fun_mk (st := s_Walk___bool__) lW___bool__ cW___bool__ kW___bool__
  have FW_along := fun_mk (st := s_Walk_along) lW_along cW_along kW_along
  have b_is_name := F_is_name.binds (ps := ["value"]) fun _ _ _ _ _ _ us hl => match us, hl with | [_], _ => rfl
  have n_is_name : mg "is_name" = some (.ref f_is_name) := PySem.W.mg_of X G a_is_name
  have b_are_names := F_are_names.binds (ps := ["values"]) fun _ _ _ _ _ _ us hl => match us, hl with | [_], _ => rfl
  have n_are_names : mg "are_names" = some (.ref f_are_names) := PySem.W.mg_of X G a_are_names
  have b_all_in := F_all_in.binds (ps := ["names", "known"]) fun _ _ _ _ _ _ us hl => match us, hl with | [_, _], _ => rfl
  have n_all_in : mg "all_in" = some (.ref f_all_in) := PySem.W.mg_of X G a_all_in
  have b_check_other := F_check_other.binds (ps := ["other"]) fun _ _ _ _ _ _ us hl => match us, hl with | [_], _ => rfl
  have n_check_other : mg "check_other" = some (.ref f_check_other) := PySem.W.mg_of X G a_check_other
  have b_is_cost := F_is_cost.binds (ps := ["value"]) fun _ _ _ _ _ _ us hl => match us, hl with | [_], _ => rfl
  have n_is_cost : mg "is_cost" = some (.ref f_is_cost) := PySem.W.mg_of X G a_is_cost
  have b_is_table := F_is_table.binds (ps := ["value", "fewest", "most"]) fun _ _ _ _ _ _ us hl => match us, hl with | [_, _, _], _ => rfl
  have n_is_table : mg "is_table" = some (.ref f_is_table) := PySem.W.mg_of X G a_is_table
  have b_are_rooms := F_are_rooms.binds (ps := ["rooms"]) fun _ _ _ _ _ _ us hl => match us, hl with | [_], _ => rfl
  have n_are_rooms : mg "are_rooms" = some (.ref f_are_rooms) := PySem.W.mg_of X G a_are_rooms
  have b_is_key := F_is_key.binds (ps := ["name", "room", "rooms"]) fun _ _ _ _ _ _ us hl => match us, hl with | [_, _, _], _ => rfl
  have n_is_key : mg "is_key" = some (.ref f_is_key) := PySem.W.mg_of X G a_is_key
  have b_are_keys := F_are_keys.binds (ps := ["keys", "rooms"]) fun _ _ _ _ _ _ us hl => match us, hl with | [_, _], _ => rfl
  have n_are_keys : mg "are_keys" = some (.ref f_are_keys) := PySem.W.mg_of X G a_are_keys
  have b_fits_door := F_fits_door.binds (ps := ["door", "rooms", "keys"]) fun _ _ _ _ _ _ us hl => match us, hl with | [_, _, _], _ => rfl
  have n_fits_door : mg "fits_door" = some (.ref f_fits_door) := PySem.W.mg_of X G a_fits_door
  have b_fits_person := F_fits_person.binds (ps := ["person", "rooms", "keys"]) fun _ _ _ _ _ _ us hl => match us, hl with | [_, _, _], _ => rfl
  have n_fits_person : mg "fits_person" = some (.ref f_fits_person) := PySem.W.mg_of X G a_fits_person
  have b_are_doors := F_are_doors.binds (ps := ["doors", "rooms", "keys"]) fun _ _ _ _ _ _ us hl => match us, hl with | [_, _, _], _ => rfl
  have n_are_doors : mg "are_doors" = some (.ref f_are_doors) := PySem.W.mg_of X G a_are_doors
  have b_are_people := F_are_people.binds (ps := ["people", "rooms", "keys"]) fun _ _ _ _ _ _ us hl => match us, hl with | [_, _, _], _ => rfl
  have n_are_people : mg "are_people" = some (.ref f_are_people) := PySem.W.mg_of X G a_are_people
  have b_check_building := F_check_building.binds (ps := ["building"]) fun _ _ _ _ _ _ us hl => match us, hl with | [_], _ => rfl
  have n_check_building : mg "check_building" = some (.ref f_check_building) := PySem.W.mg_of X G a_check_building
  have b_check_locks := F_check_locks.binds (ps := ["building", "locks"]) fun _ _ _ _ _ _ us hl => match us, hl with | [_, _], _ => rfl
  have n_check_locks : mg "check_locks" = some (.ref f_check_locks) := PySem.W.mg_of X G a_check_locks
  have b_are_doors_of := F_are_doors_of.binds (ps := ["building", "names"]) fun _ _ _ _ _ _ us hl => match us, hl with | [_, _], _ => rfl
  have n_are_doors_of : mg "are_doors_of" = some (.ref f_are_doors_of) := PySem.W.mg_of X G a_are_doors_of
  have b_check_trail := F_check_trail.binds (ps := ["building", "trail"]) fun _ _ _ _ _ _ us hl => match us, hl with | [_, _], _ => rfl
  have n_check_trail : mg "check_trail" = some (.ref f_check_trail) := PySem.W.mg_of X G a_check_trail
  have b_keys_held := F_keys_held.binds (ps := ["building", "person", "rooms"]) fun _ _ _ _ _ _ us hl => match us, hl with | [_, _, _], _ => rfl
  have n_keys_held : mg "keys_held" = some (.ref f_keys_held) := PySem.W.mg_of X G a_keys_held
  have b_lets_through := F_lets_through.binds (ps := ["building", "person", "locks", "rooms", "name"]) fun _ _ _ _ _ _ us hl => match us, hl with | [_, _, _, _, _], _ => rfl
  have n_lets_through : mg "lets_through" = some (.ref f_lets_through) := PySem.W.mg_of X G a_lets_through
  have b_room_behind := F_room_behind.binds (ps := ["door", "room"]) fun _ _ _ _ _ _ us hl => match us, hl with | [_, _], _ => rfl
  have n_room_behind : mg "room_behind" = some (.ref f_room_behind) := PySem.W.mg_of X G a_room_behind
  have b__law_cell_at := F__law_cell_at.binds (ps := ["_law_script", "_law_k"]) fun _ _ _ _ _ _ us hl => match us, hl with | [_, _], _ => rfl
  have n__law_cell_at : mg "_law_cell_at" = some (.ref f__law_cell_at) := PySem.W.mg_of X G a__law_cell_at
  have b__law_draw := F__law_draw.binds (ps := ["_law_cell", "_law_k", "_law_below"]) fun _ _ _ _ _ _ us hl => match us, hl with | [_, _, _], _ => rfl
  have n__law_draw : mg "_law_draw" = some (.ref f__law_draw) := PySem.W.mg_of X G a__law_draw
  have b__law_number := F__law_number.binds (ps := ["_law_cell", "_law_k", "_law_below"]) fun _ _ _ _ _ _ us hl => match us, hl with | [_, _, _], _ => rfl
  have n__law_number : mg "_law_number" = some (.ref f__law_number) := PySem.W.mg_of X G a__law_number
  have b__law_next := F__law_next.binds (ps := ["_law_state", "_law_below"]) fun _ _ _ _ _ _ us hl => match us, hl with | [_, _], _ => rfl
  have n__law_next : mg "_law_next" = some (.ref f__law_next) := PySem.W.mg_of X G a__law_next
  have b__law_pick := F__law_pick.binds (ps := ["_law_state", "_law_things"]) fun _ _ _ _ _ _ us hl => match us, hl with | [_, _], _ => rfl
  have n__law_pick : mg "_law_pick" = some (.ref f__law_pick) := PySem.W.mg_of X G a__law_pick
  have b__law_some := F__law_some.binds (ps := ["_law_state", "_law_things", "_law_odds"]) fun _ _ _ _ _ _ us hl => match us, hl with | [_, _, _], _ => rfl
  have n__law_some : mg "_law_some" = some (.ref f__law_some) := PySem.W.mg_of X G a__law_some
  have b__law_drawn := F__law_drawn.binds (ps := ["_law_state", "_law_most"]) fun _ _ _ _ _ _ us hl => match us, hl with | [_, _], _ => rfl
  have n__law_drawn : mg "_law_drawn" = some (.ref f__law_drawn) := PySem.W.mg_of X G a__law_drawn
  have b__law_building := F__law_building.binds (ps := ["_law_drawn_here"]) fun _ _ _ _ _ _ us hl => match us, hl with | [_], _ => rfl
  have n__law_building : mg "_law_building" = some (.ref f__law_building) := PySem.W.mg_of X G a__law_building
  have b__law_locks := F__law_locks.binds (ps := ["_law_names"]) fun _ _ _ _ _ _ us hl => match us, hl with | [_], _ => rfl
  have n__law_locks : mg "_law_locks" = some (.ref f__law_locks) := PySem.W.mg_of X G a__law_locks
  have b__law_held := F__law_held.binds (ps := ["_law_drawn_here", "_law_name", "_law_rooms"]) fun _ _ _ _ _ _ us hl => match us, hl with | [_, _, _], _ => rfl
  have n__law_held : mg "_law_held" = some (.ref f__law_held) := PySem.W.mg_of X G a__law_held
  have b__law_behind := F__law_behind.binds (ps := ["_law_drawn_here", "_law_name", "_law_locked", "_law_rooms", "_law_one"]) fun _ _ _ _ _ _ us hl => match us, hl with | [_, _, _, _, _], _ => rfl
  have n__law_behind : mg "_law_behind" = some (.ref f__law_behind) := PySem.W.mg_of X G a__law_behind
  have b__law_refused := F__law_refused.binds (ps := ["_law_walk", "_law_one"]) fun _ _ _ _ _ _ us hl => match us, hl with | [_, _], _ => rfl
  have n__law_refused : mg "_law_refused" = some (.ref f__law_refused) := PySem.W.mg_of X G a__law_refused
  have b__law_stands := F__law_stands.binds (ps := ["_law_drawn_here", "_law_name", "_law_locked", "_law_walk", "_law_passed", "_law_rooms"]) fun _ _ _ _ _ _ us hl => match us, hl with | [_, _, _, _, _, _], _ => rfl
  have n__law_stands : mg "_law_stands" = some (.ref f__law_stands) := PySem.W.mg_of X G a__law_stands
  have b__law_one_right := F__law_one_right.binds (ps := ["_law_state"]) fun _ _ _ _ _ _ us hl => match us, hl with | [_], _ => rfl
  have n__law_one_right : mg "_law_one_right" = some (.ref f__law_one_right) := PySem.W.mg_of X G a__law_one_right
  have b_law := F_law.binds (ps := ["_law_script"]) fun _ _ _ _ _ _ us hl => match us, hl with | [_], _ => rfl
  have mL___init__ : Meth K CL "__init__" fL___init__ := ⟨aL___init__, iL___init__, kL___init__⟩
  have bL___or__ := FL___or__.binds (ps := ["self", "other"]) fun _ _ _ _ _ _ us hl => match us, hl with | [_, _], _ => rfl
  have mL___or__ : Meth K CL "__or__" fL___or__ := ⟨aL___or__, iL___or__, kL___or__⟩
  have bL___contains__ := FL___contains__.binds (ps := ["self", "name"]) fun _ _ _ _ _ _ us hl => match us, hl with | [_, _], _ => rfl
  have mL___contains__ : Meth K CL "__contains__" fL___contains__ := ⟨aL___contains__, iL___contains__, kL___contains__⟩
  have bL_names := FL_names.binds (ps := ["self"]) fun _ _ _ _ _ _ us hl => match us, hl with | [_], _ => rfl
  have oL_names : PropOf K CL "names" pL_names fL_names := ⟨aL_names, gL_names, tL_names, rsL_names, rL_names⟩
  have mD___init__ : Meth K CD "__init__" fD___init__ := ⟨aD___init__, iD___init__, kD___init__⟩
  have bD_start := FD_start.binds (ps := ["self"]) fun _ _ _ _ _ _ us hl => match us, hl with | [_], _ => rfl
  have oD_start : PropOf K CD "start" pD_start fD_start := ⟨aD_start, gD_start, tD_start, rsD_start, rD_start⟩
  have bD_end := FD_end.binds (ps := ["self"]) fun _ _ _ _ _ _ us hl => match us, hl with | [_], _ => rfl
  have oD_end : PropOf K CD "end" pD_end fD_end := ⟨aD_end, gD_end, tD_end, rsD_end, rD_end⟩
  have bD_key := FD_key.binds (ps := ["self"]) fun _ _ _ _ _ _ us hl => match us, hl with | [_], _ => rfl
  have oD_key : PropOf K CD "key" pD_key fD_key := ⟨aD_key, gD_key, tD_key, rsD_key, rD_key⟩
  have bD_ways := FD_ways.binds (ps := ["self"]) fun _ _ _ _ _ _ us hl => match us, hl with | [_], _ => rfl
  have mD_ways : Meth K CD "ways" fD_ways := ⟨aD_ways, iD_ways, kD_ways⟩
  have mP___init__ : Meth K CP "__init__" fP___init__ := ⟨aP___init__, iP___init__, kP___init__⟩
  have bP_start := FP_start.binds (ps := ["self"]) fun _ _ _ _ _ _ us hl => match us, hl with | [_], _ => rfl
  have oP_start : PropOf K CP "start" pP_start fP_start := ⟨aP_start, gP_start, tP_start, rsP_start, rP_start⟩
  have bP_carried := FP_carried.binds (ps := ["self"]) fun _ _ _ _ _ _ us hl => match us, hl with | [_], _ => rfl
  have oP_carried : PropOf K CP "carried" pP_carried fP_carried := ⟨aP_carried, gP_carried, tP_carried, rsP_carried, rP_carried⟩
  have bP_needs := FP_needs.binds (ps := ["self"]) fun _ _ _ _ _ _ us hl => match us, hl with | [_], _ => rfl
  have oP_needs : PropOf K CP "needs" pP_needs fP_needs := ⟨aP_needs, gP_needs, tP_needs, rsP_needs, rP_needs⟩
  have bP_shuns := FP_shuns.binds (ps := ["self"]) fun _ _ _ _ _ _ us hl => match us, hl with | [_], _ => rfl
  have oP_shuns : PropOf K CP "shuns" pP_shuns fP_shuns := ⟨aP_shuns, gP_shuns, tP_shuns, rsP_shuns, rP_shuns⟩
  have bB___init__ := FB___init__.binds (ps := ["self", "rooms", "keys", "doors", "people"]) fun _ _ _ _ _ _ us hl => match us, hl with | [_, _, _, _, _], _ => rfl
  have mB___init__ : Meth K CB "__init__" fB___init__ := ⟨aB___init__, iB___init__, kB___init__⟩
  have bB_rooms := FB_rooms.binds (ps := ["self"]) fun _ _ _ _ _ _ us hl => match us, hl with | [_], _ => rfl
  have oB_rooms : PropOf K CB "rooms" pB_rooms fB_rooms := ⟨aB_rooms, gB_rooms, tB_rooms, rsB_rooms, rB_rooms⟩
  have bB_key_rooms := FB_key_rooms.binds (ps := ["self"]) fun _ _ _ _ _ _ us hl => match us, hl with | [_], _ => rfl
  have oB_key_rooms : PropOf K CB "key_rooms" pB_key_rooms fB_key_rooms := ⟨aB_key_rooms, gB_key_rooms, tB_key_rooms, rsB_key_rooms, rB_key_rooms⟩
  have bB_doors := FB_doors.binds (ps := ["self"]) fun _ _ _ _ _ _ us hl => match us, hl with | [_], _ => rfl
  have oB_doors : PropOf K CB "doors" pB_doors fB_doors := ⟨aB_doors, gB_doors, tB_doors, rsB_doors, rB_doors⟩
  have bB_door := FB_door.binds (ps := ["self", "name"]) fun _ _ _ _ _ _ us hl => match us, hl with | [_, _], _ => rfl
  have mB_door : Meth K CB "door" fB_door := ⟨aB_door, iB_door, kB_door⟩
  have bB_person := FB_person.binds (ps := ["self", "name"]) fun _ _ _ _ _ _ us hl => match us, hl with | [_, _], _ => rfl
  have mB_person : Meth K CB "person" fB_person := ⟨aB_person, iB_person, kB_person⟩
  have bW___init__ := FW___init__.binds (ps := ["self", "building", "name", "locks"]) fun _ _ _ _ _ _ us hl => match us, hl with | [_, _, _, _], _ => rfl
  have mW___init__ : Meth K CW "__init__" fW___init__ := ⟨aW___init__, iW___init__, kW___init__⟩
  have bW_room := FW_room.binds (ps := ["self"]) fun _ _ _ _ _ _ us hl => match us, hl with | [_], _ => rfl
  have oW_room : PropOf K CW "room" pW_room fW_room := ⟨aW_room, gW_room, tW_room, rsW_room, rW_room⟩
  have bW_passed := FW_passed.binds (ps := ["self"]) fun _ _ _ _ _ _ us hl => match us, hl with | [_], _ => rfl
  have oW_passed : PropOf K CW "passed" pW_passed fW_passed := ⟨aW_passed, gW_passed, tW_passed, rsW_passed, rW_passed⟩
  have bW_visited := FW_visited.binds (ps := ["self"]) fun _ _ _ _ _ _ us hl => match us, hl with | [_], _ => rfl
  have oW_visited : PropOf K CW "visited" pW_visited fW_visited := ⟨aW_visited, gW_visited, tW_visited, rsW_visited, rW_visited⟩
  have bW_next_room := FW_next_room.binds (ps := ["self", "name"]) fun _ _ _ _ _ _ us hl => match us, hl with | [_, _], _ => rfl
  have mW_next_room : Meth K CW "next_room" fW_next_room := ⟨aW_next_room, iW_next_room, kW_next_room⟩
  have bW_go := FW_go.binds (ps := ["self", "name"]) fun _ _ _ _ _ _ us hl => match us, hl with | [_, _], _ => rfl
  have mW_go : Meth K CW "go" fW_go := ⟨aW_go, iW_go, kW_go⟩
  have bW_back := FW_back.binds (ps := ["self"]) fun _ _ _ _ _ _ us hl => match us, hl with | [_], _ => rfl
  have mW_back : Meth K CW "back" fW_back := ⟨aW_back, iW_back, kW_back⟩
  have bW_ahead := FW_ahead.binds (ps := ["self"]) fun _ _ _ _ _ _ us hl => match us, hl with | [_], _ => rfl
  have mW_ahead : Meth K CW "ahead" fW_ahead := ⟨aW_ahead, iW_ahead, kW_ahead⟩
  have bW___contains__ := FW___contains__.binds (ps := ["self", "key"]) fun _ _ _ _ _ _ us hl => match us, hl with | [_, _], _ => rfl
  have mW___contains__ : Meth K CW "__contains__" fW___contains__ := ⟨aW___contains__, iW___contains__, kW___contains__⟩
  have bW___len__ := FW___len__.binds (ps := ["self"]) fun _ _ _ _ _ _ us hl => match us, hl with | [_], _ => rfl
  have mW___len__ : Meth K CW "__len__" fW___len__ := ⟨aW___len__, iW___len__, kW___len__⟩
  have bW___bool__ := FW___bool__.binds (ps := ["self"]) fun _ _ _ _ _ _ us hl => match us, hl with | [_], _ => rfl
  have mW___bool__ : Meth K CW "__bool__" fW___bool__ := ⟨aW___bool__, iW___bool__, kW___bool__⟩
  have bW_along := FW_along.binds (ps := ["cls", "building", "name", "locks", "doors"]) fun _ _ _ _ _ _ us hl => match us, hl with | [_, _, _, _, _], _ => rfl
  have mW_along : ClX.CMet K CW (.type "type") "along" pW_along fW_along := ⟨aW_along, ⟨_, rW_along⟩, iW_along⟩
  have X_NoWay : ExC K mg C_NoWay "NoWay" := ⟨PySem.W.mg_of X G a_NoWay, ex_NoWay, ek_NoWay, eb_NoWay, et_NoWay, ee_NoWay⟩
  have TL : LkC K mg CL := ⟨⟨pgL, hdL, poL, saL⟩, PySem.W.mg_of X G a_Locks, noL0, tycL, tyg, tyt, tymL, if_pos (beq_self_eq_true _), sfL, nbL⟩
  have TD : OwnC K mg CD "Door" ["kept_start", "kept_end", "kept_key", "kept_both", "kept_cost"] := ⟨⟨pgD, hdD, poD, saD⟩, PySem.W.mg_of X G a_Door, (fun f hf => by
    simp only [List.mem_cons, List.not_mem_nil, or_false] at hf
    rcases hf with rfl | rfl | rfl | rfl | rfl
    · exact noD0
    · exact noD1
    · exact noD2
    · exact noD3
    · exact noD4), tycD, tyg, tyt, tymD⟩
  have TP : OwnC K mg CP "Person" ["kept_start", "kept_carried", "kept_needs", "kept_shuns"] := ⟨⟨pgP, hdP, poP, saP⟩, PySem.W.mg_of X G a_Person, (fun f hf => by
    simp only [List.mem_cons, List.not_mem_nil, or_false] at hf
    rcases hf with rfl | rfl | rfl | rfl
    · exact noP0
    · exact noP1
    · exact noP2
    · exact noP3), tycP, tyg, tyt, tymP⟩
  have TB : OwnC K mg CB "Building" ["kept_rooms", "kept_keys", "door_names", "kept_doors", "person_names", "kept_people"] := ⟨⟨pgB, hdB, poB, saB⟩, PySem.W.mg_of X G a_Building, (fun f hf => by
    simp only [List.mem_cons, List.not_mem_nil, or_false] at hf
    rcases hf with rfl | rfl | rfl | rfl | rfl | rfl
    · exact noB0
    · exact noB1
    · exact noB2
    · exact noB3
    · exact noB4
    · exact noB5), tycB, tyg, tyt, tymB⟩
  have TW : OwnC K mg CW "Walk" ["kept_building", "kept_person", "kept_locks", "kept_passed", "kept_stops"] := ⟨⟨pgW, hdW, poW, saW⟩, PySem.W.mg_of X G a_Walk, (fun f hf => by
    simp only [List.mem_cons, List.not_mem_nil, or_false] at hf
    rcases hf with rfl | rfl | rfl | rfl | rfl
    · exact noW0
    · exact noW1
    · exact noW2
    · exact noW3
    · exact noW4), tycW, tyg, tyt, tymW⟩
  refine ⟨PySem.W.fnOf "law" "law" (defArgs s_law) (defBody s_law) (defScope s_law) .none kV_law dc_law pm_law an_law cd_law ct_law, fun s v => .of_eq rfl, fun base _ _ => ?_⟩
  have S : Cst mg := ⟨⟨tk0, PySem.W.mg_of X G v_LETTERS⟩, ⟨tk1, PySem.W.mg_of X G v_LONGEST⟩⟩
  have Li : Lim mg := ⟨⟨tk2, PySem.W.mg_of X G v_FEWEST_ROOMS⟩, ⟨tk3, PySem.W.mg_of X G v_MOST_ROOMS⟩, ⟨tk4, PySem.W.mg_of X G v_MOST_KEYS⟩, ⟨tk5, PySem.W.mg_of X G v_MOST_DOORS⟩, ⟨tk6, PySem.W.mg_of X G v_MOST_PEOPLE⟩⟩
  have oN : FnOk l.prog w K mg base CX0 1 f_is_name _ ["value"] spName := ok_name F_is_name B S
  have GN : Fn l.prog w K mg base 1 "is_name" ["value"] spName := ⟨⟨_, _, n_is_name, k_is_name, b_is_name, oN⟩⟩
  have GA : Fn l.prog w K mg base 2 "are_names" ["values"] (spAre K) := ⟨⟨_, _, n_are_names, k_are_names, b_are_names, ok_are F_are_names B oN b_is_name n_is_name k_is_name⟩⟩
  have GI : Fn l.prog w K mg base 1 "all_in" ["names", "known"] (spAllIn K) := ⟨⟨_, _, n_all_in, k_all_in, b_all_in, ok_allIn F_all_in B⟩⟩
  have GIL : Fn l.prog w K mg base 1 "all_in" ["names", "known"] (spAllInL K) := ⟨⟨_, _, n_all_in, k_all_in, b_all_in, ok_allInL F_all_in B⟩⟩
  have GID : Fn l.prog w K mg base 1 "all_in" ["names", "known"] (spAllInD K) := ⟨⟨_, _, n_all_in, k_all_in, b_all_in, ok_allInD F_all_in B⟩⟩
  have GCo : Fn l.prog w K mg base 1 "is_cost" ["value"] spCost := ⟨⟨_, _, n_is_cost, k_is_cost, b_is_cost, ok_cost F_is_cost B ⟨tk7, PySem.W.mg_of X G v_HIGHEST_COST⟩⟩⟩
  have oC : FnOk l.prog w K mg base CX0 1 f_check_other _ ["other"] (spCheck CL) := ok_check F_check_other B TL
  have ML : Mk K CL fL___init__ := ⟨mkL, aL___init__, iL___init__, kcL⟩
  have rL : FnR l.prog w K mg base CX0 2 fL___init__ (spNew CL) := ok_init FL___init__ B TL oN b_is_name n_is_name k_is_name
  have LT : LkT l.prog w K mg base CL := ⟨TL, ⟨_, ML, rL⟩, ⟨_, _, ⟨aL___or__, iL___or__⟩, ok_or FL___or__ TL oC b_check_other n_check_other k_check_other ML rL, bL___or__⟩⟩
  have HL : Has l.prog w K mg base CL := ⟨⟨_, _, ⟨aL___contains__, iL___contains__⟩, bL___contains__, ok_has FL___contains__ TL⟩⟩
  have PN : Pr l.prog w K mg base 1 CL "names" (spNames CL) := ⟨⟨_, _, _, oL_names, bL_names, ok_names FL_names B TL⟩⟩
  have DT : DoorT l.prog w K mg base CD := ⟨TD, ⟨⟨_, _, _, oD_start, bD_start, ok_getter FD_start ⟨rfl, rfl, rfl, by decide +kernel, rfl, by decide +kernel, by decide +kernel⟩ ⟨_, _, _, rfl⟩ TD.cl noD0⟩⟩,
    ⟨⟨_, _, _, oD_end, bD_end, ok_getter FD_end ⟨rfl, rfl, rfl, by decide +kernel, rfl, by decide +kernel, by decide +kernel⟩ ⟨_, _, _, rfl⟩ TD.cl noD1⟩⟩,
    ⟨⟨_, _, _, oD_key, bD_key, ok_getter FD_key ⟨rfl, rfl, rfl, by decide +kernel, rfl, by decide +kernel, by decide +kernel⟩ ⟨_, _, _, rfl⟩ TD.cl noD2⟩⟩⟩
  have PT : PersT l.prog w K mg base CP := ⟨TP, ⟨⟨_, _, _, oP_start, bP_start, ok_getter FP_start ⟨rfl, rfl, rfl, by decide +kernel, rfl, by decide +kernel, by decide +kernel⟩ ⟨_, _, _, rfl⟩ TP.cl noP0⟩⟩,
    ⟨⟨_, _, _, oP_carried, bP_carried, ok_getter FP_carried ⟨rfl, rfl, rfl, by decide +kernel, rfl, by decide +kernel, by decide +kernel⟩ ⟨_, _, _, rfl⟩ TP.cl noP1⟩⟩,
    ⟨⟨_, _, _, oP_needs, bP_needs, ok_getter FP_needs ⟨rfl, rfl, rfl, by decide +kernel, rfl, by decide +kernel, by decide +kernel⟩ ⟨_, _, _, rfl⟩ TP.cl noP2⟩⟩,
    ⟨⟨_, _, _, oP_shuns, bP_shuns, ok_getter FP_shuns ⟨rfl, rfl, rfl, by decide +kernel, rfl, by decide +kernel, by decide +kernel⟩ ⟨_, _, _, rfl⟩ TP.cl noP3⟩⟩⟩
  have MD : MkW l.prog w K mg base 3 CD "Door" ["self", "start", "end", "key", "both", "cost"] ["key", "both", "cost"] 2 (spDoor CD) := ⟨⟨_, _, ⟨mkD, aD___init__, iD___init__, kcD⟩, TD.mgC, kb_door FD___init__, ok_door FD___init__ B TD GA GN GCo⟩⟩
  have MP : MkW l.prog w K mg base 3 CP "Person" ["self", "start", "carried", "needs", "shuns"] ["carried", "needs", "shuns"] 1 (spPerson K CP) := ⟨⟨_, _, ⟨mkP, aP___init__, iP___init__, kcP⟩, TP.mgC, kb_person FP___init__, ok_person FP___init__ B TP GA GN⟩⟩
  have GT : Fn l.prog w K mg base 2 "is_table" ["value", "fewest", "most"] spTable := ⟨⟨_, _, n_is_table, k_is_table, b_is_table, ok_table F_is_table B GN⟩⟩
  have GRo : Fn l.prog w K mg base 3 "are_rooms" ["rooms"] (spRooms K) := ⟨⟨_, _, n_are_rooms, k_are_rooms, b_are_rooms, ok_rooms F_are_rooms B Li GA⟩⟩
  have GIK : Fn l.prog w K mg base 2 "is_key" ["name", "room", "rooms"] (spIsKey K) := ⟨⟨_, _, n_is_key, k_is_key, b_is_key, ok_isKey F_is_key GN⟩⟩
  have GKs : Fn l.prog w K mg base 3 "are_keys" ["keys", "rooms"] (spKeys K) := ⟨⟨_, _, n_are_keys, k_are_keys, b_are_keys, ok_keys F_are_keys B Li GT GIK⟩⟩
  have GFD : Fn l.prog w K mg base 3 "fits_door" ["door", "rooms", "keys"] (spFitsD K CD) := ⟨⟨_, _, n_fits_door, k_fits_door, b_fits_door, ok_fitsD F_fits_door B DT GI⟩⟩
  have GDs : Fn l.prog w K mg base 4 "are_doors" ["doors", "rooms", "keys"] (spDoors K CD) := ⟨⟨_, _, n_are_doors, k_are_doors, b_are_doors, ok_doors F_are_doors B Li GT GFD⟩⟩
  have GFP : Fn l.prog w K mg base 3 "fits_person" ["person", "rooms", "keys"] (spFitsP K CP) := ⟨⟨_, _, n_fits_person, k_fits_person, b_fits_person, ok_fitsP F_fits_person B PT GI GID⟩⟩
  have GPs : Fn l.prog w K mg base 4 "are_people" ["people", "rooms", "keys"] (spPeople K CP) := ⟨⟨_, _, n_are_people, k_are_people, b_are_people, ok_people F_are_people B Li GT GFP⟩⟩
  have MB : MkP l.prog w K mg base 5 CB "Building" ["self", "rooms", "keys", "doors", "people"] (spBld K CD CP CB) := ⟨⟨_, _, ⟨mkB, aB___init__, iB___init__, kcB⟩, TB.mgC, bB___init__, ok_bld FB___init__ B TB GRo GKs GDs GPs⟩⟩
  have PR : Pr l.prog w K mg base 1 CB "rooms" (getSp CB "kept_rooms") := ⟨⟨_, _, _, oB_rooms, bB_rooms, ok_getter FB_rooms ⟨rfl, rfl, rfl, by decide +kernel, rfl, by decide +kernel, by decide +kernel⟩ ⟨_, _, _, rfl⟩ TB.cl noB0⟩⟩
  have PK : Pr l.prog w K mg base 1 CB "key_rooms" (spKeyRooms K CD CP CB) := ⟨⟨_, _, _, oB_key_rooms, bB_key_rooms, ok_keyRooms FB_key_rooms B TB⟩⟩
  have PD : Pr l.prog w K mg base 1 CB "doors" (spBDoors K CD CP CB) := ⟨⟨_, _, _, oB_doors, bB_doors, ok_bDoors FB_doors B TB⟩⟩
  have MtD : Mt l.prog w K mg base 2 CB "door" ["self", "name"] (spDoorOf K CD CP CB) := ⟨⟨_, _, mB_door, bB_door, ok_doorOf FB_door TB GN⟩⟩
  have MtP : Mt l.prog w K mg base 2 CB "person" ["self", "name"] (spPersOf K CD CP CB) := ⟨⟨_, _, mB_person, bB_person, ok_persOf FB_person TB GN⟩⟩
  have GCh : Fn l.prog w K mg base 3 "check_locks" ["building", "locks"] (spChk K CD CP CB CL) := ⟨⟨_, _, n_check_locks, k_check_locks, b_check_locks, ok_chk F_check_locks B TL TB GIL PN PD⟩⟩
  have GH : Fn l.prog w K mg base 3 "keys_held" ["building", "person", "rooms"] (spHeld K CD CP CB) := ⟨⟨_, _, n_keys_held, k_keys_held, b_keys_held, ok_held F_keys_held B TB PT PK⟩⟩
  have GW : Gen l.prog w K mg base CD := ⟨⟨_, _, mD_ways, bD_ways, ok_ways FD_ways TD⟩⟩
  have GTh : Fn l.prog w K mg base 4 "lets_through" ["building", "person", "locks", "rooms", "name"] (spThru K CD CP CB CL) := ⟨⟨_, _, n_lets_through, k_lets_through, b_lets_through, ok_thru F_lets_through TB DT GH MtD HL⟩⟩
  have GCB : Fn l.prog w K mg base 1 "check_building" ["building"] (spChkB CB) := ⟨⟨_, _, n_check_building, k_check_building, b_check_building, ok_chkB F_check_building B TB⟩⟩
  have GDO : Fn l.prog w K mg base 3 "are_doors_of" ["building", "names"] (spDoorsOf K CD CP CB) := ⟨⟨_, _, n_are_doors_of, k_are_doors_of, b_are_doors_of, ok_doorsOf F_are_doors_of B TB GN PD⟩⟩
  have GCT : Fn l.prog w K mg base 4 "check_trail" ["building", "trail"] (spChkT K CD CP CB) := ⟨⟨_, _, n_check_trail, k_check_trail, b_check_trail, ok_chkT F_check_trail GDO⟩⟩
  have GBh : Fn l.prog w K mg base 3 "room_behind" ["door", "room"] (spBeh CD) := ⟨⟨_, _, n_room_behind, k_room_behind, b_room_behind, ok_beh F_room_behind DT GW⟩⟩
  have MWk : MkC l.prog w K mg base CW 4 ["self", "building", "name", "locks"] (spWIn K CD CP CB CL CW) := ⟨⟨_, _, ⟨mkW, aW___init__, iW___init__, kcW⟩, bW___init__, ok_wIn FW___init__ TB TW PT GCB MtP GCh⟩⟩
  have PWr : Pr l.prog w K mg base 1 CW "room" (spWRoom K CD CP CB CL CW) := ⟨⟨_, _, _, oW_room, bW_room, ok_wRoom FW_room TW⟩⟩
  have PWp : Pr l.prog w K mg base 1 CW "passed" (spWPassed K CD CP CB CL CW) := ⟨⟨_, _, _, oW_passed, bW_passed, ok_wPassed FW_passed B TW⟩⟩
  have PWv : Pr l.prog w K mg base 3 CW "visited" (spWVis K CD CP CB CL CW) := ⟨⟨_, _, _, oW_visited, bW_visited, ok_wVis FW_visited TB TW PR⟩⟩
  have MtN : Mt l.prog w K mg base 5 CW "next_room" ["self", "name"] (Lk.spNext K CD CP CB CL CW) := ⟨⟨_, _, mW_next_room, bW_next_room, ok_nextR FW_next_room TB TW GTh GBh MtD PWr⟩⟩
  have MtG : Mt l.prog w K mg base 6 CW "go" ["self", "name"] (spGo K CD CP CB CL CW) := ⟨⟨_, _, mW_go, bW_go, ok_go FW_go TW MtN⟩⟩
  have MtGX : MtX l.prog w K mg base 6 CW "go" ["self", "name"] (spGoX K CD CP CB CL CW C_NoWay) := ⟨⟨_, _, mW_go, bW_go, ok_goX FW_go TW X_NoWay MtN⟩⟩
  have MtBk : Mt l.prog w K mg base 1 CW "back" ["self"] (spBack K CD CP CB CL CW) := ⟨⟨_, _, mW_back, bW_back, ok_back FW_back TW⟩⟩
  have OpI : OpM l.prog w K mg base 4 CW "__contains__" ["self", "key"] (spWHas K CD CP CB CL CW) := ⟨⟨_, _, ⟨aW___contains__, iW___contains__⟩, bW___contains__, ok_wHas FW___contains__ TB TW GN PK GH⟩⟩
  have OpL : OpM l.prog w K mg base 1 CW "__len__" ["self"] (spWLen K CD CP CB CL CW) := ⟨⟨_, _, ⟨aW___len__, iW___len__⟩, bW___len__, ok_wLen FW___len__ B TW⟩⟩
  have OpB : OpM l.prog w K mg base 3 CW "__bool__" ["self"] (spWBool K CD CP CB CL CW) := ⟨⟨_, _, ⟨aW___bool__, iW___bool__⟩, bW___bool__, ok_wBool FW___bool__ PT TW⟩⟩
  have GnA : GnM l.prog w K mg base 6 CW "ahead" (spAhead K CD CP CB CL CW) := ⟨⟨_, _, mW_ahead, bW_ahead, ok_ahead FW_ahead TB TW PD MtN⟩⟩
  have CmA : CmM l.prog w K mg base 7 CW "along" (spAlong K CD CP CB CL CW) := ⟨⟨_, _, _, ⟨rdW_along, gaW_along⟩, mW_along, fnR_of (ok_along FW_along TW MWk GCT MtG) bW_along⟩⟩
  have oc : FnOk l.prog w K mg base CX0 1 f__law_cell_at _ ["_law_script", "_law_k"] (spCell K) := ok_cell F__law_cell_at B.len
  have od : FnOk l.prog w K mg base CX0 1 f__law_draw _ ["_law_cell", "_law_k", "_law_below"] spDraw := ok_draw F__law_draw
  have om : FnOk l.prog w K mg base CX0 2 f__law_number _ ["_law_cell", "_law_k", "_law_below"] spNumber := ok_number F__law_number B.rng od b__law_draw n__law_draw k__law_draw
  have GX : Fn l.prog w K mg base 3 "_law_next" ["_law_state", "_law_below"] (spNx K) := ⟨⟨_, _, n__law_next, k__law_next, b__law_next, ok_nx (ok_next F__law_next oc b__law_cell_at n__law_cell_at k__law_cell_at om b__law_number n__law_number k__law_number)⟩⟩
  have QT : Fn l.prog w K mg base 4 "_law_pick" ["_law_state", "_law_things"] (spPickT K) := ⟨⟨_, _, n__law_pick, k__law_pick, b__law_pick, ok_pickT F__law_pick B GX⟩⟩
  have QL : Fn l.prog w K mg base 4 "_law_pick" ["_law_state", "_law_things"] (spPickL K) := ⟨⟨_, _, n__law_pick, k__law_pick, b__law_pick, ok_pickL F__law_pick B GX⟩⟩
  have ST : Fn l.prog w K mg base 4 "_law_some" ["_law_state", "_law_things", "_law_odds"] (spSomeT K) := ⟨⟨_, _, n__law_some, k__law_some, b__law_some, ok_someT F__law_some B GX⟩⟩
  have SL : Fn l.prog w K mg base 4 "_law_some" ["_law_state", "_law_things", "_law_odds"] (spSomeL K) := ⟨⟨_, _, n__law_some, k__law_some, b__law_some, ok_someL F__law_some B GX⟩⟩
  have GD : Fn l.prog w K mg base 5 "_law_drawn" ["_law_state", "_law_most"] (spDrawn K) := ⟨⟨_, _, n__law_drawn, k__law_drawn, b__law_drawn, ok_drawn F__law_drawn B GX QT QL ST SL⟩⟩
  have GB : Fn l.prog w K mg base 7 "_law_building" ["_law_drawn_here"] (spBuilt K CD CP CB) := ⟨⟨_, _, n__law_building, k__law_building, b__law_building, ok_built F__law_building MD MP MB⟩⟩
  have GL : Fn l.prog w K mg base 5 "_law_locks" ["_law_names"] (spLocks K CL) := ⟨⟨_, _, n__law_locks, k__law_locks, b__law_locks, ok_locks F__law_locks LT⟩⟩
  have GLH : Fn l.prog w K mg base 1 "_law_held" ["_law_drawn_here", "_law_name", "_law_rooms"] (spLHeld K) := ⟨⟨_, _, n__law_held, k__law_held, b__law_held, ok_lHeld F__law_held⟩⟩
  have GLB : Fn l.prog w K mg base 2 "_law_behind" ["_law_drawn_here", "_law_name", "_law_locked", "_law_rooms", "_law_one"] (spLBeh K) := ⟨⟨_, _, n__law_behind, k__law_behind, b__law_behind, ok_lBeh F__law_behind GLH⟩⟩
  have GLR : Fn l.prog w K mg base 7 "_law_refused" ["_law_walk", "_law_one"] (spLRef K CD CP CB CL CW) := ⟨⟨_, _, n__law_refused, k__law_refused, b__law_refused, ok_lRef F__law_refused TW X_NoWay MtGX⟩⟩
  have GSt : Fn l.prog w K mg base 10 "_law_stands" ["_law_drawn_here", "_law_name", "_law_locked", "_law_walk", "_law_passed", "_law_rooms"] (spStands K CD CP CB CL CW) := ⟨⟨_, _, n__law_stands, k__law_stands, b__law_stands, ok_stands F__law_stands B TW GLH GLB PWr PWp PWv OpL OpB OpI GnA⟩⟩
  have GO12 : Fn l.prog w K mg base 11 "_law_one_right" ["_law_state"] (spOne K) := ⟨⟨_, _, n__law_one_right, k__law_one_right, b__law_one_right, ok_one F__law_one_right B TW GX QL SL GD GB GL GLB GLR GSt MWk MtBk MtG CmA⟩⟩
  exact ok_law F_law B GO12
end Lw
set_option Elab.async false
set_option linter.all false
open PySem PySem.W PyProof.Rows
local macro_rules | `(tactic| o_head $H:term) => `(tactic| refine Lw.head_k (r := Lw.hdR) (q := Lw.hdQ) (M := 9000) (loose := Lw.hdN) (kwd := []) $H rfl (by kernel_rfl) (fun s => by kernel_rfl) (fun w => Lw.hdRun0 w) (by rfl) (by rfl) (by rfl) (by rfl) (by first | assumption | decide +kernel) (by decide +kernel) ⟨rfl, rfl, rfl, rfl, rfl, by decide +kernel⟩ ?_ ?_)
set_option maxRecDepth 100000 in
set_option maxHeartbeats 0 in
theorem PySem.Challenge.cw_lockdoors_k12_whole_walks_holds : PySem.Challenge.rw_lockdoors_k12_whole_walks.Holds := by
  w_on; o_law; k_head
  focus (w_witness2)
  k_fill
  refine L2.walk_of (l := PySem.Challenge.rw_lockdoors_k12_whole_walks) (n := 63) (k := 12) (x := "_law_script") (CX := fun _ => L2.CX0) (sp := fun w => Lw.spLaw _) rfl (by decide) rfl ⟨rfl, by decide, by decide⟩ (fun w h Y => PySem.W.kIn_of Y) ?F (fun _ _ a ns hl _ hS => ⟨a, ns, rfl, hS, hl, fun _ => rfl⟩) (fun _ _ _ _ _ h => h)
  case F =>
    intro w mg fa h KX G hmg
    refine' Lw.all_mk KX G hmg ?a_is_name ?l_is_name ?c_is_name ?k_is_name ?a_are_names ?l_are_names ?c_are_names ?k_are_names ?a_all_in ?l_all_in ?c_all_in ?k_all_in ?a_check_other ?l_check_other ?c_check_other ?k_check_other ?a_is_cost ?l_is_cost ?c_is_cost ?k_is_cost ?a_is_table ?l_is_table ?c_is_table ?k_is_table ?a_are_rooms ?l_are_rooms ?c_are_rooms ?k_are_rooms ?a_is_key ?l_is_key ?c_is_key ?k_is_key ?a_are_keys ?l_are_keys ?c_are_keys ?k_are_keys ?a_fits_door ?l_fits_door ?c_fits_door ?k_fits_door ?a_fits_person ?l_fits_person ?c_fits_person ?k_fits_person ?a_are_doors ?l_are_doors ?c_are_doors ?k_are_doors ?a_are_people ?l_are_people ?c_are_people ?k_are_people ?a_check_building ?l_check_building ?c_check_building ?k_check_building ?a_check_locks ?l_check_locks ?c_check_locks ?k_check_locks ?a_are_doors_of ?l_are_doors_of ?c_are_doors_of ?k_are_doors_of ?a_check_trail ?l_check_trail ?c_check_trail ?k_check_trail ?a_keys_held ?l_keys_held ?c_keys_held ?k_keys_held ?a_lets_through ?l_lets_through ?c_lets_through ?k_lets_through ?a_room_behind ?l_room_behind ?c_room_behind ?k_room_behind ?a__law_cell_at ?l__law_cell_at ?c__law_cell_at ?k__law_cell_at ?a__law_draw ?l__law_draw ?c__law_draw ?k__law_draw ?a__law_number ?l__law_number ?c__law_number ?k__law_number ?a__law_next ?l__law_next ?c__law_next ?k__law_next ?a__law_pick ?l__law_pick ?c__law_pick ?k__law_pick ?a__law_some ?l__law_some ?c__law_some ?k__law_some ?a__law_drawn ?l__law_drawn ?c__law_drawn ?k__law_drawn ?a__law_building ?l__law_building ?c__law_building ?k__law_building ?a__law_locks ?l__law_locks ?c__law_locks ?k__law_locks ?a__law_held ?l__law_held ?c__law_held ?k__law_held ?a__law_behind ?l__law_behind ?c__law_behind ?k__law_behind ?a__law_refused ?l__law_refused ?c__law_refused ?k__law_refused ?a__law_stands ?l__law_stands ?c__law_stands ?k__law_stands ?a__law_one_right ?l__law_one_right ?c__law_one_right ?k__law_one_right ?a_law ?l_law ?c_law ?k_law ?a_Locks ?pgL ?hdL ?poL ?saL ?mkL ?kcL ?tycL ?tymL ?sfL ?nbL ?noL0 ?a_Door ?pgD ?hdD ?poD ?saD ?mkD ?kcD ?tycD ?tymD ?noD0 ?noD1 ?noD2 ?noD3 ?noD4 ?a_Person ?pgP ?hdP ?poP ?saP ?mkP ?kcP ?tycP ?tymP ?noP0 ?noP1 ?noP2 ?noP3 ?a_Building ?pgB ?hdB ?poB ?saB ?mkB ?kcB ?tycB ?tymB ?noB0 ?noB1 ?noB2 ?noB3 ?noB4 ?noB5 ?a_Walk ?pgW ?hdW ?poW ?saW ?mkW ?kcW ?tycW ?tymW ?noW0 ?noW1 ?noW2 ?noW3 ?noW4 ?aL___init__ ?iL___init__ ?lL___init__ ?cL___init__ ?kL___init__ ?aL___or__ ?iL___or__ ?lL___or__ ?cL___or__ ?kL___or__ ?aL___contains__ ?iL___contains__ ?lL___contains__ ?cL___contains__ ?kL___contains__ ?aL_names ?gL_names ?tL_names ?rL_names ?lL_names ?cL_names ?kL_names ?aD___init__ ?iD___init__ ?lD___init__ ?cD___init__ ?kD___init__ ?aD_start ?gD_start ?tD_start ?rD_start ?lD_start ?cD_start ?kD_start ?aD_end ?gD_end ?tD_end ?rD_end ?lD_end ?cD_end ?kD_end ?aD_key ?gD_key ?tD_key ?rD_key ?lD_key ?cD_key ?kD_key ?aD_ways ?iD_ways ?lD_ways ?cD_ways ?kD_ways ?aP___init__ ?iP___init__ ?lP___init__ ?cP___init__ ?kP___init__ ?aP_start ?gP_start ?tP_start ?rP_start ?lP_start ?cP_start ?kP_start ?aP_carried ?gP_carried ?tP_carried ?rP_carried ?lP_carried ?cP_carried ?kP_carried ?aP_needs ?gP_needs ?tP_needs ?rP_needs ?lP_needs ?cP_needs ?kP_needs ?aP_shuns ?gP_shuns ?tP_shuns ?rP_shuns ?lP_shuns ?cP_shuns ?kP_shuns ?aB___init__ ?iB___init__ ?lB___init__ ?cB___init__ ?kB___init__ ?aB_rooms ?gB_rooms ?tB_rooms ?rB_rooms ?lB_rooms ?cB_rooms ?kB_rooms ?aB_key_rooms ?gB_key_rooms ?tB_key_rooms ?rB_key_rooms ?lB_key_rooms ?cB_key_rooms ?kB_key_rooms ?aB_doors ?gB_doors ?tB_doors ?rB_doors ?lB_doors ?cB_doors ?kB_doors ?aB_door ?iB_door ?lB_door ?cB_door ?kB_door ?aB_person ?iB_person ?lB_person ?cB_person ?kB_person ?aW___init__ ?iW___init__ ?lW___init__ ?cW___init__ ?kW___init__ ?aW_room ?gW_room ?tW_room ?rW_room ?lW_room ?cW_room ?kW_room ?aW_passed ?gW_passed ?tW_passed ?rW_passed ?lW_passed ?cW_passed ?kW_passed ?aW_visited ?gW_visited ?tW_visited ?rW_visited ?lW_visited ?cW_visited ?kW_visited ?aW_next_room ?iW_next_room ?lW_next_room ?cW_next_room ?kW_next_room ?aW_go ?iW_go ?lW_go ?cW_go ?kW_go ?aW_back ?iW_back ?lW_back ?cW_back ?kW_back ?aW_ahead ?iW_ahead ?lW_ahead ?cW_ahead ?kW_ahead ?aW___contains__ ?iW___contains__ ?lW___contains__ ?cW___contains__ ?kW___contains__ ?aW___len__ ?iW___len__ ?lW___len__ ?cW___len__ ?kW___len__ ?aW___bool__ ?iW___bool__ ?lW___bool__ ?cW___bool__ ?kW___bool__ ?aW_along ?rW_along ?iW_along ?rdW_along ?gaW_along ?lW_along ?cW_along ?kW_along ?a_NoWay ?ex_NoWay ?ek_NoWay ?eb_NoWay ?et_NoWay ?ee_NoWay ?tyg ?tyt ?v_LETTERS ?v_LONGEST ?v_FEWEST_ROOMS ?v_MOST_ROOMS ?v_MOST_KEYS ?v_MOST_DOORS ?v_MOST_PEOPLE ?v_HIGHEST_COST ?z0 ?z1 ?z2 ?z3 ?z4 ?z5 ?z6 ?z7 ?z8 ?z9 ?z10 ?z11 ?z12 ?z13 ?z14 ?z15
    (case a_is_name => k_is)
    (case l_is_name => k_is)
    (case c_is_name => k_is)
    (case k_is_name => k_is)
    (case a_are_names => k_is)
    (case l_are_names => k_is)
    (case c_are_names => k_is)
    (case k_are_names => k_is)
    (case a_all_in => k_is)
    (case l_all_in => k_is)
    (case c_all_in => k_is)
    (case k_all_in => k_is)
    (case a_check_other => k_is)
    (case l_check_other => k_is)
    (case c_check_other => k_is)
    (case k_check_other => k_is)
    (case a_is_cost => k_is)
    (case l_is_cost => k_is)
    (case c_is_cost => k_is)
    (case k_is_cost => k_is)
    (case a_is_table => k_is)
    (case l_is_table => k_is)
    (case c_is_table => k_is)
    (case k_is_table => k_is)
    (case a_are_rooms => k_is)
    (case l_are_rooms => k_is)
    (case c_are_rooms => k_is)
    (case k_are_rooms => k_is)
    (case a_is_key => k_is)
    (case l_is_key => k_is)
    (case c_is_key => k_is)
    (case k_is_key => k_is)
    (case a_are_keys => k_is)
    (case l_are_keys => k_is)
    (case c_are_keys => k_is)
    (case k_are_keys => k_is)
    (case a_fits_door => k_is)
    (case l_fits_door => k_is)
    (case c_fits_door => k_is)
    (case k_fits_door => k_is)
    (case a_fits_person => k_is)
    (case l_fits_person => k_is)
    (case c_fits_person => k_is)
    (case k_fits_person => k_is)
    (case a_are_doors => k_is)
    (case l_are_doors => k_is)
    (case c_are_doors => k_is)
    (case k_are_doors => k_is)
    (case a_are_people => k_is)
    (case l_are_people => k_is)
    (case c_are_people => k_is)
    (case k_are_people => k_is)
    (case a_check_building => k_is)
    (case l_check_building => k_is)
    (case c_check_building => k_is)
    (case k_check_building => k_is)
    (case a_check_locks => k_is)
    (case l_check_locks => k_is)
    (case c_check_locks => k_is)
    (case k_check_locks => k_is)
    (case a_are_doors_of => k_is)
    (case l_are_doors_of => k_is)
    (case c_are_doors_of => k_is)
    (case k_are_doors_of => k_is)
    (case a_check_trail => k_is)
    (case l_check_trail => k_is)
    (case c_check_trail => k_is)
    (case k_check_trail => k_is)
    (case a_keys_held => k_is)
    (case l_keys_held => k_is)
    (case c_keys_held => k_is)
    (case k_keys_held => k_is)
    (case a_lets_through => k_is)
    (case l_lets_through => k_is)
    (case c_lets_through => k_is)
    (case k_lets_through => k_is)
    (case a_room_behind => k_is)
    (case l_room_behind => k_is)
    (case c_room_behind => k_is)
    (case k_room_behind => k_is)
    (case a__law_cell_at => k_is)
    (case l__law_cell_at => k_is)
    (case c__law_cell_at => k_is)
    (case k__law_cell_at => k_is)
    (case a__law_draw => k_is)
    (case l__law_draw => k_is)
    (case c__law_draw => k_is)
    (case k__law_draw => k_is)
    (case a__law_number => k_is)
    (case l__law_number => k_is)
    (case c__law_number => k_is)
    (case k__law_number => k_is)
    (case a__law_next => k_is)
    (case l__law_next => k_is)
    (case c__law_next => k_is)
    (case k__law_next => k_is)
    (case a__law_pick => k_is)
    (case l__law_pick => k_is)
    (case c__law_pick => k_is)
    (case k__law_pick => k_is)
    (case a__law_some => k_is)
    (case l__law_some => k_is)
    (case c__law_some => k_is)
    (case k__law_some => k_is)
    (case a__law_drawn => k_is)
    (case l__law_drawn => k_is)
    (case c__law_drawn => k_is)
    (case k__law_drawn => k_is)
    (case a__law_building => k_is)
    (case l__law_building => k_is)
    (case c__law_building => k_is)
    (case k__law_building => k_is)
    (case a__law_locks => k_is)
    (case l__law_locks => k_is)
    (case c__law_locks => k_is)
    (case k__law_locks => k_is)
    (case a__law_held => k_is)
    (case l__law_held => k_is)
    (case c__law_held => k_is)
    (case k__law_held => k_is)
    (case a__law_behind => k_is)
    (case l__law_behind => k_is)
    (case c__law_behind => k_is)
    (case k__law_behind => k_is)
    (case a__law_refused => k_is)
    (case l__law_refused => k_is)
    (case c__law_refused => k_is)
    (case k__law_refused => k_is)
    (case a__law_stands => k_is)
    (case l__law_stands => k_is)
    (case c__law_stands => k_is)
    (case k__law_stands => k_is)
    (case a__law_one_right => k_is)
    (case l__law_one_right => k_is)
    (case c__law_one_right => k_is)
    (case k__law_one_right => k_is)
    (case a_law => k_is)
    (case l_law => k_is)
    (case c_law => k_is)
    (case k_law => k_is)
    (case a_Locks => k_is)
    (case pgL => k_is)
    (case hdL => k_is)
    (case poL => k_is)
    (case saL => k_is)
    (case mkL => k_is)
    (case kcL => k_is)
    (case tycL => k_is)
    (case tymL => k_is)
    (case sfL => k_is)
    (case nbL => k_is)
    (case noL0 => k_is)
    (case a_Door => k_is)
    (case pgD => k_is)
    (case hdD => k_is)
    (case poD => k_is)
    (case saD => k_is)
    (case mkD => k_is)
    (case kcD => k_is)
    (case tycD => k_is)
    (case tymD => k_is)
    (case noD0 => k_is)
    (case noD1 => k_is)
    (case noD2 => k_is)
    (case noD3 => k_is)
    (case noD4 => k_is)
    (case a_Person => k_is)
    (case pgP => k_is)
    (case hdP => k_is)
    (case poP => k_is)
    (case saP => k_is)
    (case mkP => k_is)
    (case kcP => k_is)
    (case tycP => k_is)
    (case tymP => k_is)
    (case noP0 => k_is)
    (case noP1 => k_is)
    (case noP2 => k_is)
    (case noP3 => k_is)
    (case a_Building => k_is)
    (case pgB => k_is)
    (case hdB => k_is)
    (case poB => k_is)
    (case saB => k_is)
    (case mkB => k_is)
    (case kcB => k_is)
    (case tycB => k_is)
    (case tymB => k_is)
    (case noB0 => k_is)
    (case noB1 => k_is)
    (case noB2 => k_is)
    (case noB3 => k_is)
    (case noB4 => k_is)
    (case noB5 => k_is)
    (case a_Walk => k_is)
    (case pgW => k_is)
    (case hdW => k_is)
    (case poW => k_is)
    (case saW => k_is)
    (case mkW => k_is)
    (case kcW => k_is)
    (case tycW => k_is)
    (case tymW => k_is)
    (case noW0 => k_is)
    (case noW1 => k_is)
    (case noW2 => k_is)
    (case noW3 => k_is)
    (case noW4 => k_is)
    (case aL___init__ => k_is)
    (case iL___init__ => k_is)
    (case lL___init__ => k_is)
    (case cL___init__ => k_is)
    (case kL___init__ => k_is)
    (case aL___or__ => k_is)
    (case iL___or__ => k_is)
    (case lL___or__ => k_is)
    (case cL___or__ => k_is)
    (case kL___or__ => k_is)
    (case aL___contains__ => k_is)
    (case iL___contains__ => k_is)
    (case lL___contains__ => k_is)
    (case cL___contains__ => k_is)
    (case kL___contains__ => k_is)
    (case aL_names => k_is)
    (case gL_names => k_is)
    (case tL_names => k_is)
    (case rL_names => k_is)
    (case lL_names => k_is)
    (case cL_names => k_is)
    (case kL_names => k_is)
    (case aD___init__ => k_is)
    (case iD___init__ => k_is)
    (case lD___init__ => k_is)
    (case cD___init__ => k_is)
    (case kD___init__ => k_is)
    (case aD_start => k_is)
    (case gD_start => k_is)
    (case tD_start => k_is)
    (case rD_start => k_is)
    (case lD_start => k_is)
    (case cD_start => k_is)
    (case kD_start => k_is)
    (case aD_end => k_is)
    (case gD_end => k_is)
    (case tD_end => k_is)
    (case rD_end => k_is)
    (case lD_end => k_is)
    (case cD_end => k_is)
    (case kD_end => k_is)
    (case aD_key => k_is)
    (case gD_key => k_is)
    (case tD_key => k_is)
    (case rD_key => k_is)
    (case lD_key => k_is)
    (case cD_key => k_is)
    (case kD_key => k_is)
    (case aD_ways => k_is)
    (case iD_ways => k_is)
    (case lD_ways => k_is)
    (case cD_ways => k_is)
    (case kD_ways => k_is)
    (case aP___init__ => k_is)
    (case iP___init__ => k_is)
    (case lP___init__ => k_is)
    (case cP___init__ => k_is)
    (case kP___init__ => k_is)
    (case aP_start => k_is)
    (case gP_start => k_is)
    (case tP_start => k_is)
    (case rP_start => k_is)
    (case lP_start => k_is)
    (case cP_start => k_is)
    (case kP_start => k_is)
    (case aP_carried => k_is)
    (case gP_carried => k_is)
    (case tP_carried => k_is)
    (case rP_carried => k_is)
    (case lP_carried => k_is)
    (case cP_carried => k_is)
    (case kP_carried => k_is)
    (case aP_needs => k_is)
    (case gP_needs => k_is)
    (case tP_needs => k_is)
    (case rP_needs => k_is)
    (case lP_needs => k_is)
    (case cP_needs => k_is)
    (case kP_needs => k_is)
    (case aP_shuns => k_is)
    (case gP_shuns => k_is)
    (case tP_shuns => k_is)
    (case rP_shuns => k_is)
    (case lP_shuns => k_is)
    (case cP_shuns => k_is)
    (case kP_shuns => k_is)
    (case aB___init__ => k_is)
    (case iB___init__ => k_is)
    (case lB___init__ => k_is)
    (case cB___init__ => k_is)
    (case kB___init__ => k_is)
    (case aB_rooms => k_is)
    (case gB_rooms => k_is)
    (case tB_rooms => k_is)
    (case rB_rooms => k_is)
    (case lB_rooms => k_is)
    (case cB_rooms => k_is)
    (case kB_rooms => k_is)
    (case aB_key_rooms => k_is)
    (case gB_key_rooms => k_is)
    (case tB_key_rooms => k_is)
    (case rB_key_rooms => k_is)
    (case lB_key_rooms => k_is)
    (case cB_key_rooms => k_is)
    (case kB_key_rooms => k_is)
    (case aB_doors => k_is)
    (case gB_doors => k_is)
    (case tB_doors => k_is)
    (case rB_doors => k_is)
    (case lB_doors => k_is)
    (case cB_doors => k_is)
    (case kB_doors => k_is)
    (case aB_door => k_is)
    (case iB_door => k_is)
    (case lB_door => k_is)
    (case cB_door => k_is)
    (case kB_door => k_is)
    (case aB_person => k_is)
    (case iB_person => k_is)
    (case lB_person => k_is)
    (case cB_person => k_is)
    (case kB_person => k_is)
    (case aW___init__ => k_is)
    (case iW___init__ => k_is)
    (case lW___init__ => k_is)
    (case cW___init__ => k_is)
    (case kW___init__ => k_is)
    (case aW_room => k_is)
    (case gW_room => k_is)
    (case tW_room => k_is)
    (case rW_room => k_is)
    (case lW_room => k_is)
    (case cW_room => k_is)
    (case kW_room => k_is)
    (case aW_passed => k_is)
    (case gW_passed => k_is)
    (case tW_passed => k_is)
    (case rW_passed => k_is)
    (case lW_passed => k_is)
    (case cW_passed => k_is)
    (case kW_passed => k_is)
    (case aW_visited => k_is)
    (case gW_visited => k_is)
    (case tW_visited => k_is)
    (case rW_visited => k_is)
    (case lW_visited => k_is)
    (case cW_visited => k_is)
    (case kW_visited => k_is)
    (case aW_next_room => k_is)
    (case iW_next_room => k_is)
    (case lW_next_room => k_is)
    (case cW_next_room => k_is)
    (case kW_next_room => k_is)
    (case aW_go => k_is)
    (case iW_go => k_is)
    (case lW_go => k_is)
    (case cW_go => k_is)
    (case kW_go => k_is)
    (case aW_back => k_is)
    (case iW_back => k_is)
    (case lW_back => k_is)
    (case cW_back => k_is)
    (case kW_back => k_is)
    (case aW_ahead => k_is)
    (case iW_ahead => k_is)
    (case lW_ahead => k_is)
    (case cW_ahead => k_is)
    (case kW_ahead => k_is)
    (case aW___contains__ => k_is)
    (case iW___contains__ => k_is)
    (case lW___contains__ => k_is)
    (case cW___contains__ => k_is)
    (case kW___contains__ => k_is)
    (case aW___len__ => k_is)
    (case iW___len__ => k_is)
    (case lW___len__ => k_is)
    (case cW___len__ => k_is)
    (case kW___len__ => k_is)
    (case aW___bool__ => k_is)
    (case iW___bool__ => k_is)
    (case lW___bool__ => k_is)
    (case cW___bool__ => k_is)
    (case kW___bool__ => k_is)
    (case aW_along => k_is)
    (case rW_along => k_is)
    (case iW_along => k_is)
    (case rdW_along => kernel_rfl)
    (case gaW_along => k_is)
    (case lW_along => k_is)
    (case cW_along => k_is)
    (case kW_along => k_is)
    (case a_NoWay => k_is)
    (case ex_NoWay => k_exc)
    (case ek_NoWay => k_is)
    (case eb_NoWay => k_is)
    (case et_NoWay => k_is)
    (case ee_NoWay => kernel_rfl)
    (case tyg => k_is)
    (case tyt => k_is)
    (case v_LETTERS => k_is)
    (case v_LONGEST => k_is)
    (case v_FEWEST_ROOMS => k_is)
    (case v_MOST_ROOMS => k_is)
    (case v_MOST_KEYS => k_is)
    (case v_MOST_DOORS => k_is)
    (case v_MOST_PEOPLE => k_is)
    (case v_HIGHEST_COST => k_is)
    (case z0 => k_is)
    (case z1 => k_is)
    (case z2 => k_is)
    (case z3 => k_is)
    (case z4 => k_is)
    (case z5 => k_is)
    (case z6 => k_is)
    (case z7 => k_is)
    (case z8 => k_is)
    (case z9 => k_is)
    (case z10 => k_is)
    (case z11 => k_is)
    (case z12 => k_is)
    (case z13 => k_is)
    (case z14 => k_is)
    (case z15 => k_is)
